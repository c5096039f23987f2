import PyProof.Rows.All
import Wide.All
import OpenK.AllK
import Wide.FinOn
import PyProof.DictStraight
import PyProof.SetKind
import PyProof.EqAt
import PyProof.EqKinds
import PyProof.TupleCall
import KE.BitLaws
import PyProof.ReprRoads
import PyProof.ReprBulk
import PyProof.Rows.RuleM_int
import KE.KSortTupG
import PyProof.Draws
import PyProof.EnumMake
import KE.KRevSl
import KE.KDictSum
import PyProof.Rows.SetFrom
import PyProof.Rows.SortShellAny
import PyProof.ListNew
import PyProof.WalksMore
import KE.KStar
import PyProof.TupleOfGen
import PyProof.TupleOfSeq
import PyProof.FactsAll.list_2
import PyProof.FactsAll.tuple_2
import PySem.Challenge.RW_frameshare_k26_best_stacks
section
set_option Elab.async false
set_option linter.all false
set_option maxRecDepth 100000
/-! ### tables of sets: a free slot is always found -/
namespace L2
open PySem
end L2
end
section
set_option Elab.async false
set_option linter.all false
set_option maxRecDepth 100000
namespace L2
open PySem
/-- a table that is as it should be: n of its slots are taken -/
structure TbG (t : SetTable) (n : Nat) : Prop where
  k : ∃ k, 3 ≤ k ∧ t.mask + 1 = 2 ^ k
  dm : t.dummies = #[]
  ri : t.place.toList.Pairwise (· < ·)
  sz : t.place.size = n
  nf : 5 * n < 3 * t.mask
  pl : t.plain = true
end L2
end
section
set_option Elab.async false
set_option linter.all false
set_option maxRecDepth 100000
namespace L2
open PySem
/-! ### sets of whole numbers as objects -/
def entKey (e : Int × Value) : Int × Option Int := (e.1, match e.2 with | .int n _ => some n | _ => none)
def keyEnt (n : Int) : Int × Option Int := (hashInt n, some n)
structure SetD (w : World) (es : Array (Int × Value)) (t : SetTable) (ns : List Int) : Prop where
  ke : es.toList.map entKey = ns.map keyEnt
  nd : ns.Nodup
  tb : TbG t es.size
  ld : t.led = !w.params.followText "set-order"
  sm : es.size < scanBound
def SetObj (w : World) (o : Obj) (ns : List Int) : Prop := o.ExactSet ∧ ∃ es ep t, o.data = .set es ep t ∧ SetD w es t ns
theorem entKey_int {e : Int × Value} {n : Int} (h : entKey e = keyEnt n) : e.1 = hashInt n ∧ ∃ t, e.2 = .int n t := by
  obtain ⟨a, v⟩ := e
  unfold entKey keyEnt at h
  cases v <;> simp at h
  exact ⟨h.1, _, by rw [h.2]⟩
section
variable {prog : Program} {w : World} {A : Around} {E : Value → Shared → Prop} {s : Shared}
theorem SetD.len {es : Array (Int × Value)} {t : SetTable} {ns : List Int} (d : SetD w es t ns) : es.size = ns.length := by
  have := congrArg List.length d.ke
  simpa using this
theorem SetD.mem {es : Array (Int × Value)} {t : SetTable} {ns : List Int} (d : SetD w es t ns) (x : Int) : (∃ e ∈ es.toList, (PySem.intKind prog w).is x e.2 = true) ↔ x ∈ ns := by
  constructor
  · rintro ⟨e, he, hx⟩
    have h1 : entKey e ∈ ns.map keyEnt := by rw [← d.ke]; exact List.mem_map_of_mem he
    obtain ⟨n, hn, h2⟩ := List.mem_map.mp h1
    obtain ⟨_, tk, h4⟩ := entKey_int h2.symm
    rw [h4] at hx
    rw [(PySem.intKind prog w).inj _ x n hx (intKind_is _ _ _ _)]
    exact hn
  · intro hx
    have h1 : keyEnt x ∈ es.toList.map entKey := by rw [d.ke]; exact List.mem_map_of_mem hx
    obtain ⟨e, he, h2⟩ := List.mem_map.mp h1
    obtain ⟨_, tk, h4⟩ := entKey_int h2
    exact ⟨e, he, by rw [h4]; exact intKind_is _ _ _ _⟩
end
end L2
namespace L2
open PySem
/-- what the table is, whatever is in it -/
structure SetG (w : World) (es : Array (Int × Value)) (t : SetTable) : Prop where
  tb : TbG t es.size
  ld : t.led = !w.params.followText "set-order"
theorem SetD.g {w : World} {es : Array (Int × Value)} {t : SetTable} {ns : List Int} (d : SetD w es t ns) : SetG w es t := ⟨d.tb, d.ld⟩
/-- a set, told by what is in it -/
def SetS (w : World) (o : Obj) (S : Int → Bool) (n : Nat) : Prop := ∃ ns : List Int, SetObj w o ns ∧ (∀ x, S x = true ↔ x ∈ ns) ∧ ns.length = n
end L2
end
set_option Elab.async false
set_option linter.all false
set_option maxRecDepth 100000
/-! THE HAND LAYER, for ints, bools, texts, own classes, lists, tuples, dicts, comprehensions, walks over dicts, enumerate, zip, reversed, texts, calls, loops. Paste it whole ahead of your own text; what your proof does not reach may be deleted. -/
namespace L2
open PySem PySem.Spec PyProof.Rows

/-- a key: an int or a str -/
abbrev Key := Sum Int Str
def keyIs : Key → Value → Bool
  | .inl k, v => Value.isInt k v
  | .inr x, v => Value.isStrOf x v
def keyH (w : World) : Key → Int
  | .inl k => hashInt k
  | .inr x => hashStr w x
theorem keyIs_shape : ∀ {k : Key} {v : Value}, keyIs k v = true → (∃ i t, k = Sum.inl i ∧ v = Value.int i t) ∨ (∃ x t, k = Sum.inr x ∧ v = Value.str x t)
  | .inl i, v, h => by
    obtain ⟨t, e⟩ := Value.isInt_shape (k := i) (v := v) h
    exact .inl ⟨i, t, rfl, e⟩
  | .inr x, v, h => by
    obtain ⟨t, e⟩ := Value.isStrOf_shape (x := x) (v := v) h
    exact .inr ⟨x, t, rfl, e⟩
theorem key_ll (a b : Int) : decide ((Sum.inl a : Key) = Sum.inl b) = (a == b) := by
  by_cases e : a = b
  · subst e; simp
  · have h : ¬ (Sum.inl a : Key) = Sum.inl b := fun q => e (Sum.inl.inj q)
    rw [decide_eq_false h]
    exact (beq_eq_false_iff_ne.mpr e).symm
theorem key_rr (a b : Str) : decide ((Sum.inr a : Key) = Sum.inr b) = decide (a = b) := by
  by_cases e : a = b
  · subst e; simp
  · have h : ¬ (Sum.inr a : Key) = Sum.inr b := fun q => e (Sum.inr.inj q)
    rw [decide_eq_false h, decide_eq_false e]
theorem key_lr (a : Int) (b : Str) : decide ((Sum.inl a : Key) = Sum.inr b) = false := decide_eq_false (fun q => nomatch q)
theorem key_rl (a : Str) (b : Int) : decide ((Sum.inr a : Key) = Sum.inl b) = false := decide_eq_false (fun q => nomatch q)

def mixKind (prog : Program) (w : World) : PySem.KeyKind prog w Key where
  is := keyIs
  hash := keyH w
  inj := fun v a b ha hb => by
    rcases keyIs_shape ha with ⟨i, t, rfl, rfl⟩ | ⟨x, t, rfl, rfl⟩
    · rcases keyIs_shape hb with ⟨j, u, rfl, e⟩ | ⟨y, u, rfl, e⟩
      · injection e with e1 _; rw [e1]
      · exact nomatch e
    · rcases keyIs_shape hb with ⟨j, u, rfl, e⟩ | ⟨y, u, rfl, e⟩
      · exact nomatch e
      · injection e with e1 _; rw [e1]
  byValue := fun k v h => by
    rcases keyIs_shape h with ⟨i, t, rfl, rfl⟩ | ⟨x, t, rfl, rfl⟩ <;> rfl
  pyHash := fun hv h => by
    rcases keyIs_shape hv with ⟨i, t, rfl, rfl⟩ | ⟨x, t, rfl, rfl⟩
    · exact wpAny_pyHash_int h
    · exact wpAny_pyHash_str h
  eqBool := fun hu hv h => by
    rcases keyIs_shape hu with ⟨i, t, rfl, rfl⟩ | ⟨x, t, rfl, rfl⟩
    · rcases keyIs_shape hv with ⟨j, u, rfl, rfl⟩ | ⟨y, u, rfl, rfl⟩
      · rw [key_ll] at h; exact wpAny_eqBool_int h
      · rw [key_lr] at h; exact SeqAt.EqAt.int_str i t y u _ _ _ _ h
    · rcases keyIs_shape hv with ⟨j, u, rfl, rfl⟩ | ⟨y, u, rfl, rfl⟩
      · rw [key_rl] at h; exact SeqAt.EqAt.str_int x t j u _ _ _ _ h
      · rw [key_rr] at h; exact wpAny_eqBool_str h
  «strs» := fun k x t v h => by
    rcases keyIs_shape h with ⟨i, u, rfl, e⟩ | ⟨y, u, rfl, e⟩
    · exact nomatch e
    · injection e with e1 _
      subst e1
      cases v <;> rfl

end L2

namespace L2
open PySem PySem.Spec PyProof.Rows

/-- a value, without the heap -/
inductive V where
  | non | bl (b : Bool) | int (i : Int) | str (x : Str) | byt (b : Array UInt8) | flt (b : UInt64) | ref (a : Addr) | ty (n : String)
  deriving DecidableEq

def RelV : V → Value → Prop
  | .non, u => u = Value.none
  | .bl b, u => u = Value.bool b
  | .int i, u => ∃ t, u = Value.int i t
  | .str x, u => ∃ t, u = Value.str x t
  | .byt b, u => ∃ t, u = Value.bytes b t
  | .flt b, u => ∃ t, u = Value.float b t
  | .ref a, u => u = Value.ref a
  | .ty n, u => u = Value.type n

abbrev Vals : List V → List Value → Prop := Paired RelV
theorem Vals.length {xs : List V} {us : List Value} (r : Vals xs us) : xs.length = us.length := Paired.length r
theorem Vals.get : ∀ {xs : List V} {us : List Value} {i : Nat} {x : V}, Vals xs us → xs[i]? = some x → ∃ u, us[i]? = some u ∧ RelV x u
  | _, _, _, _, .nil, e => by simp at e
  | _, _, 0, _, .cons r _, e => by simp at e; subst e; exact ⟨_, rfl, r⟩
  | _, _, i + 1, x, .cons _ t, e => by
    obtain ⟨u, h1, h2⟩ := Vals.get (i := i) (x := x) t (by simpa using e)
    exact ⟨u, by simpa using h1, h2⟩
theorem Vals.set {x : V} {u : Value} (r : RelV x u) : ∀ {xs : List V} {us : List Value} (i : Nat), Vals xs us → Vals (xs.set i x) (us.set i u)
  | _, _, _, .nil => .nil
  | _, _, 0, .cons _ t => .cons r t
  | _, _, i + 1, .cons q t => .cons q (Vals.set r i t)
theorem Vals.append : ∀ {xs ys : List V} {us ws : List Value}, Vals xs us → Vals ys ws → Vals (xs ++ ys) (us ++ ws)
  | _, _, _, _, .nil, s => s
  | _, _, _, _, .cons r t, s => .cons r (Vals.append t s)
theorem Vals.take : ∀ {xs : List V} {us : List Value} (n : Nat), Vals xs us → Vals (xs.take n) (us.take n)
  | _, _, 0, _ => .nil
  | _, _, _ + 1, .nil => .nil
  | _, _, n + 1, .cons r t => .cons r (Vals.take n t)
theorem Vals.drop : ∀ {xs : List V} {us : List Value} (n : Nat), Vals xs us → Vals (xs.drop n) (us.drop n)
  | _, _, 0, r => r
  | _, _, _ + 1, .nil => .nil
  | _, _, n + 1, .cons _ t => Vals.drop n t
def RelO : Option V → Option Value → Prop
  | some v, some u => RelV v u
  | none, none => True
  | _, _ => False
def KV {κ : Type} : List (κ × V) → List (κ × Value) → Prop := Paired fun (p : κ × V) (q : κ × Value) => p.1 = q.1 ∧ RelV p.2 q.2

/-- a key of a dict (00_mix): an int or a text -/
def kV : Key → V
  | .inl i => .int i
  | .inr x => .str x

/-- what stands at a tracked address -/
inductive HO where
  /-- a list -/
  | lst (xs : List V)
  /-- a tuple (never changes) -/
  | tup (xs : List V)
  /-- a dict whose keys are ints and texts; one whose keys are tuples of ints and texts (the empty one is both) -/
  | dK (kvs : List (Key × V)) | dT (kvs : List (List Key × V))
  /-- a set of ints: its members, its size -/
  | set (S : Int → Bool) (n : Nat)
  /-- an instance of the class at C, its dict at dx, its attributes -/
  | ins (C dx : Addr) (fs : List (Str × V))
  /-- the dict of the instance at x -/
  | own (x : Addr)
  /-- the dict of an exception -/
  | xd (fs : List (Str × V))
  /-- a bound method, f of x -/
  | met (f x : Addr)
  /-- a range object lo, lo + 1, .. below hi -/
  | rng (lo hi : Int)
  /-- a thing that is known to the object (the script; a dict while a loop walks it): read, never written while it is so -/
  | frz (o : Obj) (u : HO)
  /-- a code object's table -/
  | tbl (ps : Array Value)
  /-- any other thing, by what is true of its one object (a def of one's own: SetO a S n := HO.ext fun h => ..) -/
  | ext (φ : Heap → Prop)

abbrev Hp := Addr → Option HO
def upd (H : Hp) (a : Addr) (o : HO) : Hp := fun b => if b = a then some o else H b
theorem upd_same {H : Hp} {a : Addr} {o : HO} : upd H a o a = some o := by unfold upd; rw [if_pos rfl]
theorem upd_ne {H : Hp} {a b : Addr} {o : HO} (h : b ≠ a) : upd H a o b = H b := by unfold upd; rw [if_neg h]
/-- two objects of different content stand apart -/
theorem ne_of {H : Hp} {a b : Addr} {o u : HO} (h : H a = some o) (h' : H b = some u) (d : o ≠ u) : a ≠ b := by
  intro e; subst e; rw [h] at h'; exact d (Option.some.inj h')
theorem ne_of_none {H : Hp} {a b : Addr} {o : HO} (h : H a = some o) (h' : H b = none) : a ≠ b := by
  intro e; subst e; rw [h] at h'; cases h'

/-- an object without a dict of its own; with the bound of its length -/
def ND (h : Heap) (a : Addr) : Prop := ∃ o, h.get? a = some o ∧ o.dict = none
structure LenND (h : Heap) (a : Addr) (n : Nat) : Prop where
  le : n ≤ sizeLine
  nd : ND h a
theorem ND.new {h : Heap} {items : Array Value} : ND (h.push { cls := .type "tuple", data := .seq items }) h.objs.size := ⟨_, Heap.get?_push_size _ rfl, rfl⟩
/-- what stands in the table of a def's code that makes one lambda: nothing yet, or that lambda's code; ps = line, column, qualified name -/
def TabRows (H : Hp) (h : Heap) (a : Addr) (ps rows : Array Value) : Prop :=
  rows = #[] ∨ ∃ (pos : Pos) (q : Str) (t : Tok) (c' : Addr) (oc : Obj) (vs : Array Value) (tk : Tok), ps = #[rawInt pos.line, rawInt pos.col, .str q t] ∧ rows = #[rawInt pos.line, rawInt pos.col, .ref c'] ∧ H c' = some (.own a) ∧ h.get? c' = some oc ∧ oc.data = .fields vs ∧ vs[1]? = some (.str q tk)
section
variable (P : Program) (w : World)
def ObjOk (H : Hp) (h : Heap) (a : Addr) : HO → Prop
  | .lst xs => xs.length ≤ sizeLine ∧ ∃ (its : List Value) (n : Nat), Vals xs its ∧ h.get? a = some { cls := .type "list", data := .seq its.toArray n }
  | .tup xs => LenND h a xs.length ∧ ∃ its : List Value, Vals xs its ∧ IsTup h a its.toArray
  | .dK kvs => kvs.length ≤ sizeLine ∧ (a == sysModules) = false ∧ ∃ vs, KV kvs vs ∧ h.DictOf (mixKind P w) a vs
  | .dT kvs => kvs.length ≤ sizeLine ∧ (a == sysModules) = false ∧ ∃ xs : List (List Key × Addr × Value),
      Paired (fun (p : List Key × V) (q : List Key × Addr × Value) => p.1 = q.1 ∧ H q.2.1 = some (.tup (p.1.map kV)) ∧ RelV p.2 q.2.2) kvs xs ∧
      ∃ o es ep, h.get? a = some o ∧ o.ExactDict ∧ o.data = .dict es ep ∧ es.toList = xs.map (entryOfKey (tupleKind (mixKind P w))) ∧ (xs.map (·.1)).Nodup
  | .set S n => ∃ o, h.get? a = some o ∧ L2.SetS w o S n
  | .ins C dx fs => H dx = some (.own a) ∧ fs.length ≤ 1000 ∧ dx ≠ a ∧ h.get? a = some (PySem.W.instObj C dx) ∧
      ∃ mA, h.Ns1 dx mA ∧ (∀ f, RelO (fs.lookup f) (mA f)) ∧ PySem.Within mA (fs.map (·.1))
  | .own _ => ∃ o, h.get? a = some o
  | .xd fs => ∃ mA, h.Ns1 a mA ∧ ∀ f, RelO (fs.lookup f) (mA f)
  | .rng lo hi => ∃ t u v, h.get? a = some { cls := .type "range", data := .fields #[.int lo t, .int hi u, .int 1 v] }
  | .frz o u => h.get? a = some o ∧ ObjOk H h a u
  | .tbl ps => ∃ rows : Array Value, h.get? a = some { cls := .none, data := .fields rows } ∧ TabRows H h a ps rows
  | .met f x => h.get? a = some (PySem.W.methodObj (.ref f) (.ref x))
  | .ext φ => φ h ∧ (∃ o, h.get? a = some o) ∧ ∀ h1 h2 : Heap, φ h1 → (∀ o, h1.get? a = some o → h2.get? a = some o) → φ h2
/-- the abstract heap is held -/
def HOk (H : Hp) (h : Heap) : Prop := ∀ a o, H a = some o → ObjOk P w H h a o
end

section
variable {P : Program} {w : World} {H H' : Hp} {h h' : Heap} {a : Addr} {o : HO}
theorem ObjOk.lt (x : ObjOk P w H h a o) : a < h.objs.size := by
  cases o with
  | lst xs => obtain ⟨_, _, _, _, e⟩ := x; exact Heap.lt_size e
  | tup xs => obtain ⟨_, _, _, p⟩ := x; exact p.lt
  | dK kvs => obtain ⟨_, _, _, _, o, _, _, e, _⟩ := x; exact Heap.lt_size e
  | dT kvs => obtain ⟨_, _, _, _, o, _, _, e, _⟩ := x; exact Heap.lt_size e
  | set S n => obtain ⟨o, e, _⟩ := x; exact Heap.lt_size e
  | ins C dx fs => obtain ⟨_, _, _, e, _⟩ := x; exact Heap.lt_size e
  | own y => obtain ⟨_, e⟩ := x; exact Heap.lt_size e
  | xd fs => obtain ⟨_, ⟨_, _, _, e, _⟩, _⟩ := x; exact Heap.lt_size e
  | rng lo hi => obtain ⟨_, _, _, e⟩ := x; exact Heap.lt_size e
  | frz ob u => obtain ⟨e, _⟩ := x; exact Heap.lt_size e
  | tbl ps => obtain ⟨_, e, _⟩ := x; exact Heap.lt_size e
  | met f y => exact Heap.lt_size (show h.get? a = some _ from x)
  | ext φ => obtain ⟨_, ⟨_, e⟩, _⟩ := x; exact Heap.lt_size e
theorem Paired.mapP {α β : Type} {F G : α → β → Prop} : ∀ {l₁ : List α} {l₂ : List β}, Paired F l₁ l₂ → (∀ a b, F a b → G a b) → Paired G l₁ l₂
  | _, _, .nil, _ => .nil
  | _, _, .cons r t, f => .cons (f _ _ r) (Paired.mapP t f)
/-- what an object's description leans on: its own object, its own dict, the tuples -/
theorem ObjOk.stay (x : ObjOk P w H h a o) (k : ∀ b u, (b = a ∨ H b = some (.own a)) → h.get? b = some u → h'.get? b = some u)
    (ho : ∀ b, H b = some (.own a) → H' b = some (.own a)) (ht : ∀ b xs, H b = some (.tup xs) → H' b = some (.tup xs)) : ObjOk P w H' h' a o := by
  induction o with
  | lst xs => obtain ⟨z, its, n, r, e⟩ := x; exact ⟨z, its, n, r, k _ _ (.inl rfl) e⟩
  | tup xs => obtain ⟨z, its, r, ob, e, c⟩ := x; exact ⟨⟨z.le, let ⟨o', e1, e2⟩ := z.nd; ⟨o', k _ _ (.inl rfl) e1, e2⟩⟩, its, r, ob, k _ _ (.inl rfl) e, c⟩
  | dK kvs => obtain ⟨z, y, vs, r, ob, es, ep, e, c⟩ := x; exact ⟨z, y, vs, r, ob, es, ep, k _ _ (.inl rfl) e, c⟩
  | dT kvs =>
    obtain ⟨z, y, xs, r, ob, es, ep, e, c⟩ := x
    exact ⟨z, y, xs, Paired.mapP r fun p q z => ⟨z.1, ht _ _ z.2.1, z.2.2⟩, ob, es, ep, k _ _ (.inl rfl) e, c⟩
  | set S n => obtain ⟨ob, e, c⟩ := x; exact ⟨ob, k _ _ (.inl rfl) e, c⟩
  | ins C dx fs =>
    obtain ⟨d, z, ne, e, mA, ⟨od, es, ep, e2, c⟩, r⟩ := x
    exact ⟨ho _ d, z, ne, k _ _ (.inl rfl) e, mA, ⟨od, es, ep, k _ _ (.inr d) e2, c⟩, r⟩
  | own y => obtain ⟨ob, e⟩ := x; exact ⟨ob, k _ _ (.inl rfl) e⟩
  | xd fs => obtain ⟨mA, ⟨od, es, ep, e, c⟩, r⟩ := x; exact ⟨mA, ⟨od, es, ep, k _ _ (.inl rfl) e, c⟩, r⟩
  | rng lo hi => obtain ⟨t, u, v, e⟩ := x; exact ⟨t, u, v, k _ _ (.inl rfl) e⟩
  | frz ob u ih => obtain ⟨e, q⟩ := x; exact ⟨k _ _ (.inl rfl) e, ih q⟩
  | tbl ps =>
    obtain ⟨rows, e, r⟩ := x
    refine ⟨rows, k _ _ (.inl rfl) e, ?_⟩
    rcases r with r | ⟨pos, q, t, c', oc, vs, tk, e1, e2, e3, e4, e5, e6⟩
    · exact .inl r
    · exact .inr ⟨pos, q, t, c', oc, vs, tk, e1, e2, ho _ e3, k _ _ (.inr e3) e4, e5, e6⟩
  | met f y =>
    have e : h.get? a = some (PySem.W.methodObj (.ref f) (.ref y)) := x
    show h'.get? a = some (PySem.W.methodObj (.ref f) (.ref y))
    exact k a _ (.inl rfl) e
  | ext φ => obtain ⟨p, ⟨o, e⟩, st⟩ := x; exact ⟨st _ _ p fun o q => k _ _ (.inl rfl) q, ⟨o, k _ _ (.inl rfl) e⟩, st⟩
theorem HOk.lt (x : HOk P w H h) (e : H a = some o) : a < h.objs.size := (x a o e).lt
theorem HOk.fresh (x : HOk P w H h) (e : h.objs.size ≤ a) : H a = none := by
  cases q : H a with
  | none => rfl
  | some u => exact absurd (Nat.lt_of_lt_of_le (x.lt q) e) (Nat.lt_irrefl _)
/-- every object of the heap is kept -/
theorem HOk.kept (x : HOk P w H h) (k : ∀ b u, h.get? b = some u → h'.get? b = some u) : HOk P w H h' := fun a o e =>
  (x a o e).stay (fun b u _ q => k b u q) (fun _ q => q) fun _ _ q => q
/-- a new object is laid and tracked -/
theorem HOk.laid (x : HOk P w H h) (k : ∀ b u, h.get? b = some u → h'.get? b = some u) (hp : h.objs.size ≤ a) (new : ObjOk P w (upd H a o) h' a o) : HOk P w (upd H a o) h' := fun b u e => by
  have hn := x.fresh hp
  by_cases hb : b = a
  · subst hb; rw [upd_same] at e; cases e; exact new
  · rw [upd_ne hb] at e
    exact (x b u e).stay (fun c v _ q => k c v q) (fun c q => by rw [upd_ne (ne_of_none q hn)]; exact q) fun c xs q => by rw [upd_ne (ne_of_none q hn)]; exact q
end

/-- what may be read as u: it is u, or a known u -/
def Rd (H : Hp) (a : Addr) (u : HO) : Prop := H a = some u ∨ ∃ o, H a = some (.frz o u)
theorem Rd.of {H : Hp} {a : Addr} {u : HO} (h : H a = some u) : Rd H a u := .inl h
theorem Rd.ok {P : Program} {w : World} {H : Hp} {h : Heap} {a : Addr} {u : HO} (r : Rd H a u) (x : HOk P w H h) : ObjOk P w H h a u := by
  rcases r with r | ⟨o, r⟩
  · exact x a u r
  · obtain ⟨_, q⟩ := x a _ r
    exact q
/-- what may be written -/
def Mut : Option HO → Prop
  | some (.lst _) => True
  | some (.dK _) => True
  | some (.dT _) => True
  | some (.set _ _) => True
  | some (.ins _ _ _) => True
  | some (.ext _) => True
  | _ => False
section
variable {P : Program} {w : World} {H : Hp} {h h' : Heap} {x e : Addr} {o' : HO}
/-- the object at e is changed: x itself, or the dict of the instance x -/
theorem HOk.write (ok : HOk P w H h) (mu : Mut (H x)) (he : e = x ∨ H e = some (.own x)) (k : ∀ b u, b ≠ e → h.get? b = some u → h'.get? b = some u) (heo : ∃ u, h'.get? e = some u)
    (new : ObjOk P w (upd H x o') h' x o') : HOk P w (upd H x o') h' := fun b u q => by
  have nown : ∀ c y, H c = some (.own y) → c ≠ x := fun c y r z => by subst z; rw [r] at mu; exact mu
  have ntup : ∀ c xs, H c = some (.tup xs) → c ≠ x := fun c xs r z => by subst z; rw [r] at mu; exact mu
  by_cases hb : b = x
  · subst hb; rw [upd_same] at q; cases q; exact new
  · rw [upd_ne hb] at q
    by_cases hbe : b = e
    · have q' : H b = some (.own x) := by
        rcases he with z | z
        · exact absurd (hbe.trans z) hb
        · rw [hbe]; exact z
      rw [q] at q'; cases q'
      obtain ⟨v, hv⟩ := heo
      exact ⟨v, by rw [hbe]; exact hv⟩
    · refine (ok b u q).stay (fun c v hc r => k c v ?_ r) (fun c r => by rw [upd_ne (nown c b r)]; exact r) fun c xs r => by rw [upd_ne (ntup c xs r)]; exact r
      rcases hc with rfl | hc
      · exact hbe
      · rintro rfl
        rcases he with z | z
        · exact nown c b hc z
        · rw [hc] at z; cases z; exact hb rfl
end

/-! ### kept unless tracked; of the frames at fs (the callers') the slots may change (an exception that passes writes there); of the records at ex (iterators) nothing is said -/
structure Un (fs ex : List Addr) (H H' : Hp) (h h' : Heap) : Prop where
  keep : ∀ b o, h.get? b = some o → H b = none → b ∉ fs → b ∉ ex → h'.get? b = some o
  slot : ∀ b o, h.get? b = some o → H b = none → b ∈ fs → b ∉ ex → ∃ sl, h'.get? b = some { o with slots := sl }
  free : ∀ b o, h.get? b = some o → H b = none → b ∉ ex → H' b = none
  there : ∀ b o, h.get? b = some o → b ∉ ex → ∃ o', h'.get? b = some o'
  tups : ∀ b xs, H b = some (.tup xs) → H' b = some (.tup xs)
  frzs : ∀ b o u, H b = some (.frz o u) → H' b = some (.frz o u)
  tbls : ∀ b ps, H b = some (.tbl ps) → ∃ more, H' b = some (.tbl (ps ++ more))
section
variable {fs fs' ex ex' : List Addr} {H H1 H2 : Hp} {h h1 h2 h' : Heap} {a x e : Addr} {o : HO}
theorem Un.any (u : Un fs ex H H1 h h1) {b : Addr} {ob : Obj} (q : h.get? b = some ob) (n : H b = none) (hx : b ∉ ex) : ∃ sl, h1.get? b = some { ob with slots := sl } := by
  by_cases hb : b ∈ fs
  · exact u.slot b ob q n hb hx
  · exact ⟨ob.slots, u.keep b ob q n hb hx⟩
theorem Un.trans (a : Un fs ex H H1 h h1) (b : Un fs ex H1 H2 h1 h2) : Un fs ex H H2 h h2 where
  keep := fun c ob q n hc hx => b.keep c ob (a.keep c ob q n hc hx) (a.free c ob q n hx) hc hx
  slot := fun c ob q n hc hx => by
    obtain ⟨sl, e1⟩ := a.slot c ob q n hc hx
    obtain ⟨sl', e2⟩ := b.slot c _ e1 (a.free c ob q n hx) hc hx
    exact ⟨sl', e2⟩
  free := fun c ob q n hx => by
    obtain ⟨o', e1⟩ := a.there c ob q hx
    exact b.free c o' e1 (a.free c ob q n hx) hx
  there := fun c ob q hx => by
    obtain ⟨o', e1⟩ := a.there c ob q hx
    exact b.there c o' e1 hx
  tups := fun c xs q => b.tups c xs (a.tups c xs q)
  frzs := fun c ob xs q => b.frzs c ob xs (a.frzs c ob xs q)
  tbls := fun c ps q => by
    obtain ⟨m1, e1⟩ := a.tbls c ps q
    obtain ⟨m2, e2⟩ := b.tbls c _ e1
    exact ⟨m1 ++ m2, by rw [e2, Array.append_assoc]⟩
theorem Un.kept (k : ∀ b u, h.get? b = some u → h'.get? b = some u) : Un fs ex H H h h' :=
  ⟨fun b ob q _ _ _ => k b ob q, fun b ob q _ _ _ => ⟨ob.slots, k b ob q⟩, fun _ _ _ n _ => n, fun b ob q _ => ⟨ob, k b ob q⟩, fun _ _ q => q, fun _ _ _ q => q, fun _ ps q => ⟨#[], by rw [q]; simp⟩⟩
theorem Un.refl : Un fs ex H H h h := Un.kept fun _ _ q => q
theorem Un.laid (k : ∀ b u, h.get? b = some u → h'.get? b = some u) (hp : h.objs.size ≤ a) (hn : H a = none) : Un fs ex H (upd H a o) h h' where
  keep := fun b u q _ _ _ => k b u q
  slot := fun b u q _ _ _ => ⟨u.slots, k b u q⟩
  free := fun b u q n _ => by rw [upd_ne (Nat.ne_of_lt (Nat.lt_of_lt_of_le (Heap.lt_size q) hp))]; exact n
  there := fun b u q _ => ⟨u, k b u q⟩
  tups := fun b xs q => by rw [upd_ne (ne_of_none q hn)]; exact q
  frzs := fun b u xs q => by rw [upd_ne (ne_of_none q hn)]; exact q
  tbls := fun b ps q => ⟨#[], by rw [upd_ne (ne_of_none q hn), q]; simp⟩
theorem Un.write (mu : Mut (H x)) (he : e = x ∨ H e = some (.own x)) (k : ∀ b u, b ≠ e → h.get? b = some u → h'.get? b = some u) (heo : ∃ u, h'.get? e = some u) : Un fs ex H (upd H x o) h h' := by
  have hx : ∀ b, H b = none → b ≠ x := fun b n z => by subst z; rw [n] at mu; exact mu
  have hb : ∀ b, H b = none → b ≠ e := fun b n z => by
    subst z
    rcases he with r | r
    · exact hx b n r
    · rw [n] at r; cases r
  have hm : ∀ b u, H b = some u → ¬ Mut (some u) → b ≠ x := fun b u q nm z => by subst z; rw [q] at mu; exact nm mu
  refine ⟨fun b u q n _ _ => k b u (hb b n) q, fun b u q n _ _ => ⟨u.slots, k b u (hb b n) q⟩, fun b u q n _ => by rw [upd_ne (hx b n)]; exact n, fun b u q _ => ?_,
    fun b xs q => by rw [upd_ne (hm b _ q fun z => z)]; exact q, fun b u xs q => by rw [upd_ne (hm b _ q fun z => z)]; exact q, fun b ps q => ⟨#[], by rw [upd_ne (hm b _ q fun z => z), q]; simp⟩⟩
  by_cases hbe : b = e
  · subst hbe; exact heo
  · exact ⟨u, k b u hbe q⟩
theorem Un.mono (u : Un fs ex H H1 h h1) (hs : ∀ b ∈ fs, b ∈ fs') (hx : ∀ b ∈ ex, b ∈ ex') : Un fs' ex' H H1 h h1 :=
  ⟨fun b ob q n hb he => u.keep b ob q n (fun z => hb (hs b z)) fun z => he (hx b z), fun _ _ q n _ he => u.any q n fun z => he (hx _ z), fun b ob q n he => u.free b ob q n fun z => he (hx b z), fun b ob q he => u.there b ob q fun z => he (hx b z), u.tups, u.frzs, u.tbls⟩
end

/-! ### the heap without what is tracked -/
def trk (h : Heap) (H : Hp) : List Addr := (List.range h.objs.size).filter fun a => (H a).isSome
def hidT (h : Heap) (H : Hp) : Heap := PySem.W.hideAll h (trk h H)
theorem hidT_size (h : Heap) (H : Hp) : (hidT h H).objs.size = h.objs.size := PySem.W.hideAll_size _ _
theorem hidT_get {h : Heap} {H : Hp} {b : Addr} {o : Obj} (e : h.get? b = some o) (n : H b = none) : (hidT h H).get? b = some o :=
  PySem.W.hideAll_get _ e fun hm => by
    have q : (H b).isSome = true := (List.mem_filter.mp hm).2
    rw [n] at q; simp at q
theorem of_hidT {h : Heap} {H : Hp} {b : Addr} {o : Obj} (e : (hidT h H).get? b = some o) : h.get? b = some o ∧ H b = none := by
  have e' : h.get? b = some o := PySem.W.of_hideAll (trk h H) e
  refine ⟨e', ?_⟩
  cases q : H b with
  | none => rfl
  | some x =>
    have hm : b ∈ trk h H := List.mem_filter.mpr ⟨List.mem_range.mpr (Heap.lt_size e'), by simp [q]⟩
    have z : (hidT h H).get? b = none := PySem.W.hideAll_none (trk h H) hm
    rw [z] at e; cases e

/-! ### OpenK's ledger, filled with every new object but one -/
def allNews (g h : Heap) (L : Addr) : List (Addr × Obj) := (List.range h.objs.size).filterMap fun a => if a = L ∨ (g.get? a).isSome = true then none else (h.get? a).map fun o => (a, o)
def rest (g h : Heap) (L d : Addr) : List (Addr × Obj) := (allNews g h L).filter fun p => decide (p.1 ≠ d)
end L2

namespace L2
open PySem PySem.Spec PyProof.Rows

/-- the module's facts, over the base: the heap at the law's entry without what is tracked there -/
structure Mod (K : PySem.W.Frag) (mg : Str → Option Value) (base : Heap) : Prop where
  kin : K.In base
  glob : base.Ns mainGlobals mg
  blt : ∃ mb, base.Ns builtinsNs mb ∧ ∀ x : Str, x ≠ "__name__" → mb x = bootBuiltins x
  nolimit : base.NoLimit

/-- the context: a def's body (or a comprehension's block) running. base: fixed through the whole law; s₀, H₀: the entry; outer: the frames whose slots others may change (a def's callers); stack: all frames that run;
   ex: iterators that were made ahead of the entry and are walked here (a comprehension's); fn: the names whose cells were made at the entry (a def: all; a comprehension's block: its own); calm: not within an except suite; pn: pins that every state bears; xe: what is wanted of an exception that leaves the code -/
structure Cx where
  prog : Program
  w : World
  K : PySem.W.Frag
  mg : Str → Option Value
  base : Heap
  A : Around
  N : List Str
  s_0 : Shared
  H_0 : Hp
  env : Env
  outer : List Env
  stack : List Env
  ex : List Addr
  fn : Str → Bool
  calm : Bool
  pn : List (Addr × Obj)
  xe : Value → Shared → Prop
/-- the callers' frames -/
def frs (l : List Env) : List Addr := l.filterMap (·.frame)
abbrev Cx.fs (X : Cx) : List Addr := frs X.outer

def Vis (sc : Scope) (x : Str) : Prop := sc.names.lookup x = some .local ∨ sc.names.lookup x = some .cell ∨ sc.names.lookup x = some .free
def Loc (sc : Scope) (x : Str) : Prop := sc.names.lookup x = some .local ∨ sc.names.lookup x = some .cell
def Look (env : Env) (h : Heap) (m : Str → Option Value) (x : Str) (u : Value) : Prop :=
  (env.kindOf x = some .local ∧ m x = some u) ∨ ((env.kindOf x = some .cell ∨ env.kindOf x = some .free) ∧ ∃ c, env.cells.lookup x = some c ∧ h.IsCell c (some u))

structure Cx.Ok (X : Cx) : Prop where
  mod : Mod X.K X.mg X.base
  kind : X.env.scope.kind = .function
  glob : X.env.globals = mainGlobals
  blt : X.env.builtins = builtinsNs
  above : X.s_0.heap.objs.size ≤ X.env.locals
  inj : ∀ x y c, X.env.cells.lookup x = some c → X.env.cells.lookup y = some c → x = y
  has : ∀ x, (X.env.kindOf x = some .cell ∨ X.env.kindOf x = some .free) → ∃ c, X.env.cells.lookup x = some c
  cab : ∀ x c, X.fn x = true → X.env.cells.lookup x = some c → X.s_0.heap.objs.size ≤ c
  hd : X.calm = true → X.A.handled = none
  frames : X.A.frames = some X.stack
  stk : X.stack = X.outer ∨ (X.stack = X.env :: X.outer ∧ X.env.frame = some X.env.locals)
  exf : ∀ b ∈ X.ex, b ≠ X.env.locals ∧ ∀ x c, X.env.cells.lookup x = some c → c ≠ b
  bs : ∀ b o, X.base.get? b = some o → X.s_0.heap.get? b = some o ∧ X.H_0 b = none
  bsz : X.base.objs.size ≤ X.s_0.heap.objs.size
  noex : ∀ b o, X.base.get? b = some o → b ∉ X.ex
  exfs : ∀ b ∈ X.ex, b ∉ X.fs
  funs : X.s_0.heap.FunFrames X.base X.outer
  frf : ∀ b ∈ X.fs, X.H_0 b = none

structure Inv (X : Cx) (pins : List (Addr × Obj)) (σ : List (Option V)) (H : Hp) (s : Shared) : Prop where
  ok : X.Ok
  os : s.os = X.s_0.os
  bare : AllBare s.gens
  base : Un X.fs X.ex X.H_0 H X.s_0.heap s.heap
  loc : ∃ m, s.heap.Ns X.env.locals m ∧ ∀ (i : Nat) (x : Str) (v : V), X.N[i]? = some x → σ[i]? = some (some v) → Vis X.env.scope x → ∃ u, RelV v u ∧ Look X.env s.heap m x u
  cell : ∀ x c, X.env.cells.lookup x = some c → ∃ v, s.heap.IsCell c v
  free : H X.env.locals = none
  freeC : ∀ x c, X.env.cells.lookup x = some c → H c = none
  pin : ∀ p ∈ X.pn ++ pins, s.heap.get? p.1 = some p.2 ∧ H p.1 = none ∧ p.1 ≠ X.env.locals ∧ p.1 ∉ X.fs ∧ ∀ v, p.2.data ≠ .cell v
  hok : HOk X.prog X.w H s.heap
  len : σ.length = X.N.length

section
variable {X : Cx} {pins : List (Addr × Obj)} {σ : List (Option V)} {H H' : Hp} {s : Shared} {h' : Heap}

theorem Cx.Ok.nofr (ok : X.Ok) {b : Addr} {o : Obj} (e : X.base.get? b = some o) : b ∉ X.fs := fun hb => by
  have := (ok.funs.mem hb).1
  rw [e] at this; cases this
theorem Inv.bs (I : Inv X pins σ H s) : ∀ b o, X.base.get? b = some o → s.heap.get? b = some o ∧ H b = none := fun b o e =>
  ⟨I.base.keep b o (I.ok.bs b o e).1 (I.ok.bs b o e).2 (I.ok.nofr e) (I.ok.noex b o e), I.base.free b o (I.ok.bs b o e).1 (I.ok.bs b o e).2 (I.ok.noex b o e)⟩
theorem Inv.bk (I : Inv X pins σ H s) : ∀ b o, X.base.get? b = some o → s.heap.get? b = some o := fun b o e => (I.bs b o e).1
theorem Inv.mod (I : Inv X pins σ H s) : Mod X.K X.mg X.base := I.ok.mod
theorem Inv.kIn (I : Inv X pins σ H s) : X.K.In s.heap := I.ok.mod.kin.keeps I.bk
theorem Inv.nolimit (I : Inv X pins σ H s) : s.heap.NoLimit := I.ok.mod.nolimit.keeps I.bk
/-- the frame over the base: for OpenK's rules (K.In X.base is I.mod.kin) -/
theorem Inv.fr (I : Inv X pins σ H s) : ∃ m, Fr X.base X.env.locals s.heap m :=
  let ⟨m, hn, _⟩ := I.loc
  ⟨m, hn, I.bk, Nat.le_trans I.ok.bsz I.ok.above⟩
theorem Inv.lt (I : Inv X pins σ H s) : X.env.locals < s.heap.objs.size := let ⟨_, hn, _⟩ := I.loc; hn.lt
theorem Inv.sz (I : Inv X pins σ H s) : X.s_0.heap.objs.size ≤ s.heap.objs.size := Nat.le_trans I.ok.above (Nat.le_of_lt I.lt)
theorem Inv.nofs (I : Inv X pins σ H s) {a : Addr} (h : s.heap.objs.size ≤ a) : a ∉ X.fs := fun hb => by
  obtain ⟨_, o, ho, _⟩ := I.ok.funs.mem hb
  exact absurd (Nat.lt_of_lt_of_le (Heap.lt_size ho) (Nat.le_trans I.sz h)) (Nat.lt_irrefl _)
theorem Inv.cne (I : Inv X pins σ H s) : ∀ x c, X.env.cells.lookup x = some c → c ≠ X.env.locals := fun x c e z => by
  obtain ⟨v, o, ho, hd⟩ := I.cell x c e
  obtain ⟨m, ⟨o', es, ep, ho', hd', _⟩, _⟩ := I.loc
  rw [z, ho'] at ho; cases ho; rw [hd'] at hd; cases hd
theorem Inv.funs (I : Inv X pins σ H s) : s.heap.FunFrames X.base X.outer := by
  have all : ∀ (l : List Env), (∀ b ∈ frs l, b ∈ X.fs) → X.s_0.heap.FunFrames X.base l → s.heap.FunFrames X.base l := by
    intro l
    induction l with
    | nil => intro _ _; trivial
    | cons env r ih =>
      intro hs hl
      obtain ⟨hk, ⟨L, o, hf, hn, ho, hd⟩, hr⟩ := hl
      have hL : L ∈ X.fs := hs L (by unfold frs; rw [List.filterMap_cons, hf]; exact List.mem_cons_self)
      obtain ⟨sl, e⟩ := I.base.slot L o ho (I.ok.frf L hL) hL fun z => I.ok.exfs L z hL
      exact ⟨hk, ⟨L, _, hf, hn, e, hd⟩, ih (fun b hb => hs b (by unfold frs; rw [List.filterMap_cons, hf]; exact List.mem_cons_of_mem _ hb)) hr⟩
  exact all X.outer (fun _ hb => hb) I.ok.funs

/-- the frames that run, for a call -/
theorem Inv.stack (I : Inv X pins σ H s) : s.heap.FunFrames X.base X.stack := by
  rcases I.ok.stk with e | ⟨e, hf⟩
  · rw [e]; exact I.funs
  · rw [e]
    obtain ⟨m, hn, _⟩ := I.loc
    refine .cons (by rw [I.ok.kind]; decide) hf hn ?_ I.funs
    exact Heap.get?_none_of_le (Nat.le_trans I.ok.bsz I.ok.above)
theorem Inv.stkSub (I : Inv X pins σ H s) : ∀ b ∈ frs X.stack, b ∈ X.env.locals :: X.fs := fun b hb => by
  rcases I.ok.stk with e | ⟨e, hf⟩
  · rw [e] at hb; exact List.mem_cons_of_mem _ hb
  · rw [e] at hb
    unfold frs at hb
    rw [List.filterMap_cons, hf] at hb
    exact hb
theorem Inv.stkFree (I : Inv X pins σ H s) : ∀ b ∈ frs X.stack, H b = none := fun b hb => by
  rcases List.mem_cons.mp (I.stkSub b hb) with e | hb
  · rw [e]; exact I.free
  · obtain ⟨_, o, ho, _⟩ := I.ok.funs.mem hb
    exact I.base.free b o ho (I.ok.frf b hb) fun z => I.ok.exfs b z hb

/-- THE STEP: the untracked objects but the frame and the records at ch are kept (the callers' frames up to slots), the frame's map is kept, the new abstract heap is held -/
theorem Inv.step {g' : Array GenState} {t' : Nat} {d' : Drawn} {ch : List Addr} (I : Inv X pins σ H s)
    (hch : ∀ b ∈ ch, (b ∈ X.ex ∨ X.s_0.heap.objs.size ≤ b) ∧ b ≠ X.env.locals ∧ (∀ x c, X.env.cells.lookup x = some c → c ≠ b) ∧ ∀ p ∈ X.pn ++ pins, p.1 ≠ b)
    (keep : ∀ b o, b ≠ X.env.locals → b ∉ X.fs → b ∉ ch → s.heap.get? b = some o → H b = none → h'.get? b = some o)
    (slot : ∀ b o, b ≠ X.env.locals → b ∈ X.fs → b ∉ ch → s.heap.get? b = some o → H b = none → ∃ sl, h'.get? b = some { o with slots := sl }) (free : ∀ b o, b ∉ ch → s.heap.get? b = some o → H b = none → H' b = none)
    (there : ∀ b o, b ∉ ch → s.heap.get? b = some o → ∃ o', h'.get? b = some o')
    (tups : ∀ b xs, H b = some (.tup xs) → H' b = some (.tup xs)) (frzs : ∀ b o u, H b = some (.frz o u) → H' b = some (.frz o u)) (tbls : ∀ b ps, H b = some (.tbl ps) → ∃ more, H' b = some (.tbl (ps ++ more)))
    (ns : ∀ m, s.heap.Ns X.env.locals m → h'.Ns X.env.locals m) (hok : HOk X.prog X.w H' h') (hg : AllBare g') :
    Inv X pins σ H' { s with heap := h', gens := g', drawn := d', toks := t' } := by
  have neL : ∀ b o, X.s_0.heap.get? b = some o → b ≠ X.env.locals := fun b o e => Nat.ne_of_lt (Nat.lt_of_lt_of_le (Heap.lt_size e) I.ok.above)
  have neC : ∀ b o, X.s_0.heap.get? b = some o → b ∉ X.ex → b ∉ ch := fun b o e hx hb => by
    rcases (hch b hb).1 with z | z
    · exact hx z
    · exact absurd (Nat.lt_of_lt_of_le (Heap.lt_size e) z) (Nat.lt_irrefl _)
  have cellK : ∀ x c, X.env.cells.lookup x = some c → ∀ v, s.heap.IsCell c v → h'.IsCell c v := fun x c e v ⟨o, ho, hd⟩ => by
    have nch : c ∉ ch := fun z => (hch c z).2.2.1 x c e rfl
    by_cases hc : c ∈ X.fs
    · obtain ⟨sl, q⟩ := slot c o (I.cne x c e) hc nch ho (I.freeC x c e)
      exact ⟨_, q, hd⟩
    · exact ⟨o, keep c o (I.cne x c e) hc nch ho (I.freeC x c e), hd⟩
  refine ⟨I.ok, I.os, hg, ⟨fun b o e n hb hx => ?_, fun b o e n hb hx => ?_, fun b o e n hx => ?_, fun b o e hx => ?_, fun b xs e => tups b xs (I.base.tups b xs e), fun b o xs e => frzs b o xs (I.base.frzs b o xs e), fun b ps e => ?_⟩, ?_, fun x c e => ?_, ?_, fun x c e => ?_, fun p hp => ?_, hok, I.len⟩
  · exact keep b o (neL b o e) hb (neC b o e hx) (I.base.keep b o e n hb hx) (I.base.free b o e n hx)
  · obtain ⟨sl, e1⟩ := I.base.slot b o e n hb hx
    obtain ⟨sl', e2⟩ := slot b _ (neL b o e) hb (neC b o e hx) e1 (I.base.free b o e n hx)
    exact ⟨sl', e2⟩
  · obtain ⟨o', e1⟩ := I.base.there b o e hx
    exact free b o' (neC b o e hx) e1 (I.base.free b o e n hx)
  · obtain ⟨o', e1⟩ := I.base.there b o e hx
    exact there b o' (neC b o e hx) e1
  · obtain ⟨m1, e1⟩ := I.base.tbls b ps e
    obtain ⟨m2, e2⟩ := tbls b _ e1
    exact ⟨m1 ++ m2, by rw [e2, Array.append_assoc]⟩
  · obtain ⟨m, hn, hl⟩ := I.loc
    refine ⟨m, ns m hn, fun i x v e1 e2 e3 => ?_⟩
    obtain ⟨u, r, l⟩ := hl i x v e1 e2 e3
    refine ⟨u, r, ?_⟩
    rcases l with l | ⟨k, c, e, z⟩
    · exact .inl l
    · exact .inr ⟨k, c, e, cellK x c e _ z⟩
  · obtain ⟨v, z⟩ := I.cell x c e
    exact ⟨v, cellK x c e v z⟩
  · obtain ⟨m, ⟨o, _, _, ho, _⟩, _⟩ := I.loc
    exact free _ o (fun z => (hch _ z).2.1 rfl) ho I.free
  · obtain ⟨v, o, ho, hd⟩ := I.cell x c e
    exact free c o (fun z => (hch c z).2.2.1 x c e rfl) ho (I.freeC x c e)
  · obtain ⟨e, n, ne, nf, d⟩ := I.pin p hp
    have nch : p.1 ∉ ch := fun z => (hch p.1 z).2.2.2 p hp rfl
    exact ⟨keep p.1 p.2 ne nf nch e n, free p.1 p.2 nch e n, ne, nf, d⟩
/-- .. where the frame's own object is kept too -/
theorem Inv.un {t' : Nat} (I : Inv X pins σ H s) (u : Un X.fs [] H H' s.heap h') (hok : HOk X.prog X.w H' h') : Inv X pins σ H' { s with heap := h', toks := t' } := by
  obtain ⟨m, ⟨o, es, ep, ho, r⟩, _⟩ := id I.loc
  obtain ⟨sl, hL⟩ := u.any ho I.free (by simp)
  exact I.step (g' := s.gens) (d' := s.drawn) (ch := []) (fun _ z => nomatch z) (fun b o _ hb _ e n => u.keep b o e n hb (by simp)) (fun b o _ hb _ e n => u.slot b o e n hb (by simp)) (fun b o _ e n => u.free b o e n (by simp)) (fun b o _ e => u.there b o e (by simp)) u.tups u.frzs u.tbls (fun m' hm => by
    obtain ⟨o', es', ep', ho', r'⟩ := hm
    rw [ho] at ho'; cases ho'
    exact ⟨_, es', ep', hL, r'⟩) hok I.bare
/-- behind a call (or a comprehension's block): the slots of this frame may have changed too, the records at ch may have turned -/
theorem Inv.call {g' : Array GenState} {t' : Nat} {d' : Drawn} {ch : List Addr} (I : Inv X pins σ H s) (u : Un (frs X.stack) ch H H' s.heap h') (hok : HOk X.prog X.w H' h') (hg : AllBare g')
    (hch : ∀ b ∈ ch, (b ∈ X.ex ∨ X.s_0.heap.objs.size ≤ b) ∧ b ≠ X.env.locals ∧ (∀ x c, X.env.cells.lookup x = some c → c ≠ b) ∧ ∀ p ∈ X.pn ++ pins, p.1 ≠ b) :
    Inv X pins σ H' { s with heap := h', gens := g', drawn := d', toks := t' } := by
  obtain ⟨m, ⟨o, es, ep, ho, r⟩, _⟩ := id I.loc
  obtain ⟨sl, hL⟩ := u.any ho I.free fun z => (hch _ z).2.1 rfl
  exact I.step (ch := ch) hch (fun b o hL hb hc e n => u.keep b o e n (fun z => (List.mem_cons.mp (I.stkSub b z)).elim hL hb) hc) (fun b o _ _ hc e n => u.any e n hc) (fun b o hc e n => u.free b o e n hc) (fun b o hc e => u.there b o e hc) u.tups u.frzs u.tbls (fun m' hm => by
    obtain ⟨o', es', ep', ho', r'⟩ := hm
    rw [ho] at ho'; cases ho'
    exact ⟨_, es', ep', hL, r'⟩) hok hg
/-- an untracked record of ours (an iterator) has turned -/
theorem Inv.turned {t' : Nat} {it : Addr} (I : Inv X pins σ H s) (k : ∀ b o, b ≠ it → s.heap.get? b = some o → h'.get? b = some o) (hn : H it = none) (hL : it ≠ X.env.locals)
    (h1 : it ∈ X.ex ∨ X.s_0.heap.objs.size ≤ it) (h2 : ∀ x c, X.env.cells.lookup x = some c → c ≠ it) (h3 : ∀ p ∈ X.pn ++ pins, p.1 ≠ it) : Inv X pins σ H { s with heap := h', toks := t' } := by
  have nit : ∀ b u, H b = some u → b ≠ it := fun b u e z => by rw [z, hn] at e; cases e
  refine I.step (g' := s.gens) (d' := s.drawn) (ch := [it]) (fun b hb => ?_) (fun b o _ _ hc e _ => k b o (fun z => hc (by simp [z])) e) (fun b o _ _ hc e _ => ⟨o.slots, k b o (fun z => hc (by simp [z])) e⟩) (fun _ _ _ _ n => n)
    (fun b o hc e => ⟨o, k b o (fun z => hc (by simp [z])) e⟩) (fun _ _ e => e) (fun _ _ _ e => e) (fun b ps e => ⟨#[], by rw [e]; simp⟩) (fun m hm => ?_) (fun b u e => ?_) I.bare
  · have e : b = it := by simpa using hb
    subst e
    exact ⟨h1, hL, h2, h3⟩
  · obtain ⟨o, es, ep, ho, r⟩ := hm
    exact ⟨o, es, ep, k _ o (Ne.symm hL) ho, r⟩
  · refine (I.hok b u e).stay (fun c v hc q => k c v ?_ q) (fun _ q => q) fun _ _ q => q
    rcases hc with z | z
    · rw [z]; exact nit b u e
    · exact nit c _ z
theorem Inv.tok (I : Inv X pins σ H s) (t : Nat) : Inv X pins σ H { s with toks := t } := I.un (h' := s.heap) (t' := t) Un.refl I.hok
/-- all objects kept -/
theorem Inv.kept {t' : Nat} (I : Inv X pins σ H s) (k : ∀ b u, s.heap.get? b = some u → h'.get? b = some u) : Inv X pins σ H { s with heap := h', toks := t' } := I.un (Un.kept k) (I.hok.kept k)
/-- a new object laid and tracked -/
theorem Inv.laid {a : Addr} {o : HO} {t' : Nat} (I : Inv X pins σ H s) (k : ∀ b u, s.heap.get? b = some u → h'.get? b = some u) (hp : s.heap.objs.size ≤ a) (new : ObjOk X.prog X.w (upd H a o) h' a o) :
    Inv X pins σ (upd H a o) { s with heap := h', toks := t' } := I.un (Un.laid k hp (I.hok.fresh hp)) (I.hok.laid k hp new)
/-- an object written -/
theorem Inv.write {x e : Addr} {o : HO} {t' : Nat} (I : Inv X pins σ H s) (mu : Mut (H x)) (he : e = x ∨ H e = some (.own x)) (k : ∀ b u, b ≠ e → s.heap.get? b = some u → h'.get? b = some u) (heo : ∃ u, h'.get? e = some u)
    (new : ObjOk X.prog X.w (upd H x o) h' x o) : Inv X pins σ (upd H x o) { s with heap := h', toks := t' } := I.un (Un.write mu he k heo) (I.hok.write mu he k heo new)
/-- forgetting slots, pins -/
theorem Inv.weak {σ' : List (Option V)} (I : Inv X pins σ H s) (hl : σ'.length = σ.length) (w : ∀ (i : Nat) v, σ'[i]? = some (some v) → σ[i]? = some (some v)) : Inv X pins σ' H s :=
  ⟨I.ok, I.os, I.bare, I.base, let ⟨m, hn, hl'⟩ := I.loc; ⟨m, hn, fun i x v e1 e2 e3 => hl' i x v e1 (w i v e2) e3⟩, I.cell, I.free, I.freeC, I.pin, I.hok, hl.trans I.len⟩
theorem Inv.pins_of {pins' : List (Addr × Obj)} (I : Inv X pins σ H s) (h : ∀ p ∈ pins', s.heap.get? p.1 = some p.2 ∧ H p.1 = none ∧ p.1 ≠ X.env.locals ∧ p.1 ∉ X.fs ∧ ∀ v, p.2.data ≠ .cell v) : Inv X pins' σ H s :=
  ⟨I.ok, I.os, I.bare, I.base, I.loc, I.cell, I.free, I.freeC, fun p hp => (List.mem_append.mp hp).elim (fun z => I.pin p (List.mem_append_left _ z)) (h p), I.hok, I.len⟩

theorem nodup_ix {N : List Str} (hN : N.Nodup) {i j : Nat} {x : Str} (a : N[i]? = some x) (b : N[j]? = some x) : i = j := by
  obtain ⟨h1, e1⟩ := List.getElem?_eq_some_iff.mp a
  obtain ⟨h2, e2⟩ := List.getElem?_eq_some_iff.mp b
  exact (List.getElem_inj hN).mp (e1.trans e2.symm)

/-- a name is stored; what changed -/
theorem store_ok2 {M : Model} {A : Around} {E : Value → Shared → Prop} {i : Nat} {x : Str} {v : V} {u : Value} {Q : Unit → Shared → Prop} (I : Inv X pins σ H s) (hN : X.N.Nodup) (hi : X.N[i]? = some x) (hx : Loc X.env.scope x) (r : RelV v u)
    (h : ∀ s', Inv X pins (σ.set i (some v)) H s' → (∃ a, Heap.SameBut a s.heap s'.heap ∧ (a = X.env.locals ∨ X.env.cells.lookup x = some a)) → Q () s') (hf : X.fn x = true ∨ X.env.scope.names.lookup x = some .local := by first | exact .inl rfl | exact .inr rfl | assumption) : wpAny M A (storeName X.env x u) Q E s := by
  obtain ⟨m, hn, hl⟩ := id I.loc
  have hcls : (X.env.scope.kind == .class || (X.env.scope.kind == .module && X.env.locals != X.env.globals)) = false := by rw [I.ok.kind]; rfl
  have hiσ : i < σ.length := by rw [I.len]; exact (List.getElem?_eq_some_iff.mp hi).1
  have cne := I.cne
  have tracked : ∀ {a : Addr} {h' : Heap}, (∃ o, s.heap.get? a = some o ∧ H a = none) → Heap.SameBut a s.heap h' → HOk X.prog X.w H h' := fun {a h'} ha hs b ob e => by
    obtain ⟨_, _, hfree⟩ := ha
    refine (I.hok b ob e).stay (fun c w' hc q => (hs.2 c ?_).trans q) (fun _ q => q) fun _ _ q => q
    rintro rfl
    rcases hc with rfl | hc
    · rw [hfree] at e; cases e
    · rw [hfree] at hc; cases hc
  rcases hx with hk | hk
  · refine wpAny_storeName_local hk hn (fun h' hn' hs => ?_) hcls
    obtain ⟨oL, _, _, hoL, _⟩ := id hn
    refine h _ ⟨I.ok, I.os, I.bare, ⟨fun b o e n hb hx => ?_, fun b o e n hb hx => ?_, I.base.free, fun b o e hx => ?_, I.base.tups, I.base.frzs, I.base.tbls⟩, ⟨_, hn', fun j y v' e1 e2 e3 => ?_⟩, fun y c e => ?_, I.free, I.freeC, fun p hp => ?_, tracked ⟨oL, hoL, I.free⟩ hs, by simpa using I.len⟩ ⟨_, hs, .inl rfl⟩
    · exact (hs.2 b (Nat.ne_of_lt (Nat.lt_of_lt_of_le (Heap.lt_size e) I.ok.above))).trans (I.base.keep b o e n hb hx)
    · obtain ⟨sl, e1⟩ := I.base.slot b o e n hb hx
      exact ⟨sl, (hs.2 b (Nat.ne_of_lt (Nat.lt_of_lt_of_le (Heap.lt_size e) I.ok.above))).trans e1⟩
    · obtain ⟨o', e1⟩ := I.base.there b o e hx
      exact ⟨o', (hs.2 b (Nat.ne_of_lt (Nat.lt_of_lt_of_le (Heap.lt_size e) I.ok.above))).trans e1⟩
    · by_cases hj : j = i
      · subst hj
        rw [hi] at e1; cases e1
        rw [List.getElem?_set_self hiσ] at e2
        cases e2
        exact ⟨u, r, .inl ⟨hk, by simp⟩⟩
      · rw [List.getElem?_set_ne (Ne.symm hj)] at e2
        obtain ⟨u', r', q⟩ := hl j y v' e1 e2 e3
        refine ⟨u', r', ?_⟩
        rcases q with ⟨k, e⟩ | ⟨k, c, e, z⟩
        · refine .inl ⟨k, ?_⟩
          have : y ≠ x := fun e => hj (nodup_ix hN e1 (e ▸ hi))
          simp [this, e]
        · exact .inr ⟨k, c, e, z.sameBut hs (cne y c e)⟩
    · obtain ⟨w', z⟩ := I.cell y c e
      exact ⟨w', z.sameBut hs (cne y c e)⟩
    · obtain ⟨e, n, ne, nf, d⟩ := I.pin p hp
      exact ⟨(hs.2 p.1 ne).trans e, n, ne, nf, d⟩
  · have hfn : X.fn x = true := by
      rcases hf with z | z
      · exact z
      · rw [z] at hk; cases hk
    obtain ⟨c, hc⟩ := I.ok.has x (.inl hk)
    obtain ⟨w', z⟩ := I.cell x c hc
    refine wpAny_storeName_cell I.ok.kind hk hc z (fun h' hc' hs => ?_)
    obtain ⟨oc, hoc, hocd⟩ := id z
    refine h { s with heap := h' } ⟨I.ok, I.os, I.bare, ⟨fun b o e n hb hx => ?_, fun b o e n hb hx => ?_, I.base.free, fun b o e hx => ?_, I.base.tups, I.base.frzs, I.base.tbls⟩, ⟨m, hn.sameBut hs (Ne.symm (cne x c hc)), fun j y v' e1 e2 e3 => ?_⟩, fun y c' e => ?_, I.free, I.freeC, fun p hp => ?_, tracked ⟨oc, hoc, I.freeC x c hc⟩ hs, by simpa using I.len⟩ ⟨c, hs, .inr hc⟩
    · exact (hs.2 b (Nat.ne_of_lt (Nat.lt_of_lt_of_le (Heap.lt_size e) (I.ok.cab x c hfn hc)))).trans (I.base.keep b o e n hb hx)
    · obtain ⟨sl, e1⟩ := I.base.slot b o e n hb hx
      exact ⟨sl, (hs.2 b (Nat.ne_of_lt (Nat.lt_of_lt_of_le (Heap.lt_size e) (I.ok.cab x c hfn hc)))).trans e1⟩
    · obtain ⟨o', e1⟩ := I.base.there b o e hx
      exact ⟨o', (hs.2 b (Nat.ne_of_lt (Nat.lt_of_lt_of_le (Heap.lt_size e) (I.ok.cab x c hfn hc)))).trans e1⟩
    · by_cases hj : j = i
      · subst hj
        rw [hi] at e1; cases e1
        rw [List.getElem?_set_self hiσ] at e2
        cases e2
        exact ⟨u, r, .inr ⟨.inl hk, c, hc, hc'⟩⟩
      · rw [List.getElem?_set_ne (Ne.symm hj)] at e2
        obtain ⟨u', r', q⟩ := hl j y v' e1 e2 e3
        refine ⟨u', r', ?_⟩
        rcases q with q | ⟨k, c', e, z'⟩
        · exact .inl q
        · refine .inr ⟨k, c', e, z'.sameBut hs ?_⟩
          rintro rfl
          exact hj (nodup_ix hN e1 (I.ok.inj _ _ _ e hc ▸ hi))
    · by_cases hcc : c' = c
      · subst hcc; exact ⟨_, hc'⟩
      · obtain ⟨w2, z2⟩ := I.cell y c' e
        exact ⟨w2, z2.sameBut hs hcc⟩
    · obtain ⟨e, n, ne, nf, d⟩ := I.pin p hp
      refine ⟨(hs.2 p.1 ?_).trans e, n, ne, nf, d⟩
      intro q
      rw [q, hoc] at e
      have q' : oc = p.2 := Option.some.inj e
      exact d w' (by rw [← q']; exact hocd)
theorem store_ok {M : Model} {A : Around} {E : Value → Shared → Prop} {i : Nat} {x : Str} {v : V} {u : Value} {Q : Unit → Shared → Prop} (I : Inv X pins σ H s) (hN : X.N.Nodup) (hi : X.N[i]? = some x) (hx : Loc X.env.scope x) (r : RelV v u)
    (h : ∀ s', Inv X pins (σ.set i (some v)) H s' → Q () s') (hf : X.fn x = true ∨ X.env.scope.names.lookup x = some .local := by first | exact .inl rfl | exact .inr rfl | assumption) : wpAny M A (storeName X.env x u) Q E s :=
  store_ok2 I hN hi hx r (fun s' I' _ => h s' I') hf
/-- behind a call or a block, the state as it is -/
theorem Inv.call' {s' : Shared} {ch : List Addr} (I : Inv X pins σ H s) (ho : s'.os = s.os) (u : Un (frs X.stack) ch H H' s.heap s'.heap) (hok : HOk X.prog X.w H' s'.heap) (hg : AllBare s'.gens)
    (hch : ∀ b ∈ ch, (b ∈ X.ex ∨ X.s_0.heap.objs.size ≤ b) ∧ b ≠ X.env.locals ∧ (∀ x c, X.env.cells.lookup x = some c → c ≠ b) ∧ ∀ p ∈ X.pn ++ pins, p.1 ≠ b) : Inv X pins σ H' s' := by
  obtain ⟨h', g', d', t', o'⟩ := s'
  have e : o' = s.os := ho
  subst e
  exact I.call (g' := g') (t' := t') (d' := d') u hok hg hch
end

/-! ### the judgements -/
/-- an exception: its class, its own dict's address (where it has one), the abstract heap behind it -/
abbrev XK := Value → Option Addr → Hp → Prop
abbrev St := List (Option V)
abbrev VK := V → Hp → Prop
/-- an expression's reading; a test's; an argument list's -/
abbrev TE := St → Hp → VK → Prop
abbrev TT := St → Hp → (Bool → Hp → Prop) → Prop
abbrev TA := St → Hp → (List V → Hp → Prop) → Prop
/-- what is wanted behind a statement -/
structure Ends where
  nx : St → Hp → Prop
  rt : VK
  bk : St → Hp → Prop := fun _ _ => False
  ct : St → Hp → Prop := fun _ _ => False
abbrev TS := Ends → St → Hp → Prop

def EP (X : Cx) (pins : List (Addr × Obj)) (σ : St) (Q : VK) (u : Value) (s' : Shared) : Prop := ∃ v H', Inv X pins σ H' s' ∧ RelV v u ∧ Q v H'
def TP (X : Cx) (pins : List (Addr × Obj)) (σ : St) (Q : Bool → Hp → Prop) (b : Bool) (s' : Shared) : Prop := ∃ H', Inv X pins σ H' s' ∧ Q b H'
def AP (X : Cx) (pins : List (Addr × Obj)) (σ : St) (Q : List V → Hp → Prop) (us : List Value) (s' : Shared) : Prop := ∃ vs H', Inv X pins σ H' s' ∧ Vals vs us ∧ Q vs H'
def SP (X : Cx) (pins : List (Addr × Obj)) (D : Ends) (f : Flow) (s' : Shared) : Prop :=
  match f with
  | .next => ∃ σ' H', Inv X pins σ' H' s' ∧ D.nx σ' H'
  | .brk => ∃ σ' H', Inv X pins σ' H' s' ∧ D.bk σ' H'
  | .cont => ∃ σ' H', Inv X pins σ' H' s' ∧ D.ct σ' H'
  | .ret u => ∃ v σ' H', Inv X pins σ' H' s' ∧ RelV v u ∧ D.rt v H'

def PE (X : Cx) (e : Expr) (t : TE) : Prop :=
  ∀ (pins : List (Addr × Obj)) (s : Shared) (σ : St) (H : Hp) (Q : VK), Inv X pins σ H s → t σ H Q → wpAny (model X.prog X.w) X.A (eval e X.env) (EP X pins σ Q) X.xe s
def PT (X : Cx) (e : Expr) (t : TT) : Prop :=
  ∀ (pins : List (Addr × Obj)) (s : Shared) (σ : St) (H : Hp) (Q : Bool → Hp → Prop), Inv X pins σ H s → t σ H Q → wpAny (model X.prog X.w) X.A (isTrue e X.env (eval e X.env)) (TP X pins σ Q) X.xe s
/-- a test whatever its 'whole' is (and, or) -/
def PW (X : Cx) (e : Expr) (t : TT) : Prop :=
  ∀ (whole : Sem Value) (pins : List (Addr × Obj)) (s : Shared) (σ : St) (H : Hp) (Q : Bool → Hp → Prop), Inv X pins σ H s → t σ H Q → wpAny (model X.prog X.w) X.A (isTrue e X.env whole) (TP X pins σ Q) X.xe s
theorem PW.pt {X : Cx} {e : Expr} {t : TT} (h : PW X e t) : PT X e t := h _
/-- an argument list (no star), from the left -/
def PA (X : Cx) (es : List Expr) (t : TA) : Prop :=
  ∀ (pos : Pos) (pins : List (Addr × Obj)) (s : Shared) (σ : St) (H : Hp) (Q : List V → Hp → Prop), Inv X pins σ H s → t σ H Q → wpAny (model X.prog X.w) X.A (spliced (backTo pos (starEach es X.env))) (AP X pins σ Q) X.xe s
def PS (X : Cx) (st : Stmt) (t : TS) : Prop :=
  ∀ (pins : List (Addr × Obj)) (s : Shared) (σ : St) (H : Hp) (D : Ends), Inv X pins σ H s → t D σ H → wpAny (model X.prog X.w) X.A (exec st X.env) (SP X pins D) X.xe s
def PSs (X : Cx) (st : List Stmt) (t : TS) : Prop :=
  ∀ (pins : List (Addr × Obj)) (s : Shared) (σ : St) (H : Hp) (D : Ends), Inv X pins σ H s → t D σ H → wpAny (model X.prog X.w) X.A (execs st X.env) (SP X pins D) X.xe s
/-- weaken the end -/
theorem thn {α : Type} {t : Sem α} {Q Q' : α → Shared → Prop} {M : Model} {A : Around} {E : Value → Shared → Prop} {s : Shared} (h : wpAny M A t Q E s) (hQ : ∀ a s, Q a s → Q' a s) : wpAny M A t Q' E s := wpAny_mono h hQ fun _ _ x => x
end L2

namespace L2
open PySem PySem.Spec PyProof.Rows
section
variable {X : Cx}

/-! ### names and constants -/
def tVar (i : Nat) : TE := fun σ H Q => ∃ v, σ[i]? = some (some v) ∧ Q v H
def tC (v : V) : TE := fun _ H Q => Q v H
theorem pe_var {i : Nat} {x : Str} {pos : Pos} (hN : X.N[i]? = some x) (hv : Vis X.env.scope x) (hd : (x == ("__debug__" : Str)) = false := by decide) (hcd : (x == ("__classdict__" : Str)) = false := by decide) : PE X (.Name x pos) (tVar i) := by
  intro pins s σ H Q I h
  obtain ⟨v, e, h⟩ := h
  obtain ⟨m, hn, hl⟩ := I.loc
  obtain ⟨u, r, l⟩ := hl i x v hN e hv
  have fin : EP X pins σ Q u s := ⟨v, H, I, r, h⟩
  rcases l with ⟨hk, hm⟩ | ⟨hk, c, hc, hcell⟩
  · exact wpAny_Name (wpAny_loadName_local I.ok.kind hk hn hm fin) hd
  · rcases hk with hk | hk
    · exact wpAny_Name (wpAny_loadName_cell I.ok.kind hk hc hcell fin) hd
    · exact wpAny_Name (wpAny_loadName_free I.ok.kind hk hc hcell fin hcd) hd
theorem pe_int {i j pos} : PE X (.Constant (.int i) j pos) (tC (.int i)) := fun _ _ _ H _ I h => wpAny_Constant_int ⟨.int i, H, I.tok _, ⟨_, rfl⟩, h⟩
theorem pe_bl {b j pos} : PE X (.Constant (.bool b) j pos) (tC (.bl b)) := fun _ _ _ H _ I h => Constant_bool ⟨.bl b, H, I, rfl, h⟩
/-- a global name of the def -/
def Gl (X : Cx) (x : Str) : Prop := X.env.kindOf x = some .globalImplicit
theorem ld_glob {E : Value → Shared → Prop} {pins : List (Addr × Obj)} {s : Shared} {σ : St} {H : Hp} {x : Str} {u : Value} {pos : Pos} {Q : Value → Shared → Prop} (I : Inv X pins σ H s) (hg : Gl X x) (hm : X.mg x = some u) (h : Q u s)
    (hd : (x == ("__debug__" : Str)) = false := by decide) : wpAny (model X.prog X.w) X.A (eval (.Name x pos) X.env) Q E s :=
  Calls.Name_function_global I.ok.kind hg (Calls.loadGlobal_global (by rw [I.ok.glob]; exact I.mod.glob.keeps I.bk) hm h) hd
theorem ld_blt {E : Value → Shared → Prop} {pins : List (Addr × Obj)} {s : Shared} {σ : St} {H : Hp} {x : Str} {u : Value} {pos : Pos} {Q : Value → Shared → Prop} (I : Inv X pins σ H s) (hg : Gl X x) (hm : X.mg x = none) (hv : bootBuiltins x = some u) (h : Q u s)
    (hn : x ≠ "__name__" := by decide) (hd : (x == ("__debug__" : Str)) = false := by decide) : wpAny (model X.prog X.w) X.A (eval (.Name x pos) X.env) Q E s := by
  obtain ⟨mb, h1, h2⟩ := I.mod.blt
  exact Calls.Name_function_global I.ok.kind hg (Calls.loadGlobal_builtin (by rw [I.ok.glob]; exact I.mod.glob.keeps I.bk) hm (by rw [I.ok.blt]; exact h1.keeps I.bk) ((h2 x hn).trans hv) h) hd
theorem pe_bltn {x : Str} {v : V} {u : Value} {pos : Pos} (hg : Gl X x) (hm : X.mg x = none) (hv : bootBuiltins x = some u) (r : RelV v u) (hn : x ≠ "__name__" := by decide) (hd : (x == ("__debug__" : Str)) = false := by decide) : PE X (.Name x pos) (tC v) :=
  fun _ _ _ H _ I h => ld_blt I hg hm hv ⟨v, H, I, r, h⟩ hn hd

/-! ### arithmetic -/
/-- two ints -/
def t2I (ta tb : TE) (k : Int → Int → Hp → Prop) : St → Hp → Prop := fun σ H => ta σ H fun x H1 => tb σ H1 fun y H2 => ∃ i j, x = .int i ∧ y = .int j ∧ k i j H2
variable {a b : Expr} {ta tb : TE} {pos : Pos}
/-- a comparison as a value, as a test -/
def tB (t : TE) : TT := fun σ H Q => t σ H fun x H1 => ∃ c, x = .bl c ∧ Q c H1
/-- an expression whose value is a bool, as a test -/
theorem pt_val {e : Expr} {t : TE} (h : PE X e t) (he : ∀ whole, isTrue e X.env whole = (do let v ← whole; standAt e.pos; holding [v] (truthy v)) := by intro _; rfl) : PT X e (tB t) := by
  intro pins s σ H Q I hw
  refine isTrue_plain (thn (h pins s σ H _ I hw) fun v s1 ⟨x, H1, I1, r1, q1⟩ => ?_) (he _)
  obtain ⟨d, rfl, q⟩ := q1
  cases r1
  exact wpAny_truthy_bool ⟨H1, I1, q⟩

/-! ### and, or, not -/
variable {tA tB' : TT} {rest : List Expr}
def tAnd (t u : TT) : TT := fun σ H Q => t σ H fun c H1 => if c = true then u σ H1 Q else Q false H1
def tOr (t u : TT) : TT := fun σ H Q => t σ H fun c H1 => if c = true then Q true H1 else u σ H1 Q
def tNot (t : TT) : TT := fun σ H Q => t σ H fun c H1 => Q (!c) H1
theorem pw_and1 (ha : PT X a tA) : PW X (.BoolOp .And [a] pos) tA := by
  intro wh pins s σ H Q I h
  refine isTrue_and (thn (ha pins s σ H Q I h) fun c s1 e => ?_)
  cases c with
  | true => exact isTrue_and_nil e
  | false => exact e
theorem pw_or1 (ha : PT X a tA) : PW X (.BoolOp .Or [a] pos) tA := by
  intro wh pins s σ H Q I h
  refine isTrue_or (thn (ha pins s σ H Q I h) fun c s1 e => ?_)
  cases c with
  | false => exact isTrue_or_nil e
  | true => exact e
theorem pw_and (ha : PT X a tA) (hb : PW X (.BoolOp .And (b :: rest) pos) tB') : PW X (.BoolOp .And (a :: b :: rest) pos) (tAnd tA tB') := by
  intro wh pins s σ H Q I h
  refine isTrue_and (thn (ha pins s σ H _ I h) fun c s1 ⟨H1, I1, q1⟩ => ?_)
  cases c with
  | true => exact hb wh pins s1 σ H1 Q I1 q1
  | false => exact ⟨H1, I1, q1⟩
theorem pw_or (ha : PT X a tA) (hb : PW X (.BoolOp .Or (b :: rest) pos) tB') : PW X (.BoolOp .Or (a :: b :: rest) pos) (tOr tA tB') := by
  intro wh pins s σ H Q I h
  refine isTrue_or (thn (ha pins s σ H _ I h) fun c s1 ⟨H1, I1, q1⟩ => ?_)
  cases c with
  | true => exact ⟨H1, I1, q1⟩
  | false => exact hb wh pins s1 σ H1 Q I1 q1
theorem pt_not (ha : PT X a tA) : PT X (.UnaryOp .Not a pos) (tNot tA) := by
  intro pins s σ H Q I h
  exact isTrue_not (ha pins s σ H (fun c H1 => Q (!c) H1) I h)
/-- .. as values (bools) -/
def tAndV (ta tb : TE) : TE := fun σ H Q => ta σ H fun x H1 => ∃ c, x = .bl c ∧ if c = true then tb σ H1 Q else Q (.bl false) H1
def tOrV (ta tb : TE) : TE := fun σ H Q => ta σ H fun x H1 => ∃ c, x = .bl c ∧ if c = true then Q (.bl true) H1 else tb σ H1 Q
def tNotV (ta : TE) : TE := fun σ H Q => ta σ H fun x H1 => ∃ c, x = .bl c ∧ Q (.bl (!c)) H1
/-- a if t else b -/
def tIf (t : TT) (ta tb : TE) : TE := fun σ H Q => t σ H fun c H1 => if c = true then ta σ H1 Q else tb σ H1 Q
theorem pe_ifExp {c : Expr} (hc : PT X c tA) (ha : PE X a ta) (hb : PE X b tb) : PE X (.IfExp c a b pos) (tIf tA ta tb) := by
  intro pins s σ H Q I h
  refine wpAny_IfExp (thn (hc pins s σ H _ I h) fun d s1 ⟨H1, I1, q1⟩ => ?_)
  cases d with
  | true => exact ha pins s1 σ H1 Q I1 q1
  | false => exact hb pins s1 σ H1 Q I1 q1
end
end L2

namespace L2
open PySem PySem.Spec PyProof.Rows

/-! ### a list, a tuple that is read: tracked, frozen, or an object of the module -/
def SqL (K : PySem.W.Frag) (H : Hp) (a : Addr) (xs : List V) : Prop :=
  Rd H a (.lst xs) ∨
    ∃ (o : Obj) (its : Array Value) (n : Nat), K.lookup a = some o ∧ o.cls = .type "list" ∧ o.dict = none ∧ o.data = .seq its n ∧ its.size ≤ sizeLine ∧ Vals xs its.toList
def SqT (K : PySem.W.Frag) (H : Hp) (a : Addr) (xs : List V) : Prop :=
  Rd H a (.tup xs) ∨
    ∃ (o : Obj) (its : Array Value) (n : Nat), K.lookup a = some o ∧ o.cls = .type "tuple" ∧ o.data = .seq its n ∧ its.size ≤ sizeLine ∧ Vals xs its.toList
def absV : Value → Option V
  | .none => some .non
  | .bool b => some (.bl b)
  | .int i _ => some (.int i)
  | .str x _ => some (.str x)
  | .bytes b _ => some (.byt b)
  | .float b _ => some (.flt b)
  | .ref a => some (.ref a)
  | .type n => some (.ty n)
  | _ => none
theorem RelV.abs {x : V} {u : Value} (r : RelV x u) : absV u = some x := by
  cases x with
  | non => cases r; rfl
  | bl _ => cases r; rfl
  | int _ => obtain ⟨t, rfl⟩ := r; rfl
  | str _ => obtain ⟨t, rfl⟩ := r; rfl
  | byt _ => obtain ⟨t, rfl⟩ := r; rfl
  | flt _ => obtain ⟨t, rfl⟩ := r; rfl
  | ref _ => cases r; rfl
  | ty _ => cases r; rfl
theorem RelV.inj {x y : V} {u : Value} (r : RelV x u) (q : RelV y u) : x = y := Option.some.inj (r.abs.symm.trans q.abs)
theorem Vals.inj : ∀ {xs ys : List V} {us : List Value}, Vals xs us → Vals ys us → xs = ys
  | _, _, _, .nil, .nil => rfl
  | _, _, _, .cons r t, .cons r' t' => by rw [r.inj r', Vals.inj t t']
section
variable {X : Cx} {pins : List (Addr × Obj)} {σ : St} {H : Hp} {s : Shared} {a : Addr} {xs ys : List V}
theorem SqL.of {K : PySem.W.Frag} (h : H a = some (.lst xs)) : SqL K H a xs := .inl (.inl h)
theorem SqT.of {K : PySem.W.Frag} (h : H a = some (.tup xs)) : SqT K H a xs := .inl (.inl h)
theorem Inv.list (I : Inv X pins σ H s) (h : SqL X.K H a xs) : ∃ its : List Value, Vals xs its ∧ PlainL s.heap a its.toArray ∧ xs.length ≤ sizeLine := by
  rcases h with h | ⟨o, its, n, hk, hc, hd, hs, hz, r⟩
  · obtain ⟨z, its, n, r, e⟩ := h.ok I.hok
    exact ⟨its, r, ⟨_, n, e, rfl, rfl, rfl⟩, z⟩
  · refine ⟨its.toList, r, ⟨o, n, I.kIn a o hk, hc, hd, by simpa using hs⟩, ?_⟩
    have e := r.length
    simp only [Array.length_toList] at e
    omega
theorem Inv.tuple (I : Inv X pins σ H s) (h : SqT X.K H a xs) : ∃ its : List Value, Vals xs its ∧ IsTup s.heap a its.toArray ∧ xs.length ≤ sizeLine := by
  rcases h with h | ⟨o, its, n, hk, hc, hs, hz, r⟩
  · obtain ⟨z, its, r, p⟩ := h.ok I.hok
    exact ⟨its, r, p, z.le⟩
  · refine ⟨its.toList, r, ⟨o, I.kIn a o hk, hc, n, by simpa using hs⟩, ?_⟩
    have e := r.length
    simp only [Array.length_toList] at e
    omega
theorem Inv.list_inj (I : Inv X pins σ H s) (h : SqL X.K H a xs) (h' : SqL X.K H a ys) : xs = ys := by
  obtain ⟨its, r, ⟨o, n, e, _, _, d⟩, _⟩ := I.list h
  obtain ⟨its', r', ⟨o', n', e', _, _, d'⟩, _⟩ := I.list h'
  rw [e] at e'; cases e'
  rw [d] at d'
  injection d' with d1 _
  have : its = its' := by simpa using congrArg Array.toList d1
  subst this
  exact r.inj r'
end

/-! ### another wish about exceptions -/
abbrev Cx.wish (X : Cx) (E : Value → Shared → Prop) : Cx := { X with xe := E }
/-- no exception leaves -/
abbrev Cx.nox (X : Cx) : Cx := X.wish fun _ _ => False
theorem Cx.Ok.wish {X : Cx} (ok : X.Ok) (E : Value → Shared → Prop) : (X.wish E).Ok :=
  ⟨ok.mod, ok.kind, ok.glob, ok.blt, ok.above, ok.inj, ok.has, ok.cab, ok.hd, ok.frames, ok.stk, ok.exf, ok.bs, ok.bsz, ok.noex, ok.exfs, ok.funs, ok.frf⟩
theorem Cx.Ok.unwish {X : Cx} {E : Value → Shared → Prop} (ok : (X.wish E).Ok) : X.Ok :=
  ⟨ok.mod, ok.kind, ok.glob, ok.blt, ok.above, ok.inj, ok.has, ok.cab, ok.hd, ok.frames, ok.stk, ok.exf, ok.bs, ok.bsz, ok.noex, ok.exfs, ok.funs, ok.frf⟩
section
variable {X : Cx} {pins : List (Addr × Obj)} {σ : St} {H : Hp} {s : Shared} {E : Value → Shared → Prop}
theorem Inv.wish (I : Inv X pins σ H s) (E : Value → Shared → Prop) : Inv (X.wish E) pins σ H s := ⟨I.ok.wish E, I.os, I.bare, I.base, I.loc, I.cell, I.free, I.freeC, I.pin, I.hok, I.len⟩
theorem Inv.unwish (I : Inv (X.wish E) pins σ H s) : Inv X pins σ H s := ⟨I.ok.unwish, I.os, I.bare, I.base, I.loc, I.cell, I.free, I.freeC, I.pin, I.hok, I.len⟩
theorem SP.unwish {D : Ends} {f : Flow} {s' : Shared} (h : SP (X.wish E) pins D f s') : SP X pins D f s' := by
  cases f with
  | next => obtain ⟨σ', H', I, q⟩ := h; exact ⟨σ', H', I.unwish, q⟩
  | brk => obtain ⟨σ', H', I, q⟩ := h; exact ⟨σ', H', I.unwish, q⟩
  | cont => obtain ⟨σ', H', I, q⟩ := h; exact ⟨σ', H', I.unwish, q⟩
  | ret u => obtain ⟨v, σ', H', I, r, q⟩ := h; exact ⟨v, σ', H', I.unwish, r, q⟩
theorem PE.nox {e : Expr} {t : TE} (h : PE X.nox e t) : PE X e t := fun pins s σ H Q I hw =>
  wpAny_mono (h pins s σ H Q (I.wish _) hw) (fun _ _ ⟨v, H', I', r, q⟩ => ⟨v, H', I'.unwish, r, q⟩) fun _ _ z => False.elim z
theorem PT.nox {e : Expr} {t : TT} (h : PT X.nox e t) : PT X e t := fun pins s σ H Q I hw =>
  wpAny_mono (h pins s σ H Q (I.wish _) hw) (fun _ _ ⟨H', I', q⟩ => ⟨H', I'.unwish, q⟩) fun _ _ z => False.elim z
theorem PSs.nox {st : List Stmt} {t : TS} (h : PSs X.nox st t) : PSs X st t := fun pins s σ H D I hw =>
  wpAny_mono (h pins s σ H D (I.wish _) hw) (fun _ _ q => q.unwish) fun _ _ z => False.elim z
end

/-! ### blocks and small statements -/
section
variable {X : Cx} {st : Stmt} {rest : List Stmt} {t u : TS} {e : Expr} {te : TE} {pos : Pos}
def tNext : TS := fun D σ H => D.nx σ H
def tSeq (t u : TS) : TS := fun D σ H => t { D with nx := u D } σ H
theorem pss_nil : PSs X [] tNext := fun _ _ σ H _ I h => wpAny_execs_nil ⟨σ, H, I, h⟩
theorem pss_cons (h1 : PS X st t) (h2 : PSs X rest u) : PSs X (st :: rest) (tSeq t u) := by
  intro pins s σ H D I h
  refine wpAny_execs_cons (thn (h1 pins s σ H { D with nx := u D } I h) fun f s1 q => ?_)
  cases f with
  | next =>
    obtain ⟨σ', H', I', q⟩ := q
    exact h2 pins s1 σ' H' D I' q
  | ret v => exact q
  | brk => exact q
  | cont => exact q
theorem pss_one (h1 : PS X st t) : PSs X [st] t := by
  intro pins s σ H D I h
  refine wpAny_execs_cons (thn (h1 pins s σ H D I h) fun f s1 q => ?_)
  cases f with
  | next => exact wpAny_execs_nil q
  | ret v => exact q
  | brk => exact q
  | cont => exact q
/-- in a def's body nothing is shown -/
theorem Inv.quiet {pins : List (Addr × Obj)} {σ : St} {H : Hp} {s : Shared} (I : Inv X pins σ H s) : interactive X.env = false := by simp [interactive, I.ok.kind]
/-- an expression whose value is dropped -/
def tDrop (te : TE) : TS := fun D σ H => te σ H fun _ H1 => D.nx σ H1
theorem ps_expr (he : PE X e te) (hs : swapsWith e none pos.line X.env = pure false := by rfl) : PS X (.Expr e pos) (tDrop te) := by
  intro pins s σ H D I h
  exact wpAny_Expr_any (thn (he pins s σ H _ I h) fun v s1 ⟨x, H1, I1, r1, q1⟩ => ⟨σ, H1, I1, q1⟩) I.quiet hs
def tRet (te : TE) : TS := fun D σ H => te σ H D.rt
theorem ps_ret (he : PE X e te) : PS X (.Return (some e) pos) (tRet te) := by
  intro pins s σ H D I h
  exact wpAny_Return_some (thn (he pins s σ H _ I h) fun v s1 ⟨x, H1, I1, r1, q1⟩ => ⟨x, σ, H1, I1, r1, q1⟩)
def tRetN : TS := fun D _ H => D.rt .non H
def tIfS (c : TT) (t u : TS) : TS := fun D σ H => c σ H fun b H1 => if b = true then t D σ H1 else u D σ H1
theorem ps_if {c : Expr} {a b : List Stmt} {tc : TT} (hc : PT X c tc) (ha : PSs X a t) (hb : PSs X b u) : PS X (.If c a b pos) (tIfS tc t u) := by
  intro pins s σ H D I h
  refine wpAny_If (thn (hc pins s σ H _ I h) fun d s1 ⟨H1, I1, q1⟩ => ?_)
  cases d with
  | true => exact ha pins s1 σ H1 D I1 q1
  | false => exact hb pins s1 σ H1 D I1 q1
end

/-! ### targets -/
abbrev TG := V → St → Hp → (St → Hp → Prop) → Prop
abbrev TGs := List V → St → Hp → (St → Hp → Prop) → Prop
def PG (X : Cx) (target : Expr) (t : TG) : Prop :=
  ∀ (pins : List (Addr × Obj)) (s : Shared) (σ : St) (H : Hp) (v : V) (u : Value) (Q : St → Hp → Prop), Inv X pins σ H s → RelV v u → t v σ H Q →
    wpAny (model X.prog X.w) X.A (assign target X.env u) (fun _ s' => ∃ σ' H', Inv X pins σ' H' s' ∧ Q σ' H') X.xe s
/-- several targets, one after another -/
def PGs (X : Cx) (ts : List Expr) (t : TGs) : Prop :=
  ∀ (pins : List (Addr × Obj)) (s : Shared) (σ : St) (H : Hp) (vs : List V) (us : List Value) (Q : St → Hp → Prop), Inv X pins σ H s → Vals vs us → t vs σ H Q →
    wpAny (model X.prog X.w) X.A (assignInOrder ((assignEach ts X.env).map (·.2)) us) (fun _ s' => ∃ σ' H', Inv X pins σ' H' s' ∧ Q σ' H') X.xe s
/-- o[i] = v, by values -/
abbrev TSet := V → V → V → Hp → (Hp → Prop) → Prop
def PSet (X : Cx) (t : TSet) : Prop :=
  ∀ (pins : List (Addr × Obj)) (s : Shared) (σ : St) (H : Hp) (o i v : V) (ov iv u : Value) (Q : Hp → Prop), Inv X pins σ H s → RelV o ov → RelV i iv → RelV v u → t o i v H Q →
    wpAny (model X.prog X.w) X.A (setItem ov iv u) (fun _ s' => ∃ H', Inv X pins σ H' s' ∧ Q H') X.xe s
section
variable {X : Cx} {pos : Pos}
def gName (i : Nat) : TG := fun v σ H Q => Q (σ.set i (some v)) H
theorem pg_name {i : Nat} {x : Str} (hN : X.N.Nodup) (hi : X.N[i]? = some x) (hx : Loc X.env.scope x) (hf : X.fn x = true ∨ X.env.scope.names.lookup x = some .local := by first | exact .inl rfl | exact .inr rfl | assumption) : PG X (.Name x pos) (gName i) := by
  intro pins s σ H v u Q I r h
  exact wpAny_assign_Name (store_ok I hN hi hx r (fun s' I' => ⟨_, H, I', h⟩) hf)
def gNil : TGs := fun vs σ H Q => vs = [] ∧ Q σ H
def gCons (t : TG) (u : TGs) : TGs := fun vs σ H Q => ∃ v r, vs = v :: r ∧ t v σ H fun σ' H' => u r σ' H' Q
theorem pgs_nil : PGs X [] gNil := by
  intro pins s σ H vs us Q I r h
  obtain ⟨e, h⟩ := h
  subst e
  cases r
  exact assignInOrder_nil ⟨σ, H, I, h⟩
theorem pgs_cons {e : Expr} {es : List Expr} {t : TG} {u : TGs} (h1 : PG X e t) (h2 : PGs X es u)
    (hs : (assignEach (e :: es) X.env).map (·.2) = assign e X.env :: (assignEach es X.env).map (·.2) := by rfl) : PGs X (e :: es) (gCons t u) := by
  intro pins s σ H vs us Q I r h
  obtain ⟨v, vr, e1, h⟩ := h
  subst e1
  cases r with
  | cons r rr =>
    rw [hs]
    refine assignInOrder_cons (thn (h1 pins s σ H _ _ _ I r h) fun _ s1 ⟨σ1, H1, I1, q1⟩ => ?_)
    exact h2 pins s1 σ1 H1 _ _ Q I1 rr q1
/-- (a, b, ..) = a tuple of that length -/
def gTup (K : PySem.W.Frag) (n : Nat) (t : TGs) : TG := fun v σ H Q => ∃ a xs, v = .ref a ∧ SqT K H a xs ∧ xs.length = n ∧ t xs σ H Q
theorem pg_tup {es : List Expr} {k : Nat} {t : TGs} {n : Nat} (hc : X.calm = true) (h : PGs X es t)
    (hn : (assignEach es X.env).length = n := by rfl) (hst : (assignEach es X.env).findIdx? (·.1) = none := by rfl) : PG X (.Tuple es k pos) (gTup X.K n t) := by
  intro pins s σ H v u Q I r hw
  obtain ⟨a, xs, e1, hq, hl, hw⟩ := hw
  subst e1
  cases r
  obtain ⟨its, rv, ht, hz⟩ := I.tuple hq
  refine assign_Tuple_tuple (I.ok.hd hc) ht (by simp [hn, ← hl, rv.length]) hst fun h' hx => ?_
  have I1 : Inv X pins σ H { s with heap := h' } := I.kept (t' := s.toks) fun b o e => hx b o (Nat.ne_of_lt (Heap.lt_size e)) e
  exact h pins _ σ H xs _ Q I1 (by simpa using rv) hw
/-- o[i] = .. -/
def gSub (to ti : TE) (t : TSet) : TG := fun v σ H Q => to σ H fun o H1 => ti σ H1 fun i H2 => t o i v H2 fun H3 => Q σ H3
theorem pg_sub {o i : Expr} {to ti : TE} {t : TSet} (ho : PE X o to) (hi : PE X i ti) (hs : PSet X t)
    (ha : ∀ v, assign (.Subscript o i pos) X.env v = (do
      let ov ← holding [v] (eval o X.env)
      let iv ← holding [v, ov] (eval i X.env)
      standAt pos
      holding [v, ov, iv] (setItem ov iv v)
      release [v, ov, iv] []) := by intro _; rfl) : PG X (.Subscript o i pos) (gSub to ti t) := by
  intro pins s σ H v u Q I r h
  rw [ha]
  refine wpAny_bind (wpAny_holding (thn (ho pins s σ H _ I h) fun ov s1 ⟨x, H1, I1, r1, q1⟩ => ?_))
  refine wpAny_bind (wpAny_holding (thn (hi pins s1 σ H1 _ I1 q1) fun iv s2 ⟨y, H2, I2, r2, q2⟩ => ?_))
  refine wpAny_bind (wpAny_standAt (wpAny_bind (wpAny_holding (thn (hs pins s2 σ H2 x y v ov iv u _ I2 r1 r2 r q2) fun _ s3 ⟨H3, I3, q3⟩ => ?_))))
  exact wpAny_release ⟨σ, H3, I3, q3⟩
/-- target = value -/
def tAsg (te : TE) (g : TG) : TS := fun D σ H => te σ H fun x H1 => g x σ H1 D.nx
theorem ps_asg {tg e : Expr} {te : TE} {g : TG} (he : PE X e te) (hg : PG X tg g) (hs : swapsWithSole [tg] e pos.line X.env = pure false := by rfl) (hw : swappedStores [tg] e X.env = pure none := by rfl)
    (h1 : (assignEach [tg] X.env).map (·.2) = [assign tg X.env] := by rfl) : PS X (.Assign [tg] e pos) (tAsg te g) := by
  intro pins s σ H D I h
  refine wpAny_Assign_stores (thn (he pins s σ H _ I h) fun v s1 ⟨x, H1, I1, r1, q1⟩ => ?_) hs hw
  rw [h1]
  exact thn (hg pins s1 σ H1 x v _ I1 r1 q1) fun _ s2 q => q
/-- name = value -/
theorem ps_set {i : Nat} {x : Str} {e : Expr} {te : TE} {pos' : Pos} (hN : X.N.Nodup) (hi : X.N[i]? = some x) (hx : Loc X.env.scope x) (he : PE X e te) (hs : swapsWith e (some (.Name x pos')) pos.line X.env = pure false := by rfl) (hf : X.fn x = true ∨ X.env.scope.names.lookup x = some .local := by first | exact .inl rfl | exact .inr rfl | assumption) :
    PS X (.Assign [.Name x pos'] e pos) (tAsg te (gName i)) := by
  intro pins s σ H D I h
  refine wpAny_Assign_Name (thn (he pins s σ H _ I h) fun v s1 ⟨y, H1, I1, r1, q1⟩ => ?_) hs
  exact store_ok I1 hN hi hx r1 (fun s2 I2 => ⟨_, H1, I2, q1⟩) hf
/-- a, b = x, y with plain local names: stored from the right; the pair itself is not tracked (the opening rows as in PyProof/Rows/TupAssign.lean:23) -/
def tPar (i j : Nat) (ta : TA) : TS := fun D σ H => ta σ H fun vs H1 => ∃ v w, vs = [v, w] ∧ D.nx ((σ.set i (some v)).set j (some w)) H1
theorem ps_par {i j : Nat} {x y : Str} {a b : Expr} {ta : TA} {px py pt : Pos} {kt k2 pt2} (hc : X.calm = true) (hN : X.N.Nodup) (hi : X.N[i]? = some x) (hj : X.N[j]? = some y) (hij : i ≠ j)
    (hx : X.env.scope.names.lookup x = some .local) (hy : X.env.scope.names.lookup y = some .local) (ha : PA X [a, b] ta)
    (hw : swappedStores [.Tuple [.Name x px, .Name y py] kt pt] (.Tuple [a, b] k2 pt2) X.env = pure (some [x, y]))
    (hs : swapsWithSole [.Tuple [.Name x px, .Name y py] kt pt] (.Tuple [a, b] k2 pt2) pos.line X.env = pure false := by rfl) :
    PS X (.Assign [.Tuple [.Name x px, .Name y py] kt pt] (.Tuple [a, b] k2 pt2) pos) (tPar i j ta) := by
  intro pins s σ H D I h
  rw [exec_Assign_arm]
  refine wpAny_bind (wpAny_standAt ?_)
  rw [hs]
  refine wpAny_bind (wpAny_pure ?_)
  rw [if_neg (by decide)]
  refine wpAny_bind (Tuple_ (thn (ha _ pins s σ H _ I h) fun us s1 ⟨vs, H1, I1, r1, q1⟩ => ?_))
  obtain ⟨v, w, e1, q1⟩ := q1
  subst e1
  obtain ⟨u1, u2, rfl, rv, rw'⟩ : ∃ u1 u2, us = [u1, u2] ∧ RelV v u1 ∧ RelV w u2 := by
    cases r1 with
    | cons p q =>
      cases q with
      | cons p' q' =>
        cases q'
        exact ⟨_, _, rfl, p, p'⟩
  refine wpAny_newObj_type ?_ (by show 2 ≤ sizeLine; decide)
  have I2 : Inv X pins σ H1 { s1 with heap := s1.heap.push { cls := .type "tuple", data := .seq [u1, u2].toArray } } := I1.kept (t' := s1.toks) fun b o e => Heap.get?_push_of_some _ e
  rw [hw]
  refine wpAny_bind (wpAny_pure ?_)
  show wpAny (model X.prog X.w) X.A (do rule "assign.swapped-stores"; let items ← unpackItems (.ref s1.heap.objs.size) 2 none; assignInOrder [fun v => bindName X.env y v, fun v => bindName X.env x v] items.reverse; pure Flow.next) _ _ _
  refine wpAny_bind (wpAny_rule (wpAny_bind (unpackItems_tuple (items := #[u1, u2]) (I.ok.hd hc) (IsTup.new s1.heap _) fun h' hx' => ?_)))
  have I3 := I2.kept (h' := h') (t' := s1.toks) fun b o e => hx' b o (Nat.ne_of_lt (Heap.lt_size e)) e
  show wpAny _ _ (assignInOrder [fun v => bindName X.env y v, fun v => bindName X.env x v] [u2, u1] >>= fun _ => pure Flow.next) _ _ _
  refine wpAny_bind (assignInOrder_cons (wpAny_bindName (store_ok I3 hN hj (.inl hy) rw' (fun s2 I4 => ?_) (.inr hy))))
  refine assignInOrder_cons (wpAny_bindName (store_ok I4 hN hi (.inl hx) rv (fun s3 I5 => assignInOrder_nil (wpAny_pure ?_)) (.inr hx)))
  rw [List.set_comm _ _ (Ne.symm hij)] at I5
  exact ⟨_, H1, I5, q1⟩
end

/-! ### while -/
section
variable {X : Cx} {pos : Pos}
/-- the invariant W with its measure -/
def tWhile (c : TT) (tb : TS) : TS := fun D σ H => ∃ W : Nat → St → Hp → Prop, (∃ m, W m σ H) ∧ ∀ m σ H, W m σ H →
  c σ H fun b H1 => if b = true then ∃ N : St → Hp → Prop, (∀ σ' H', N σ' H' → ∃ m', m' < m ∧ W m' σ' H') ∧ tb { D with nx := N, ct := N, bk := D.nx } σ H1 else D.nx σ H1
theorem ps_while {c : Expr} {body : List Stmt} {tc : TT} {tb : TS} (hp : PassesOwn (model X.prog X.w) X.A X.env X.xe) (hc : PT X c tc) (hb : PSs X body tb) : PS X (.While c body [] pos) (tWhile tc tb) := by
  intro pins s σ H D I h
  obtain ⟨W, ⟨m0, w0⟩, turn⟩ := h
  refine wpAny_While (codeAny_whileLoop (fun n s' => ∃ σ' H', Inv X pins σ' H' s' ∧ W n σ' H') ?_ m0 ⟨σ, H, I, w0⟩)
  rintro n s1 ⟨σ1, H1, I1, w1⟩
  refine wpAny_passesOwn hp (thn (hc pins s1 σ1 H1 _ I1 (turn n σ1 H1 w1)) fun b s2 ⟨H2, I2, q2⟩ => ?_)
  cases b with
  | true =>
    obtain ⟨N, hN, q2⟩ := q2
    rw [if_pos rfl]
    refine wpAny_passesOwn hp (thn (hb pins s2 σ1 H2 _ I2 q2) fun f s3 q3 => ?_)
    cases f with
    | next =>
      obtain ⟨σ3, H3, I3, n3⟩ := q3
      obtain ⟨m', hm, w3⟩ := hN σ3 H3 n3
      exact ⟨m', hm, σ3, H3, I3, w3⟩
    | cont =>
      obtain ⟨σ3, H3, I3, n3⟩ := q3
      obtain ⟨m', hm, w3⟩ := hN σ3 H3 n3
      exact ⟨m', hm, σ3, H3, I3, w3⟩
    | brk => exact q3
    | ret v => exact q3
  | false =>
    rw [if_neg Bool.false_ne_true]
    exact wpAny_execs_nil ⟨σ1, H2, I2, q2⟩
end

/-! ### what a loop or a comprehension walks -/
/-- at turn i: it yields x (the heap may grow), or it stops -/
structure It where
  go : Nat → Hp → Prop
  yld : Nat → Hp → V → Hp → Prop
  stop : Nat → Hp → Prop
/-- the iterator's own objects may turn: they are not the frame's, not pinned, younger than the entry (or a comprehension's own) -/
def FpOk (X : Cx) (pins : List (Addr × Obj)) (H : Hp) (b : Addr) : Prop :=
  H b = none ∧ b ≠ X.env.locals ∧ b ∉ X.fs ∧ (b ∈ X.ex ∨ X.s_0.heap.objs.size ≤ b) ∧ (∀ x c, X.env.cells.lookup x = some c → c ≠ b) ∧ ∀ p ∈ X.pn ++ pins, p.1 ≠ b
theorem Inv.fpOk {X : Cx} {pins : List (Addr × Obj)} {σ : St} {H H' : Hp} {s : Shared} {b : Addr} (I : Inv X pins σ H s) (hb : s.heap.objs.size ≤ b) (hn : H' b = none) : FpOk X pins H' b := by
  refine ⟨hn, Nat.ne_of_gt (Nat.lt_of_lt_of_le I.lt hb), I.nofs hb, .inr (Nat.le_trans I.sz hb), fun x c e z => ?_, fun p hp z => ?_⟩
  · obtain ⟨v, q⟩ := I.cell x c e
    exact absurd (Nat.lt_of_lt_of_le q.lt (by rw [z]; exact hb)) (Nat.lt_irrefl _)
  · exact absurd (Nat.lt_of_lt_of_le (Heap.lt_size (I.pin p hp).1) (by rw [z]; exact hb)) (Nat.lt_irrefl _)
structure Turn (P : Program) (w : World) (K : PySem.W.Frag) (tg : Expr) (J : It) (fp : List Addr) (it : Addr) (tn : Nat → Heap → Prop) : Prop where
  mem : it ∈ fp
  obj : ∀ i h, tn i h → ∀ b ∈ fp, ∃ o, h.get? b = some o ∧ ∀ v, o.data ≠ .cell v
  keep : ∀ i h h', tn i h → (∀ b ∈ fp, ∀ o, h.get? b = some o → h'.get? b = some o) → tn i h'
  item : ∀ (X : Cx), X.prog = P → X.w = w → X.K = K → X.calm = true → ∀ (i : Nat) (pins : List (Addr × Obj)) (s : Shared) (σ : St) (H : Hp) (E : Value → Shared → Prop), Inv X pins σ H s → (∀ b ∈ fp, FpOk X pins H b) → tn i s.heap → J.go i H →
    wpAny (model P w) X.A (pyNext (.ref it)) (fun r s1 => ∃ u, r = some u ∧
      wpAny (model P w) X.A (letOwnedTupleGo tg (.ref it) u) (fun _ s2 => ∃ x H', Inv X pins σ H' s2 ∧ RelV x u ∧ J.yld i H x H' ∧ tn (i + 1) s2.heap ∧ ∀ b ∈ fp, H' b = none) E s1) E s
  done : ∀ (X : Cx), X.prog = P → X.w = w → X.K = K → X.calm = true → ∀ (i : Nat) (pins : List (Addr × Obj)) (s : Shared) (σ : St) (H : Hp) (E : Value → Shared → Prop), Inv X pins σ H s → (∀ b ∈ fp, FpOk X pins H b) → tn i s.heap → J.stop i H →
    wpAny (model P w) X.A (pyNext (.ref it)) (fun r s1 => r = none ∧ Inv X pins σ H s1) E s
  self : ∀ (A : Around) (i : Nat) (s : Shared) (Q : Value → Shared → Prop) (E : Value → Shared → Prop), tn i s.heap → Q (.ref it) s → wpAny (model P w) A (pyIter (.ref it)) Q E s
abbrev TI := St → Hp → (It → Hp → Prop) → Prop
/-- an iterator has come -/
def PIE (X : Cx) (pins : List (Addr × Obj)) (σ : St) (tg : Expr) (R : It → Hp → Prop) (itv : Value) (s2 : Shared) : Prop :=
  ∃ (it : Addr) (fp : List Addr) (tn : Nat → Heap → Prop) (J : It) (H' : Hp), itv = .ref it ∧ Inv X pins σ H' s2 ∧ Turn X.prog X.w X.K tg J fp it tn ∧ tn 0 s2.heap ∧ (∀ b ∈ fp, FpOk X pins H' b) ∧ R J H'
def PI (X : Cx) (tg iter : Expr) (wi : TI) : Prop :=
  ∀ (pins : List (Addr × Obj)) (s : Shared) (σ : St) (H : Hp) (R : It → Hp → Prop), Inv X pins σ H s → wi σ H R →
    wpAny (model X.prog X.w) X.A (eval iter X.env) (fun v s1 => wpAny (model X.prog X.w) X.A (pyIter v) (PIE X pins σ tg R) X.xe s1) X.xe s

/-- the step ahead of the store is nothing for an iterator that keeps no tuple -/
theorem go_of {M : Model} {A : Around} {E : Value → Shared → Prop} {s : Shared} {tg : Expr} {it : Addr} {u : Value} {o : Obj} {n : String} {vs : Array Value} {Q : Unit → Shared → Prop} (ho : s.heap.get? it = some o) (hc : o.cls = .type n) (hd : o.data = .fields vs)
    (hn : ["enumerate", "zip", "dict_itemiterator", "dict_reverseitemiterator", "odict_iterator", "itertools.zip_longest", "itertools.pairwise"].contains n = false) (hQ : Q () s) : wpAny M A (letOwnedTupleGo tg (.ref it) u) Q E s := by
  unfold letOwnedTupleGo
  cases tg <;> first
    | exact wpAny_pure hQ
    | (cases u <;> first
        | exact wpAny_pure hQ
        | (refine wpAny_bind (wpAny_load ho ?_)
           rw [hc, hd]
           show wpAny M A (if (["enumerate", "zip", "dict_itemiterator", "dict_reverseitemiterator", "odict_iterator", "itertools.zip_longest", "itertools.pairwise"].contains n && vs[0]? == some (rawInt _)) = true then _ else _) Q E s
           rw [if_neg (by intro h; rw [hn, Bool.false_and] at h; cases h)]
           exact wpAny_pure hQ))

/-- the list at a, as it stands at each turn (a loop may append to it) -/
def Itl (K : PySem.W.Frag) (a : Addr) : It :=
  ⟨fun i H => ∃ xs x, SqL K H a xs ∧ xs[i]? = some x, fun i H x H' => H' = H ∧ ∀ xs, SqL K H a xs → xs[i]? = some x, fun i H => ∃ xs, SqL K H a xs ∧ xs.length ≤ i⟩
/-- lo, lo + 1, .. (n of them) -/
def Itr (lo : Int) (n : Nat) : It := ⟨fun i _ => i < n, fun i H x H' => H' = H ∧ x = .int (lo + i), fun i _ => n ≤ i⟩
theorem turn_list {P : Program} {w : World} {K : PySem.W.Frag} {tg : Expr} (a it : Addr) : Turn P w K tg (Itl K a) [it] it (fun i h => h.IsListIter it a i) where
  mem := by simp
  obj := fun i h st b hb => by
    have e : b = it := by simpa using hb
    subst e
    obtain ⟨o, e, c, d⟩ := st
    exact ⟨o, e, fun v z => by rw [d] at z; cases z⟩
  keep := fun i h h' st k => st.at fun o e => k it (by simp) o e
  item := by
    intro X hP hw hK hc i pins s σ H E I hf st hg
    subst hP hw hK
    obtain ⟨xs, x, hq, hx⟩ := hg
    obtain ⟨its, rv, p, hz⟩ := I.list hq
    obtain ⟨u, hu, ru⟩ := rv.get hx
    obtain ⟨f0, f1, f2, f3, f4, f5⟩ := hf it (by simp)
    refine wpAny_pyNext_list_item st p.isList (x := u) (by simpa using hu) fun h' st' sb => ?_
    have I1 : Inv X pins σ H { s with heap := h' } := I.turned (t' := s.toks) (fun b o hb e => (sb.2 b hb).trans e) f0 f1 f3 f4 f5
    obtain ⟨o, e, c, d⟩ := id st'
    exact ⟨u, rfl, go_of (s := { s with heap := h' }) e c d (by decide) ⟨x, H, I1, ru, ⟨rfl, fun ys hy => by rw [I.list_inj hy hq]; exact hx⟩, st', fun b hb => (hf b hb).1⟩⟩
  done := by
    intro X hP hw hK hc i pins s σ H E I hf st hg
    subst hP hw hK
    obtain ⟨xs, hq, hx⟩ := hg
    obtain ⟨its, rv, p, hz⟩ := I.list hq
    obtain ⟨f0, f1, f2, f3, f4, f5⟩ := hf it (by simp)
    have hl := rv.length
    exact wpAny_pyNext_list_end (I.ok.hd hc) st p.isList (by simp; omega) fun h' eb => ⟨rfl, I.turned (t' := s.toks) (fun b o hb e => eb b o hb e) f0 f1 f3 f4 f5⟩
  self := fun _ _ _ _ _ st h => wpAny_pyIter_listiter st h
theorem turn_range {P : Program} {w : World} {K : PySem.W.Frag} {tg : Expr} (it : Addr) (lo : Int) (n : Nat) : Turn P w K tg (Itr lo n) [it] it (fun i h => IsRangeIter h it (lo + (i : Nat) * 1) ((n : Int) - (i : Nat)) 1) where
  mem := by simp
  obj := fun i h st b hb => by
    have e : b = it := by simpa using hb
    subst e
    exact ⟨_, st, fun v z => by
      have z' : Data.fields _ = Data.cell v := z
      cases z'⟩
  keep := fun i h h' st k => k it (by simp) _ st
  item := by
    intro X hP hw hK hc i pins s σ H E I hf st hg
    subst hP hw hK
    obtain ⟨f0, f1, f2, f3, f4, f5⟩ := hf it (by simp)
    have W := Walks.range (prog := X.prog) (w := X.w) (I.ok.hd hc) it lo 1 n
    refine W.item i s _ _ hg st fun v h' tk hv st' kk => ?_
    obtain ⟨t, rfl⟩ := hv
    have I1 : Inv X pins σ H { s with heap := h', toks := tk } := I.turned (fun b o hb e => kk b o (by simpa using hb) e) f0 f1 f3 f4 f5
    refine ⟨_, rfl, go_of (s := { s with heap := h', toks := tk }) (n := "range_iterator") st' rfl rfl (by decide) ⟨.int (lo + i), H, I1, ⟨t, ?_⟩, ⟨rfl, rfl⟩, st', fun b hb => (hf b hb).1⟩⟩
    rw [Int.mul_one]
  done := by
    intro X hP hw hK hc i pins s σ H E I hf st hg
    subst hP hw hK
    obtain ⟨f0, f1, f2, f3, f4, f5⟩ := hf it (by simp)
    exact wpAny_pyNext_range_end (I.ok.hd hc) st (by have : n ≤ i := hg; omega) fun h' eb => ⟨rfl, I.turned (t' := s.toks) (fun b o hb e => eb b o hb e) f0 f1 f3 f4 f5⟩
  self := fun _ _ _ _ _ st h => wpAny_pyIter_rangeiter st h
end L2

namespace L2
open PySem PySem.Spec PyProof.Rows
section
variable {X : Cx} {tg : Expr}
def iList (K : PySem.W.Frag) (tl : TE) : TI := fun σ H R => tl σ H fun x H1 => ∃ a, x = .ref a ∧ (∃ xs, SqL K H1 a xs) ∧ R (Itl K a) H1
theorem pi_list {l : Expr} {tl : TE} (hl : PE X l tl) : PI X tg l (iList X.K tl) := by
  intro pins s σ H R I h
  refine thn (hl pins s σ H _ I h) fun v s1 ⟨x, H1, I1, r1, q1⟩ => ?_
  obtain ⟨a, e, ⟨xs, hq⟩, q⟩ := q1
  subst e
  cases r1
  obtain ⟨its, rv, p, hz⟩ := I1.list hq
  refine wpAny_pyIter_list p.isList ?_
  refine ⟨s1.heap.objs.size, [s1.heap.objs.size], _, _, H1, rfl, I1.kept (t' := s1.toks) fun b o e => Heap.get?_push_of_some _ e, turn_list a _, ⟨_, Heap.get?_push_size _ rfl, rfl, rfl⟩, fun b hb => ?_, q⟩
  have e : b = s1.heap.objs.size := by simpa using hb
  subst e
  exact I1.fpOk (Nat.le_refl _) (I1.hok.fresh (Nat.le_refl _))
/-- a range object just made, walked -/
theorem range_it {pins : List (Addr × Obj)} {σ : St} {H : Hp} {s : Shared} {R : It → Hp → Prop} {E : Value → Shared → Prop} {lo hi : Int} {t u v : Tok} {tk : Nat} (I : Inv X pins σ H s) (h1 : -(2 ^ 62) ≤ lo) (h2 : lo < 2 ^ 62) (h3 : -(2 ^ 62) ≤ hi) (h4 : hi < 2 ^ 62)
    (q : R (Itr lo (hi - lo).toNat) H) : wpAny (model X.prog X.w) X.A (pyIter (.ref s.heap.objs.size)) (PIE X pins σ tg R) E { s with heap := s.heap.push { cls := .type "range", data := .fields #[.int lo t, .int hi u, .int 1 v] }, toks := tk } := by
  refine wpAny_pyIter_range (IsRange.new ..) (small_one h1 h2 h3 h4) ?_
  have I1 : Inv X pins σ H { s with heap := s.heap.push { cls := .type "range", data := .fields #[.int lo t, .int hi u, .int 1 v] }, toks := tk } := I.kept fun b o e => Heap.get?_push_of_some _ e
  refine ⟨(s.heap.push { cls := .type "range", data := .fields #[.int lo t, .int hi u, .int 1 v] }).objs.size, [(s.heap.push { cls := .type "range", data := .fields #[.int lo t, .int hi u, .int 1 v] }).objs.size], _, _, H, rfl,
    I1.kept (t' := tk) fun b o e => Heap.get?_push_of_some _ e, turn_range _ lo (hi - lo).toNat, ?_, fun b hb => ?_, q⟩
  · have e1 : lo + ((0 : Nat) : Int) * 1 = lo := by simp
    have e2 : (((hi - lo).toNat : Nat) : Int) - ((0 : Nat) : Int) = Builtin.Range.rangeSize lo hi 1 := by rw [rangeSize_one]; split <;> omega
    show IsRangeIter _ _ (lo + ((0 : Nat) : Int) * 1) ((((hi - lo).toNat : Nat) : Int) - ((0 : Nat) : Int)) 1
    rw [e1, e2]
    exact Heap.get?_push_size _ rfl
  · have e : b = (s.heap.push { cls := .type "range", data := .fields #[.int lo t, .int hi u, .int 1 v] }).objs.size := by simpa using hb
    subst e
    exact I1.fpOk (Nat.le_refl _) (I1.hok.fresh (Nat.le_refl _))
def iRng1 (ta : TA) : TI := fun σ H R => ta σ H fun vs H1 => ∃ j : Int, vs = [.int j] ∧ -(2 ^ 62) ≤ j ∧ j < 2 ^ 62 ∧ R (Itr 0 j.toNat) H1
def iRng2 (ta : TA) : TI := fun σ H R => ta σ H fun vs H1 => ∃ i j : Int, vs = [.int i, .int j] ∧ (-(2 ^ 62) ≤ i ∧ i < 2 ^ 62 ∧ -(2 ^ 62) ≤ j ∧ j < 2 ^ 62) ∧ R (Itr i (j - i).toNat) H1
theorem pi_range1 {a : Expr} {ta : TA} {p pos : Pos} (hg : Gl X "range") (hm : X.mg "range" = none) (ha : PA X [a] ta) (hs : starEach [a] X.env = [(false, eval a X.env)] := by rfl) : PI X tg (.Call (.Name "range" p) [a] [] pos) (iRng1 ta) := by
  intro pins s σ H R I h
  refine Call_ (ld_blt I hg hm boot_range (PyProof.Rows.callWith_type1 (thn (ha pos pins s σ H _ I h) fun us s1 ⟨vs, H1, I1, r1, q1⟩ => ?_) hs rfl))
  obtain ⟨j, e, q1, q2, q⟩ := q1
  subst e
  cases r1 with
  | cons r rr =>
    cases rr
    obtain ⟨t, rfl⟩ := r
    exact call_range_1 (range_it I1 (by omega) (by omega) q1 q2 (by simpa using q))
theorem pi_range2 {a b : Expr} {ta : TA} {p pos : Pos} (hg : Gl X "range") (hm : X.mg "range" = none) (ha : PA X [a, b] ta) (hs : starEach [a, b] X.env = [(false, eval a X.env), (false, eval b X.env)] := by rfl) (hs2 : starEach [b] X.env = [(false, eval b X.env)] := by rfl) :
    PI X tg (.Call (.Name "range" p) [a, b] [] pos) (iRng2 ta) := by
  intro pins s σ H R I h
  refine Call_ (ld_blt I hg hm boot_range (PyProof.Rows.callWith_type1 (thn (ha pos pins s σ H _ I h) fun us s1 ⟨vs, H1, I1, r1, q1⟩ => ?_) (by rw [hs, hs2]) (by rw [hs2]; rfl)))
  obtain ⟨i, j, e, ⟨q1, q2, q3, q4⟩, q⟩ := q1
  subst e
  cases r1 with
  | cons r rr =>
    cases rr with
    | cons r' rr =>
      cases rr
      obtain ⟨t, rfl⟩ := r
      obtain ⟨t', rfl⟩ := r'
      exact call_range_2 (range_it I1 q1 q2 q3 q4 q)

/-! ### for -/
/-- W: the invariant by the turn and a measure; N: what the body is to reach -/
def tFor (wi : TI) (g : TG) (tb : TS) : TS := fun D σ H => wi σ H fun J H1 => ∃ W : Nat → Nat → St → Hp → Prop, (∃ m, W 0 m σ H1) ∧ ∀ i m σ H, W i m σ H →
  (J.stop i H ∧ D.nx σ H) ∨ (J.go i H ∧ ∃ N : St → Hp → Prop, (∀ σ' H', N σ' H' → ∃ m', m' < m ∧ W (i + 1) m' σ' H') ∧ ∀ x H', J.yld i H x H' → g x σ H' fun σ2 H2 => tb { D with nx := N, ct := N, bk := D.nx } σ2 H2)
/-- the records at fp as they stand -/
def pinsAt (fp : List Addr) (h : Heap) : List (Addr × Obj) := fp.filterMap fun b => (h.get? b).map fun o => (b, o)
theorem mem_pinsAt {fp : List Addr} {h : Heap} {b : Addr} {o : Obj} (hb : b ∈ fp) (e : h.get? b = some o) : (b, o) ∈ pinsAt fp h := List.mem_filterMap.mpr ⟨b, hb, by rw [e]; rfl⟩
theorem of_pinsAt {fp : List Addr} {h : Heap} {p : Addr × Obj} (hp : p ∈ pinsAt fp h) : p.1 ∈ fp ∧ h.get? p.1 = some p.2 := by
  obtain ⟨b, hb, e⟩ := List.mem_filterMap.mp hp
  cases q : h.get? b with
  | none => rw [q] at e; cases e
  | some o =>
    rw [q] at e
    have e' : (b, o) = p := Option.some.inj e
    subst e'
    exact ⟨hb, q⟩
theorem Inv.pinned {pins : List (Addr × Obj)} {σ : St} {H : Hp} {s : Shared} {fp : List Addr} (I : Inv X pins σ H s) (hf : ∀ b ∈ fp, FpOk X pins H b) (ho : ∀ b ∈ fp, ∃ o, s.heap.get? b = some o ∧ ∀ v, o.data ≠ .cell v) : Inv X (pins ++ pinsAt fp s.heap) σ H s :=
  I.pins_of fun p hp => (List.mem_append.mp hp).elim (fun z => I.pin p (List.mem_append_right _ z)) fun z => by
    obtain ⟨hb, e⟩ := of_pinsAt z
    obtain ⟨f0, f1, f2, _⟩ := hf p.1 hb
    obtain ⟨o, e', d⟩ := ho p.1 hb
    rw [e] at e'; cases e'
    exact ⟨e, f0, f1, f2, d⟩
theorem Inv.unpinned {pins pl : List (Addr × Obj)} {σ : St} {H : Hp} {s : Shared} (I : Inv X (pins ++ pl) σ H s) : Inv X pins σ H s := I.pins_of fun p hp => I.pin p (List.mem_append_right _ (List.mem_append_left _ hp))
theorem ps_for {iter : Expr} {body : List Stmt} {wi : TI} {g : TG} {tb : TS} {pos : Pos} (hp : PassesOwn (model X.prog X.w) X.A X.env X.xe) (hc : X.calm = true) (hi : PI X tg iter wi) (hg : PG X tg g) (hb : PSs X body tb)
    (hs : ∀ x, foldedSetIterable iter X.env x = pure x := by intro _; rfl) : PS X (.For tg iter body [] pos) (tFor wi g tb) := by
  intro pins s σ H D I h
  refine wpAny_For (thn (hi pins s σ H _ I h) fun v s1 h1 => thn h1 fun itv s2 h2 => ?_) hs
  obtain ⟨it, fp, tn, J, H2, e, I2, T, st2, f2, W, ⟨m0, w0⟩, turn⟩ := h2
  subst e
  -- what stays true of the iterator's objects through the loop
  have stat : ∀ {H' : Hp}, (∀ b ∈ fp, H' b = none) → ∀ b ∈ fp, FpOk X pins H' b := fun hn b hb => ⟨hn b hb, (f2 b hb).2⟩
  refine codeAny_forLoop_any (fun n s' => ∃ i σ' H', Inv X pins σ' H' s' ∧ tn i s'.heap ∧ (∀ b ∈ fp, H' b = none) ∧ W i n σ' H') ?_ m0 ⟨0, σ, H2, I2, st2, fun b hb => (f2 b hb).1, w0⟩
  rintro n s3 ⟨i, σ3, H3, I3, st3, fr3, w3⟩
  rcases turn i n σ3 H3 w3 with ⟨stop, qn⟩ | ⟨go, N, hN, step⟩
  · refine wpAny_passesOwn hp (thn (T.done X rfl rfl rfl hc i pins s3 σ3 H3 X.xe I3 (stat fr3) st3 stop) fun r s4 ⟨hr, I4⟩ => ?_)
    subst hr
    exact wpAny_execs_nil ⟨σ3, H3, I4, qn⟩
  · refine wpAny_passesOwn hp (thn (T.item X rfl rfl rfl hc i pins s3 σ3 H3 X.xe I3 (stat fr3) st3 go) fun r s4 ⟨u, hr, h4⟩ => ?_)
    subst hr
    refine wpAny_passesOwn hp (thn h4 fun _ s5 ⟨x, H5, I5, r5, y5, st5, fr5⟩ => ?_)
    have I5' := I5.pinned (stat fr5) (T.obj _ _ st5)
    refine wpAny_passesOwn hp (thn (hg _ s5 σ3 H5 x u _ I5' r5 (step x H5 y5)) fun _ s6 ⟨σ6, H6, I6, q6⟩ => ?_)
    refine wpAny_passesOwn hp (thn (hb _ s6 σ6 H6 _ I6 q6) fun f s7 q7 => ?_)
    have again : ∀ {σ7 : St} {H7 : Hp}, Inv X (pins ++ pinsAt fp s5.heap) σ7 H7 s7 → N σ7 H7 → ∃ m, m < n ∧ ∃ i σ' H', Inv X pins σ' H' s7 ∧ tn i s7.heap ∧ (∀ b ∈ fp, H' b = none) ∧ W i m σ' H' := fun {σ7 H7} I7 n7 => by
      obtain ⟨m', hm, w7⟩ := hN σ7 H7 n7
      refine ⟨m', hm, i + 1, σ7, H7, I7.unpinned, T.keep _ _ _ st5 fun b hb o e => (I7.pin (b, o) (List.mem_append_right _ (List.mem_append_right _ (mem_pinsAt hb e)))).1, fun b hb => ?_, w7⟩
      obtain ⟨o, e, d⟩ := T.obj _ _ st5 b hb
      exact (I7.pin (b, o) (List.mem_append_right _ (List.mem_append_right _ (mem_pinsAt hb e)))).2.1
    cases f with
    | next => obtain ⟨σ7, H7, I7, n7⟩ := q7; exact again I7 n7
    | cont => obtain ⟨σ7, H7, I7, n7⟩ := q7; exact again I7 n7
    | brk => obtain ⟨σ7, H7, I7, q7⟩ := q7; exact ⟨σ7, H7, I7.unpinned, q7⟩
    | ret v => obtain ⟨x7, σ7, H7, I7, r7, q7⟩ := q7; exact ⟨x7, σ7, H7, I7.unpinned, r7, q7⟩
end

/-! ### the forms one uses -/
/-- over a list that the body leaves as it is -/
theorem for_list {K : PySem.W.Frag} {a : Addr} {xs : List V} {g : TG} {tb : TS} {D : Ends} {σ : St} {H : Hp} (Pv : Nat → St → Hp → Prop) (h0 : Pv 0 σ H) (hl : ∀ i σ H, i ≤ xs.length → Pv i σ H → SqL K H a xs)
    (hs : ∀ i x σ H, xs[i]? = some x → Pv i σ H → g x σ H fun σ2 H2 => tb { D with nx := Pv (i + 1), ct := Pv (i + 1), bk := D.nx } σ2 H2) (hd : ∀ σ H, Pv xs.length σ H → D.nx σ H) :
    ∃ W : Nat → Nat → St → Hp → Prop, (∃ m, W 0 m σ H) ∧ ∀ i m σ H, W i m σ H →
      ((Itl K a).stop i H ∧ D.nx σ H) ∨ ((Itl K a).go i H ∧ ∃ N : St → Hp → Prop, (∀ σ' H', N σ' H' → ∃ m', m' < m ∧ W (i + 1) m' σ' H') ∧ ∀ x H', (Itl K a).yld i H x H' → g x σ H' fun σ2 H2 => tb { D with nx := N, ct := N, bk := D.nx } σ2 H2) := by
  refine ⟨fun i m σ H => m = xs.length - i ∧ i ≤ xs.length ∧ Pv i σ H, ⟨xs.length, by simp, Nat.zero_le _, h0⟩, ?_⟩
  rintro i m σ H ⟨rfl, hi, p⟩
  have q := hl i σ H hi p
  by_cases hlt : i < xs.length
  · refine .inr ⟨⟨xs, xs[i], q, by simp [hlt]⟩, Pv (i + 1), fun σ' H' p' => ⟨xs.length - (i + 1), by omega, rfl, hlt, p'⟩, fun x H' y => ?_⟩
    obtain ⟨e, y⟩ := y
    subst e
    exact hs i x σ _ (y xs q) p
  · have e : i = xs.length := by omega
    subst e
    exact .inl ⟨⟨xs, q, Nat.le_refl _⟩, hd σ H p⟩
theorem for_range {lo : Int} {n : Nat} {g : TG} {tb : TS} {D : Ends} {σ : St} {H : Hp} (Pv : Nat → St → Hp → Prop) (h0 : Pv 0 σ H)
    (hs : ∀ i σ H, i < n → Pv i σ H → g (.int (lo + i)) σ H fun σ2 H2 => tb { D with nx := Pv (i + 1), ct := Pv (i + 1), bk := D.nx } σ2 H2) (hd : ∀ σ H, Pv n σ H → D.nx σ H) :
    ∃ W : Nat → Nat → St → Hp → Prop, (∃ m, W 0 m σ H) ∧ ∀ i m σ H, W i m σ H →
      ((Itr lo n).stop i H ∧ D.nx σ H) ∨ ((Itr lo n).go i H ∧ ∃ N : St → Hp → Prop, (∀ σ' H', N σ' H' → ∃ m', m' < m ∧ W (i + 1) m' σ' H') ∧ ∀ x H', (Itr lo n).yld i H x H' → g x σ H' fun σ2 H2 => tb { D with nx := N, ct := N, bk := D.nx } σ2 H2) := by
  refine ⟨fun i m σ H => m = n - i ∧ i ≤ n ∧ Pv i σ H, ⟨n, by simp, Nat.zero_le _, h0⟩, ?_⟩
  rintro i m σ H ⟨rfl, hi, p⟩
  by_cases hlt : i < n
  · refine .inr ⟨hlt, Pv (i + 1), fun σ' H' p' => ⟨n - (i + 1), by omega, rfl, hlt, p'⟩, fun x H' y => ?_⟩
    obtain ⟨e, y⟩ := y
    subst e y
    exact hs i σ _ hlt p
  · have e : i = n := by omega
    subst e
    exact .inl ⟨Nat.le_refl _, hd σ H p⟩
end L2

namespace L2
open PySem PySem.Spec PyProof.Rows

abbrev R2 := V → V → Hp → VK → Prop
/-- a two-place operation on values: f is binaryOp op, inplaceOp op or compareOp op -/
def OpR (X : Cx) (f : Value → Value → Sem Value) (r : R2) : Prop :=
  ∀ (pins : List (Addr × Obj)) (s : Shared) (σ : St) (H : Hp) (x y : V) (v u : Value) (Q : VK), Inv X pins σ H s → RelV x v → RelV y u → r x y H Q →
    wpAny (model X.prog X.w) X.A (f v u) (EP X pins σ Q) X.xe s
/-- a one-place operation -/
def UnR (X : Cx) (f : Value → Sem Value) (r : V → Hp → VK → Prop) : Prop :=
  ∀ (pins : List (Addr × Obj)) (s : Shared) (σ : St) (H : Hp) (x : V) (v : Value) (Q : VK), Inv X pins σ H s → RelV x v → r x H Q →
    wpAny (model X.prog X.w) X.A (f v) (EP X pins σ Q) X.xe s
/-- a call of a value that is known (a builtin, a type) with values -/
def CallR (X : Cx) (f : Value) (r : List V → Hp → VK → Prop) : Prop :=
  ∀ (pins : List (Addr × Obj)) (s : Shared) (σ : St) (H : Hp) (xs : List V) (us : List Value) (Q : VK), Inv X pins σ H s → Vals xs us → r xs H Q →
    wpAny (model X.prog X.w) X.A (call f us) (EP X pins σ Q) X.xe s
def tOp (r : R2) (ta tb : TE) : TE := fun σ H Q => ta σ H fun x H1 => tb σ H1 fun y H2 => r x y H2 Q
def tUn (r : V → Hp → VK → Prop) (ta : TE) : TE := fun σ H Q => ta σ H fun x H1 => r x H1 Q
/-- ints in, under C, and a value out -/
def rI (C : Int → Int → Prop) (g : Int → Int → V) : R2 := fun x y H Q => ∃ i j, x = .int i ∧ y = .int j ∧ C i j ∧ Q (g i j) H
def rI0 (g : Int → Int → V) : R2 := fun x y H Q => ∃ i j, x = .int i ∧ y = .int j ∧ Q (g i j) H
def rU (g : Int → V) : V → Hp → VK → Prop := fun x H Q => ∃ i, x = .int i ∧ Q (g i) H

section
variable {X : Cx} {a b c : Expr} {ta tb tc : TE} {pos : Pos}

theorem binT (ha : PE X a ta) (hb : PE X b tb) {pins : List (Addr × Obj)} {s : Shared} {σ : St} {H : Hp} {R : V → V → Hp → Prop} (I : Inv X pins σ H s)
    (h : ta σ H fun x H1 => tb σ H1 fun y H2 => R x y H2) {Q : Value → Shared → Prop} {f : Value → Value → Sem Value}
    (hf : ∀ v u s2 x y H2, Inv X pins σ H2 s2 → RelV x v → RelV y u → R x y H2 → wpAny (model X.prog X.w) X.A (f v u) Q X.xe s2) :
    wpAny (model X.prog X.w) X.A (eval a X.env) (fun v s₁ => wpAny (model X.prog X.w) X.A (eval b X.env) (fun u s₂ => wpAny (model X.prog X.w) X.A (f v u) Q X.xe s₂) X.xe s₁) X.xe s := by
  refine thn (ha pins s σ H _ I h) fun v s1 ⟨x, H1, I1, r1, q1⟩ => ?_
  refine thn (hb pins s1 σ H1 _ I1 q1) fun u s2 ⟨y, H2, I2, r2, q2⟩ => ?_
  exact hf v u s2 x y H2 I2 r1 r2 q2

theorem pe_op {op : Operator} {r : R2} (ho : OpR X (binaryOp op) r) (ha : PE X a ta) (hb : PE X b tb) : PE X (.BinOp a op b pos) (tOp r ta tb) := by
  intro pins s σ H Q I h
  exact wpAny_BinOp (binT ha hb I h fun v u s2 x y H2 I2 rx ry q => ho pins s2 σ H2 x y v u Q I2 rx ry q)
theorem pe_un {op : UnaryOp} {r : V → Hp → VK → Prop} (ho : UnR X (unaryOp op) r) (ha : PE X a ta) : PE X (.UnaryOp op a pos) (tUn r ta) := by
  intro pins s σ H Q I h
  exact UnaryOp_ (thn (ha pins s σ H _ I h) fun v s1 ⟨x, H1, I1, r1, q1⟩ => ho pins s1 σ H1 x v Q I1 r1 q1)
/-! ### ints -/
theorem opI {f : Value → Value → Sem Value} {C : Int → Int → Prop} {g : Int → Int → Int}
    (rule : ∀ (i j : Int) (t u : Tok) (s : Shared) (Q : Value → Shared → Prop) (E : Value → Shared → Prop), C i j → Q (.int (g i j) s.toks) { s with toks := s.toks + 1 } → wpAny (model X.prog X.w) X.A (f (.int i t) (.int j u)) Q E s) :
    OpR X f (rI C fun i j => .int (g i j)) := by
  intro pins s σ H x y v u Q I rx ry h
  obtain ⟨i, j, rfl, rfl, hc, q⟩ := h
  obtain ⟨t, rfl⟩ := rx
  obtain ⟨t', rfl⟩ := ry
  exact rule i j t t' s _ _ hc ⟨.int (g i j), H, I.tok _, ⟨_, rfl⟩, q⟩
theorem opI0 {f : Value → Value → Sem Value} {g : Int → Int → Int}
    (rule : ∀ (i j : Int) (t u : Tok) (s : Shared) (Q : Value → Shared → Prop) (E : Value → Shared → Prop), Q (.int (g i j) s.toks) { s with toks := s.toks + 1 } → wpAny (model X.prog X.w) X.A (f (.int i t) (.int j u)) Q E s) :
    OpR X f (rI0 fun i j => .int (g i j)) := by
  intro pins s σ H x y v u Q I rx ry h
  obtain ⟨i, j, rfl, rfl, q⟩ := h
  obtain ⟨t, rfl⟩ := rx
  obtain ⟨t', rfl⟩ := ry
  exact rule i j t t' s _ _ ⟨.int (g i j), H, I.tok _, ⟨_, rfl⟩, q⟩
theorem opB0 {f : Value → Value → Sem Value} {g : Int → Int → Bool}
    (rule : ∀ (i j : Int) (t u : Tok) (s : Shared) (Q : Value → Shared → Prop) (E : Value → Shared → Prop), Q (.bool (g i j)) s → wpAny (model X.prog X.w) X.A (f (.int i t) (.int j u)) Q E s) :
    OpR X f (rI0 fun i j => .bl (g i j)) := by
  intro pins s σ H x y v u Q I rx ry h
  obtain ⟨i, j, rfl, rfl, q⟩ := h
  obtain ⟨t, rfl⟩ := rx
  obtain ⟨t', rfl⟩ := ry
  exact rule i j t t' s _ _ ⟨.bl (g i j), H, I, rfl, q⟩

def CPow (i j : Int) : Prop := 0 ≤ j ∧ j ≤ 1000000 ∧ i.natAbs < 2 ^ 64
def CMul (i j : Int) : Prop := (-(2 ^ 64) < i ∧ i < 2 ^ 64) ∨ (-(2 ^ 64) < j ∧ j < 2 ^ 64)
theorem CMul.ok {i j : Int} (h : CMul i j) : IntMulOk i j := by
  rcases h with ⟨h1, h2⟩ | ⟨h1, h2⟩
  · exact .of_left (intBits_le_64 h1 h2)
  · exact .of_right (intBits_le_64 h1 h2)
theorem two_pow_nn (k : Nat) : (0 : Int) ≤ 2 ^ k := by
  rw [two_pow_cast]
  exact Int.natCast_nonneg _

theorem op_add : OpR X (binaryOp .Add) (rI0 fun i j => .int (i + j)) := opI0 fun _ _ _ _ _ _ _ q => add_int q
theorem op_sub : OpR X (binaryOp .Sub) (rI0 fun i j => .int (i - j)) := opI0 fun _ _ _ _ _ _ _ q => sub_int q
theorem op_mul : OpR X (binaryOp .Mult) (rI CMul fun i j => .int (i * j)) := opI fun _ _ _ _ _ _ _ hc q => mul_int q hc.ok
/-- % by a positive divisor of any size -/
theorem op_mod : OpR X (binaryOp .Mod) (rI (fun _ j => 0 < j) fun i j => .int (i % j)) := opI fun i j _ _ _ _ _ hc q => by
  have h1 : (0 : Int) < j := hc
  exact mod_int' (by omega) (by rw [Int.fmod_eq_emod_of_nonneg i (by omega)]; exact q)
theorem op_pow : OpR X (binaryOp .Pow) (rI CPow fun i j => .int (i ^ j.toNat)) := opI fun _ _ _ _ _ _ _ hc q => pow_int_small hc.1 hc.2.1 hc.2.2 q
theorem op_shl : OpR X (binaryOp .LShift) (rI CPow fun i j => .int (i * 2 ^ j.toNat)) := opI fun _ _ _ _ _ _ _ hc q => lshift_int_small hc.1 hc.2.1 hc.2.2 q
theorem op_shr : OpR X (binaryOp .RShift) (rI (fun _ j => 0 ≤ j) fun i j => .int (i / 2 ^ j.toNat)) := opI fun i j _ _ _ _ _ hc q =>
  rshift_int hc (by rw [Int.fdiv_eq_ediv_of_nonneg i (two_pow_nn _)]; exact q)
theorem op_and : OpR X (binaryOp .BitAnd) (rI0 fun i j => .int (Builtin.bitAnd i j)) := opI0 fun _ _ _ _ _ _ _ q => and_int q
theorem unI {f : Value → Sem Value} {g : Int → Int}
    (rule : ∀ (i : Int) (t : Tok) (s : Shared) (Q : Value → Shared → Prop) (E : Value → Shared → Prop), Q (.int (g i) s.toks) { s with toks := s.toks + 1 } → wpAny (model X.prog X.w) X.A (f (.int i t)) Q E s) :
    UnR X f (rU fun i => .int (g i)) := by
  intro pins s σ H x v Q I rx h
  obtain ⟨i, rfl, q⟩ := h
  obtain ⟨t, rfl⟩ := rx
  exact rule i t s _ _ ⟨.int (g i), H, I.tok _, ⟨_, rfl⟩, q⟩
theorem un_neg : UnR X (unaryOp .USub) (rU fun i => .int (-i)) := unI fun _ _ _ _ _ q => neg_int q
end

/-! ### comparisons -/
/-- the scalars that == tells apart as data does -/
def scal : V → V → Bool
  | .non, .non => true | .non, .int _ => true | .int _, .non => true | .non, .bl _ => true | .bl _, .non => true | .non, .str _ => true | .str _, .non => true
  | .int _, .int _ => true | .bl _, .bl _ => true | .str _, .str _ => true | .byt _, .byt _ => true
  | .int _, .str _ => true | .str _, .int _ => true | .bl _, .str _ => true | .str _, .bl _ => true
  | _, _ => false
def rEq : R2 := fun x y H Q => scal x y = true ∧ Q (.bl (decide (x = y))) H
def rNe : R2 := fun x y H Q => scal x y = true ∧ Q (.bl (!decide (x = y))) H

theorem dec_int {i j : Int} : decide (V.int i = V.int j) = (i == j) := by
  rw [Bool.eq_iff_iff]
  simp
theorem dec_bl {i j : Bool} : decide (V.bl i = V.bl j) = (i == j) := by
  rw [Bool.eq_iff_iff]
  simp
theorem dec_str {i j : Str} : decide (V.str i = V.str j) = (i == j) := by
  rw [Bool.eq_iff_iff]
  simp
theorem dec_byt {i j : Array UInt8} : decide (V.byt i = V.byt j) = (i.toList == j.toList) := by
  rw [Bool.eq_iff_iff]
  cases i
  cases j
  simp

section
variable {X : Cx} {a b c : Expr} {ta tb tc : TE} {pos : Pos}
theorem fin_bl {pins : List (Addr × Obj)} {σ : St} {H : Hp} {s : Shared} {Q : VK} {k k' : Bool} (I : Inv X pins σ H s) (q : Q (.bl k) H) (e : k = k') : EP X pins σ Q (.bool k') s := by
  subst e
  exact ⟨.bl k, H, I, rfl, q⟩
theorem op_eq : OpR X (compareOp .Eq) rEq := by
  intro pins s σ H x y v u Q I rx ry h
  obtain ⟨hs, q⟩ := h
  cases x with
  | non =>
    cases rx
    cases y with
    | non => cases ry; exact PySem.EqNone.eq_none_none (fin_bl I q (by simp))
    | bl j => cases ry; exact PySem.EqNone.eq_none_bool (fin_bl I q (by simp))
    | int j => obtain ⟨t', rfl⟩ := ry; exact PySem.EqNone.eq_none_int (fin_bl I q (by simp))
    | str j => obtain ⟨t', rfl⟩ := ry; exact PySem.EqNone.eq_none_str (fin_bl I q (by simp))
    | _ => exact absurd (show false = true from hs) Bool.false_ne_true
  | bl i =>
    cases rx
    cases y with
    | non => cases ry; exact PySem.EqNone.eq_bool_none (fin_bl I q (by simp))
    | bl j => cases ry; exact eq_bool (fin_bl I q dec_bl)
    | str j => obtain ⟨t', rfl⟩ := ry; exact PySem.EqMixed.eq_bool_str (fin_bl I q (by simp))
    | _ => exact absurd (show false = true from hs) Bool.false_ne_true
  | int i =>
    obtain ⟨t, rfl⟩ := rx
    cases y with
    | non => cases ry; exact PySem.EqNone.eq_int_none (fin_bl I q (by simp))
    | int j => obtain ⟨t', rfl⟩ := ry; exact eq_int (fin_bl I q dec_int)
    | str j => obtain ⟨t', rfl⟩ := ry; exact PySem.EqMixed.eq_int_str (fin_bl I q (by simp))
    | _ => exact absurd (show false = true from hs) Bool.false_ne_true
  | str i =>
    obtain ⟨t, rfl⟩ := rx
    cases y with
    | non => cases ry; exact PySem.EqNone.eq_str_none (fin_bl I q (by simp))
    | bl j => cases ry; exact PySem.EqMixed.eq_str_bool (fin_bl I q (by simp))
    | int j => obtain ⟨t', rfl⟩ := ry; exact PySem.EqMixed.eq_str_int (fin_bl I q (by simp))
    | str j => obtain ⟨t', rfl⟩ := ry; exact eq_str (fin_bl I q dec_str)
    | _ => exact absurd (show false = true from hs) Bool.false_ne_true
  | byt i =>
    obtain ⟨t, rfl⟩ := rx
    cases y with
    | byt j => obtain ⟨t', rfl⟩ := ry; exact PySem.W.eq_bytes (fin_bl I q dec_byt)
    | _ => exact absurd (show false = true from hs) Bool.false_ne_true
  | _ => cases y <;> exact absurd (show false = true from hs) Bool.false_ne_true
theorem op_ne : OpR X (compareOp .NotEq) rNe := by
  intro pins s σ H x y v u Q I rx ry h
  obtain ⟨hs, q⟩ := h
  cases x with
  | non =>
    cases rx
    cases y with
    | non => cases ry; exact PySem.EqNone.ne_none_none (fin_bl I q (by simp))
    | bl j => cases ry; exact PySem.EqNone.ne_none_bool (fin_bl I q (by simp))
    | int j => obtain ⟨t', rfl⟩ := ry; exact PySem.EqNone.ne_none_int (fin_bl I q (by simp))
    | str j => obtain ⟨t', rfl⟩ := ry; exact PySem.EqNone.ne_none_str (fin_bl I q (by simp))
    | _ => exact absurd (show false = true from hs) Bool.false_ne_true
  | bl i =>
    cases rx
    cases y with
    | non => cases ry; exact PySem.EqNone.ne_bool_none (fin_bl I q (by simp))
    | bl j => cases ry; exact ne_bool (fin_bl I q (congrArg not dec_bl))
    | str j => obtain ⟨t', rfl⟩ := ry; exact PySem.EqMixed.ne_bool_str (fin_bl I q (by simp))
    | _ => exact absurd (show false = true from hs) Bool.false_ne_true
  | int i =>
    obtain ⟨t, rfl⟩ := rx
    cases y with
    | non => cases ry; exact PySem.EqNone.ne_int_none (fin_bl I q (by simp))
    | int j => obtain ⟨t', rfl⟩ := ry; exact ne_int (fin_bl I q (congrArg not dec_int))
    | str j => obtain ⟨t', rfl⟩ := ry; exact PySem.EqMixed.ne_int_str (fin_bl I q (by simp))
    | _ => exact absurd (show false = true from hs) Bool.false_ne_true
  | str i =>
    obtain ⟨t, rfl⟩ := rx
    cases y with
    | non => cases ry; exact PySem.EqNone.ne_str_none (fin_bl I q (by simp))
    | bl j => cases ry; exact PySem.EqMixed.ne_str_bool (fin_bl I q (by simp))
    | int j => obtain ⟨t', rfl⟩ := ry; exact PySem.EqMixed.ne_str_int (fin_bl I q (by simp))
    | str j => obtain ⟨t', rfl⟩ := ry; exact ne_str (fin_bl I q (congrArg not dec_str))
    | _ => exact absurd (show false = true from hs) Bool.false_ne_true
  | byt i =>
    obtain ⟨t, rfl⟩ := rx
    cases y with
    | byt j => obtain ⟨t', rfl⟩ := ry; exact PySem.W.ne_bytes (fin_bl I q (congrArg not dec_byt))
    | _ => exact absurd (show false = true from hs) Bool.false_ne_true
  | _ => cases y <;> exact absurd (show false = true from hs) Bool.false_ne_true

theorem op_lt : OpR X (compareOp .Lt) (rI0 fun i j => .bl (decide (i < j))) := opB0 fun _ _ _ _ _ _ _ q => lt_int q
theorem op_le : OpR X (compareOp .LtE) (rI0 fun i j => .bl (decide (i ≤ j))) := opB0 fun _ _ _ _ _ _ _ q => le_int q
theorem op_gt : OpR X (compareOp .Gt) (rI0 fun i j => .bl (decide (j < i))) := opB0 fun _ _ _ _ _ _ _ q => gt_int q
theorem op_ge : OpR X (compareOp .GtE) (rI0 fun i j => .bl (decide (j ≤ i))) := opB0 fun _ _ _ _ _ _ _ q => ge_int q
theorem nomark (b : Expr) {op : CmpOp} (h : op ≠ .In := by decide) (h2 : op ≠ .NotIn := by decide) : behindInMarks op b = false := by
  have e1 : (op == CmpOp.In) = false := by cases op <;> first | rfl | exact absurd rfl h
  have e2 : (op == CmpOp.NotIn) = false := by cases op <;> first | rfl | exact absurd rfl h2
  cases b <;> simp [behindInMarks, e1, e2]
/-- a comparison as a value; hm: nomark b, or (for in, not in) by with_unfolding_all rfl -/
theorem pe_cmpR {op : CmpOp} {r : R2} (ho : OpR X (compareOp op) r) (ha : PE X a ta) (hb : PE X b tb) (hm : behindInMarks op b = false) : PE X (.Compare a [op] [b] pos) (tOp r ta tb) := by
  intro pins s σ H Q I h
  exact wpAny_Compare1 (binT ha hb I h fun v u s2 x y H2 I2 rx ry q => ho pins s2 σ H2 x y v u Q I2 rx ry q) hm
/-- a reading of a value as a test -/
def tTest (t : TE) : TT := fun σ H Q => t σ H fun x H' => ∃ k, x = .bl k ∧ Q k H'
theorem pt_cmpR {op : CmpOp} {r : R2} (ho : OpR X (compareOp op) r) (ha : PE X a ta) (hb : PE X b tb) (hm : behindInMarks op b = false) : PT X (.Compare a [op] [b] pos) (tTest (tOp r ta tb)) := by
  intro pins s σ H Q I h
  refine wpAny_isTrue_Compare1 (thn (ha pins s σ H _ I h) fun v s1 ⟨x, H1, I1, r1, q1⟩ => thn (hb pins s1 σ H1 _ I1 q1) fun u s2 ⟨y, H2, I2, r2, q2⟩ =>
    thn (ho pins s2 σ H2 x y v u _ I2 r1 r2 q2) fun c s3 ⟨z, H3, I3, r3, k, e, q3⟩ => ?_) hm
  subst e
  cases r3
  exact wpAny_truthy_bool ⟨H3, I3, q3⟩
/-! ### truth -/
theorem line63 : (sizeLine : Nat) < 2 ^ 63 := by rw [sizeLine_eq]; decide
/-! ### scalar builtins, by CallR -/
theorem vals1 {x : V} {us : List Value} (r : Vals [x] us) : ∃ u, us = [u] ∧ RelV x u := by
  cases r with
  | cons r1 r2 => cases r2; exact ⟨_, rfl, r1⟩
theorem vals2 {x y : V} {us : List Value} (r : Vals [x, y] us) : ∃ u w', us = [u, w'] ∧ RelV x u ∧ RelV y w' := by
  cases r with
  | cons r1 r2 =>
    cases r2 with
    | cons r3 r4 => cases r4; exact ⟨_, _, rfl, r1, r3⟩
theorem call_abs : CallR X (.builtin "abs") (fun xs H Q => ∃ i, xs = [.int i] ∧ Q (.int (if i < 0 then -i else i)) H) := by
  intro pins s σ H xs us Q I r h
  obtain ⟨i, rfl, q⟩ := h
  obtain ⟨u, rfl, t, rfl⟩ := vals1 r
  exact call_abs_int fun u tk => ⟨.int (if i < 0 then -i else i), H, I.tok _, ⟨_, rfl⟩, q⟩
theorem call_min2 (hc : X.calm = true) : CallR X (.builtin "min") (fun xs H Q => ∃ i j, xs = [.int i, .int j] ∧ Q (.int (if j < i then j else i)) H) := by
  intro pins s σ H xs us Q I r h
  obtain ⟨i, j, rfl, q⟩ := h
  obtain ⟨u, w', rfl, ⟨t, rfl⟩, ⟨t', rfl⟩⟩ := vals2 r
  refine min_two_ints (I.ok.hd hc) fun h' tk k => ⟨_, H, I.kept k, ?_, q⟩
  by_cases hj : j < i
  · rw [if_pos hj, if_pos hj]; exact ⟨_, rfl⟩
  · rw [if_neg hj, if_neg hj]; exact ⟨_, rfl⟩
theorem call_int1 : CallR X (.type "int") (fun xs H Q => (∃ i, xs = [.int i] ∧ Q (.int i) H) ∨ ∃ k, xs = [.bl k] ∧ Q (.int (if k then 1 else 0)) H) := by
  intro pins s σ H xs us Q I r h
  rcases h with ⟨i, rfl, q⟩ | ⟨k, rfl, q⟩
  · obtain ⟨u, rfl, t, rfl⟩ := vals1 r
    exact call_int_int ⟨.int i, H, I, ⟨_, rfl⟩, q⟩
  · obtain ⟨u, rfl, r1⟩ := vals1 r
    cases r1
    exact call_int_bool ⟨.int (if k then 1 else 0), H, I.tok _, ⟨_, rfl⟩, q⟩
end
end L2

namespace L2
open PySem PySem.Spec PyProof.Rows

/-! ### an instance, its attributes a map -/
structure ObjM (h : Heap) (x dx C : Addr) (mA : Str → Option Value) : Prop where
  obj : h.get? x = some (PySem.W.instObj C dx)
  ns : h.Ns1 dx mA
  ne : dx ≠ x

theorem lookIn_ns {h : Heap} {dx : Addr} {mA : Str → Option Value} (n : h.Ns1 dx mA) : ∃ od, h.get? dx = some od ∧ ∀ name, PySem.W.lookIn name od = some (mA name) := by
  obtain ⟨o, es, ep, ho, hd, hk, _, hm⟩ := n
  refine ⟨o, ho, fun name => ?_⟩
  have e := hm name
  unfold nsFind findBy at e
  rw [← Array.find?_toList] at e
  unfold PySem.W.lookIn
  rw [hd]
  dsimp only
  split
  · rename_i y q
    rw [q] at e
    exact congrArg some e
  · rename_i q
    rw [q] at e
    have a : es.toList.any (·.refKey) = false := by
      rw [List.any_eq_false]
      intro y hy
      obtain ⟨z, t, hkey⟩ := hk y (Array.mem_toList_iff.mp hy)
      simp [DictEntry.refKey, hkey]
    have a' : ¬ es.toList.any (·.refKey) = true := by rw [a]; exact Bool.false_ne_true
    rw [if_neg a']
    exact congrArg some e

theorem ObjM.look {h : Heap} {x dx C : Addr} {mA : Str → Option Value} (I : ObjM h x dx C mA) : ∃ od, PySem.W.InstAt h x (PySem.W.instObj C dx) C (some od) ∧ ∀ name, PySem.W.lookIn name od = some (mA name) :=
  let ⟨od, ho, hl⟩ := lookIn_ns I.ns
  ⟨od, ⟨I.obj, rfl, rfl, ho⟩, hl⟩

section
variable {prog : Program} {w : World} {A : Around} {E : Value → Shared → Prop} {s : Shared} {K : PySem.W.Frag} {x dx C f : Addr} {mA : Str → Option Value} {name : Str} {v : Value}

end

section
variable {P : Program} {w : World} {H H' : Hp} {h h' : Heap} {a C dx : Addr} {fs fs' : List (Str × V)}
theorem ins_get (hok : HOk P w H h) (e : H a = some (.ins C dx fs)) : ∃ mA, ObjM h a dx C mA ∧ (∀ f, RelO (fs.lookup f) (mA f)) ∧ PySem.Within mA (fs.map (·.1)) ∧ fs.length ≤ 1000 ∧ H dx = some (.own a) := by
  obtain ⟨d, z, ne, ob, mA, n, r, q⟩ := (show ObjOk P w H h a (.ins C dx fs) from hok a _ e)
  exact ⟨mA, ⟨ob, n, ne⟩, r, q, z, d⟩
end

/-! ### what of the text a class must have -/
structure Cls (K : PySem.W.Frag) (C : Addr) : Prop where
  pg : PySem.W.plainGet K C Str.empty = true
  hd : PySem.W.hasDictIn K C = true
  po : PySem.W.plainOver K C = true
  sa : PySem.W.findIn K (.ref C) "__setattr__" = some (some (.builtin "object.__setattr__"))
theorem Cls.get {K : PySem.W.Frag} {C : Addr} (c : Cls K C) (f : Str) : PySem.W.plainGet K C f = true := c.pg
section
variable {X : Cx} {pins : List (Addr × Obj)} {σ : St} {H : Hp} {s : Shared} {a C dx : Addr} {fs : List (Str × V)} {f : Str} {v : V} {A : Around} {E : Value → Shared → Prop}

end

/-! ### readings and rules -/
section
variable {X : Cx} {o e value : Expr} {f : Str} {pos pos' tpos : Pos} {ta tv : TE}
end

/-! ### isinstance -/
section
variable {X : Cx} {pins : List (Addr × Obj)} {σ : St} {H : Hp} {s : Shared} {A : Around} {E : Value → Shared → Prop} {Q : Value → Shared → Prop} {c : Value} {b : Bool}
/-- the type of a value, as the fragment's deciders take it; for an instance its class -/
inductive TyOf (K : PySem.W.Frag) (H : Hp) : V → Value → Prop where
  | non : TyOf K H .non (.type "NoneType")
  | bl (x : Bool) : TyOf K H (.bl x) (.type "bool")
  | int (i : Int) : TyOf K H (.int i) (.type "int")
  | str (x : Str) : TyOf K H (.str x) (.type "str")
  | flt (x : UInt64) : TyOf K H (.flt x) (.type "float")
  | lst {a : Addr} {xs : List V} (e : H a = some (.lst xs)) : TyOf K H (.ref a) (.type "list")
  | frz {a : Addr} {o : Obj} {xs : List V} (e : H a = some (.frz o (.lst xs))) : TyOf K H (.ref a) (.type "list")
  | tup {a : Addr} {xs : List V} (e : H a = some (.tup xs)) : TyOf K H (.ref a) (.type "tuple")
  | dK {a : Addr} {kvs : List (Key × V)} (e : H a = some (.dK kvs)) : TyOf K H (.ref a) (.type "dict")
  | dT {a : Addr} {kvs : List (List Key × V)} (e : H a = some (.dT kvs)) : TyOf K H (.ref a) (.type "dict")
  | ins {a C dx : Addr} {fs : List (Str × V)} (e : H a = some (.ins C dx fs)) (cl : Cls K C) (ha : PySem.W.findIn K (.ref C) "__class__" = some (some (.builtin "object.__class__")))
      (hn : PySem.W.specialIn K (.builtin "object.__class__") "__get__" = some (some (.builtin "getset_descriptor.__get__"))) (htk : PySem.W.takesIn K (.builtin "object.__class__") = some true)
      (hm : PySem.W.mroIn K C (.type "object") = some true) : TyOf K H (.ref a) (.ref C)
/-- isinstance(x, c) for one class c, a built-in or an own one: kitOne's answer -/
theorem isinst_ok {x : V} {u t : Value} (I : Inv X pins σ H s) (rx : RelV x u) (ty : TyOf X.K H x t) (e : PySem.W.kitOne X.K t c = some b) (h : ∀ tk, Q (.bool b) { s with toks := tk }) :
    wpAny (model X.prog X.w) A (call (.builtin "isinstance") [u, c]) Q E s := by
  cases ty with
  | non => cases (show u = Value.none from rx); exact PySem.W.kia_one PySem.W.kitx_none I.kIn True.intro e (fun z => nomatch z) h
  | bl y => cases (show u = Value.bool y from rx); exact PySem.W.kia_one PySem.W.kitx_bool I.kIn True.intro e (fun z => nomatch z) h
  | int i => obtain ⟨t, q⟩ := (show ∃ t, u = Value.int i t from rx); cases q; exact PySem.W.kia_one PySem.W.kitx_int I.kIn True.intro e (fun z => nomatch z) h
  | str y => obtain ⟨t, q⟩ := (show ∃ t, u = Value.str y t from rx); cases q; exact PySem.W.kia_one PySem.W.kitx_str I.kIn True.intro e (fun z => nomatch z) h
  | flt y => obtain ⟨t, q⟩ := (show ∃ t, u = Value.float y t from rx); cases q; exact PySem.W.kia_one PySem.W.kitx_float I.kIn True.intro e (fun z => nomatch z) h
  | @lst a xs ea =>
    cases (show u = Value.ref a from rx)
    obtain ⟨_, _, n, _, h1⟩ := (show ObjOk X.prog X.w H s.heap a (.lst xs) from I.hok a _ ea)
    exact PySem.W.kia_one PySem.W.kitx_list I.kIn ⟨_, h1, rfl⟩ e (fun z => nomatch z) h
  | @frz a ob xs ea =>
    cases (show u = Value.ref a from rx)
    obtain ⟨_, _, _, n, _, h1⟩ := (show ObjOk X.prog X.w H s.heap a (.frz ob (.lst xs)) from I.hok a _ ea)
    exact PySem.W.kia_one PySem.W.kitx_list I.kIn ⟨_, h1, rfl⟩ e (fun z => nomatch z) h
  | @tup a xs ea =>
    cases (show u = Value.ref a from rx)
    obtain ⟨_, _, _, p⟩ := (show ObjOk X.prog X.w H s.heap a (.tup xs) from I.hok a _ ea)
    obtain ⟨o, h1, h2, _⟩ := p
    exact PySem.W.kia_one PySem.W.kitx_tuple I.kIn ⟨o, h1, h2⟩ e (fun z => nomatch z) h
  | @dK a kvs ea =>
    cases (show u = Value.ref a from rx)
    obtain ⟨_, _, vs, _, p⟩ := (show ObjOk X.prog X.w H s.heap a (.dK kvs) from I.hok a _ ea)
    obtain ⟨o, es, ep, h1, h2, _⟩ := p
    exact PySem.W.kia_one PySem.W.kitx_dict I.kIn ⟨o, h1, h2.1⟩ e (fun z => nomatch z) h
  | @dT a kvs ea =>
    cases (show u = Value.ref a from rx)
    obtain ⟨_, _, xs, _, o, es, ep, h1, h2, _⟩ := (show ObjOk X.prog X.w H s.heap a (.dT kvs) from I.hok a _ ea)
    exact PySem.W.kia_one PySem.W.kitx_dict I.kIn ⟨o, h1, h2.1⟩ e (fun z => nomatch z) h
  | @ins a C dx fs ea cl ha hn htk hm =>
    cases (show u = Value.ref a from rx)
    obtain ⟨mA, O, _⟩ := ins_get I.hok ea
    obtain ⟨od, J, _⟩ := O.look
    exact PySem.W.kia_one (PySem.W.kitx_own (cl.get _) cl.hd ha hn htk hm) I.kIn J e (fun z => nomatch z) h
end
end L2

namespace L2
open PySem PySem.Spec PyProof.Rows

/-! ### room -/
structure Room (k : Nat) (A : Around) : Prop where
  hd : A.handled = none
  dp : A.depth + 3 * k + 5 < recursionLimit
  un : A.units + 16 * k + 200 < cLine
  gd : A.guards = some []
theorem Room.mono {j k : Nat} {A : Around} (r : Room k A) (h : j ≤ k) : Room j A := ⟨r.hd, by have := r.dp; omega, by have := r.un; omega, r.gd⟩
theorem Room.deeper {k : Nat} {A : Around} (r : Room (k + 1) A) (env : Env) : Room k (A.deeper env) :=
  ⟨r.hd, by have := r.dp; show A.depth + 1 + 3 * k + 5 < _; omega, by have := r.un; show A.units + 3 + 16 * k + 200 < _; omega, r.gd⟩
theorem Room.in1 {k : Nat} {A : Around} (r : Room (k + 1) A) : Room k A.in1 :=
  ⟨r.hd, by have := r.dp; show A.depth + 3 * k + 5 < _; omega, by have := r.un; show A.units + 1 + 16 * k + 200 < _; omega, r.gd⟩
theorem Room.depth {k : Nat} {A : Around} (r : Room k A) : A.depth < recursionLimit := by have := r.dp; omega
theorem Room.units {k : Nat} {A : Around} (r : Room k A) : A.units + 64 < cLine := by have := r.un; omega
/-! ### argument lists and displays -/
def tNil : TA := fun _ H Q => Q [] H
def tCons (ta : TE) (tr : TA) : TA := fun σ H Q => ta σ H fun x H1 => tr σ H1 fun xs H2 => Q (x :: xs) H2
section
variable {X : Cx} {e : Expr} {es : List Expr} {te : TE} {t : TA} {pos : Pos}
theorem pa_nil : PA X [] tNil := fun _ _ _ _ H Q I h => Calls.spliced_nil ⟨[], H, I, .nil, h⟩
theorem pa_cons (ha : PE X e te) (hr : PA X es t) (hs : starEach (e :: es) X.env = (false, eval e X.env) :: starEach es X.env := by rfl) : PA X (e :: es) (tCons te t) := by
  intro pos pins s σ H Q I h
  rw [hs]
  show wpAny _ _ (spliced ((false, eval e X.env) :: backTo pos (starEach es X.env))) _ _ s
  refine Calls.spliced_cons (thn (ha pins s σ H _ I h) fun u s1 ⟨x, H1, I1, r1, q1⟩ => ?_)
  exact thn (hr pos pins s1 σ H1 _ I1 q1) fun us s2 ⟨xs, H2, I2, r2, q2⟩ => ⟨x :: xs, H2, I2, .cons r1 r2, q2⟩

/-- a tuple, a list of written items -/
def tTup (t : TA) : TE := fun σ H Q => t σ H fun xs H1 => xs.length ≤ sizeLine ∧ ∀ p, H1 p = none → Q (.ref p) (upd H1 p (.tup xs))
def tLst (t : TA) : TE := fun σ H Q => t σ H fun xs H1 => xs.length ≤ sizeLine ∧ ∀ p, H1 p = none → Q (.ref p) (upd H1 p (.lst xs))
theorem pe_tup {x1} (h : PA X es t) : PE X (.Tuple es x1 pos) (tTup t) := by
  intro pins s σ H Q I hq
  refine wpAny_Tuple_spliced (thn (h pos pins s σ H _ I hq) fun us s1 ⟨xs, H1, I1, r, z, q⟩ => ⟨by rw [← r.length]; exact z, ?_⟩)
  have hf : H1 s1.heap.objs.size = none := I1.hok.fresh (Nat.le_refl _)
  refine ⟨.ref s1.heap.objs.size, upd H1 s1.heap.objs.size (.tup xs), I1.laid (t' := s1.toks) (fun b u e => Heap.get?_push_of_some _ e) (Nat.le_refl _) ?_, rfl, q _ hf⟩
  exact ⟨⟨z, ND.new⟩, us, r, ⟨_, Heap.get?_push_size _ rfl, rfl, _, rfl⟩⟩
theorem pe_lst (h : PA X es t) : PE X (.List es pos) (tLst t) := by
  intro pins s σ H Q I hq
  refine wpAny_List_spliced (thn (h pos pins s σ H _ I hq) fun us s1 ⟨xs, H1, I1, r, z, q⟩ => ⟨by rw [← r.length]; exact z, ?_⟩)
  have hf : H1 s1.heap.objs.size = none := I1.hok.fresh (Nat.le_refl _)
  refine ⟨.ref s1.heap.objs.size, upd H1 s1.heap.objs.size (.lst xs), I1.laid (t' := s1.toks) (fun b u e => Heap.get?_push_of_some _ e) (Nat.le_refl _) ?_, rfl, q _ hf⟩
  exact ⟨z, us, 0, r, Heap.get?_push_size _ rfl⟩
end

/-! ### what a def promises -/
/-- a def's promise: the bound arguments in the parameters' order, the heap, the wanted end, the wanted exception -/
abbrev Sp := List V → Hp → VK → XK → Prop
/-- how an exception lies behind a call (file 08 gives it): the callers' frames, abstract heap and state ahead of the call, the wish, the exception, the state -/
abbrev CXT := List Env → Hp → Shared → XK → Value → Shared → Prop

/-- the state at a call -/
structure Env0 (P : Program) (w : World) (K : PySem.W.Frag) (mg : Str → Option Value) (base : Heap) (A : Around) (outer : List Env) (s : Shared) (H : Hp) : Prop where
  frames : A.frames = some outer
  mod : Mod K mg base
  bs : ∀ b o, base.get? b = some o → s.heap.get? b = some o ∧ H b = none
  bsz : base.objs.size ≤ s.heap.objs.size
  funs : s.heap.FunFrames base outer
  frf : ∀ b ∈ frs outer, H b = none
  hok : HOk P w H s.heap
  bare : AllBare s.gens
/-- a call's end -/
def CE (outer : List Env) (P : Program) (w : World) (H : Hp) (s : Shared) (Q : VK) (u : Value) (s' : Shared) : Prop :=
  ∃ v H', s'.os = s.os ∧ AllBare s'.gens ∧ Un (frs outer) [] H H' s.heap s'.heap ∧ HOk P w H' s'.heap ∧ RelV v u ∧ Q v H'
def CR (CX : CXT) (outer : List Env) (P : Program) (w : World) (H : Hp) (s : Shared) (Q : VK) (E : XK) (r : Result) (s' : Shared) : Prop :=
  match r with
  | .ok (.ret u) => CE outer P w H s Q u s'
  | .ok _ => False
  | .error e => CX outer H s E e s'
structure FnOk (P : Program) (w : World) (K : PySem.W.Frag) (mg : Str → Option Value) (base : Heap) (CX : CXT) (k : Nat) (f : Addr) (fd : FuncData) (ps : List Str) (sp : Sp) : Prop where
  len : ∀ vs H Q E, sp vs H Q E → vs.length = ps.length
  run : ∀ (A : Around) (outer : List Env) (s : Shared) (H : Hp) (args : Args) (us : List Value) (vs : List V) (Q : VK) (E : XK), Room k A → Env0 P w K mg base A outer s H → BindsTo s fd args (ps.zip us) → Vals vs us → sp vs H Q E →
    codeAny (model P w) A (.call (.ref f) args) (CR CX outer P w H s Q E) s
theorem FnOk.mono {P : Program} {w : World} {K : PySem.W.Frag} {mg : Str → Option Value} {base : Heap} {CX : CXT} {j k : Nat} {f : Addr} {fd : FuncData} {ps : List Str} {sp : Sp} (F : FnOk P w K mg base CX j f fd ps sp) (h : j ≤ k) :
    FnOk P w K mg base CX k f fd ps sp := ⟨F.len, fun A outer s H args us vs Q E hr => F.run A outer s H args us vs Q E (hr.mono h)⟩
/-- a weaker promise -/
theorem FnOk.imp {P : Program} {w : World} {K : PySem.W.Frag} {mg : Str → Option Value} {base : Heap} {CX : CXT} {k : Nat} {f : Addr} {fd : FuncData} {ps : List Str} {sp sp' : Sp} (F : FnOk P w K mg base CX k f fd ps sp)
    (h : ∀ vs H Q E, sp' vs H Q E → sp vs H Q E) : FnOk P w K mg base CX k f fd ps sp' :=
  ⟨fun vs H Q E q => F.len vs H Q E (h _ _ _ _ q), fun A outer s H args us vs Q E hr he hb hv hs => F.run A outer s H args us vs Q E hr he hb hv (h _ _ _ _ hs)⟩

theorem Env0.in1 {P : Program} {w : World} {K : PySem.W.Frag} {mg : Str → Option Value} {base : Heap} {A : Around} {outer : List Env} {s : Shared} {H : Hp} (e : Env0 P w K mg base A outer s H) :
    Env0 P w K mg base A.in1 outer s H := ⟨e.frames, e.mod, e.bs, e.bsz, e.funs, e.frf, e.hok, e.bare⟩

section
variable {X : Cx} {pins : List (Addr × Obj)} {σ : St} {H : Hp} {s s' : Shared}
/-- from a body: what a callee wants -/
theorem Inv.env0 (I : Inv X pins σ H s) : Env0 X.prog X.w X.K X.mg X.base X.A X.stack s H :=
  ⟨I.ok.frames, I.ok.mod, I.bs, Nat.le_trans I.ok.bsz I.sz, I.stack, I.stkFree, I.hok, I.bare⟩
/-- behind a call -/
theorem Inv.after {Q : VK} {u : Value} (I : Inv X pins σ H s) (h : CE X.stack X.prog X.w H s Q u s') : EP X pins σ Q u s' := by
  obtain ⟨v, H', os, bare, un, hok, r, q⟩ := h
  obtain ⟨hh, g, d, t, os'⟩ := s'
  obtain rfl : os' = s.os := os
  exact ⟨v, H', I.call (h' := hh) (g' := g) (d' := d) (t' := t) (ch := []) un hok bare (fun b z => absurd z (by simp)), r, q⟩
end

/-! ### calls -/
/-- f(..): the written arguments, then the defaults dvs; E: what is wanted of an exception -/
def tCall (sp : Sp) (dvs : List V) (E : XK) (t : TA) : TE := fun σ H Q => t σ H fun vs H1 => sp (vs ++ dvs) H1 Q E
/-- how the parameters are bound: us the positional arguments, kw the keywords' values by name, ds the defaults that fill up -/
def Binds (K : PySem.W.Frag) (fd : FuncData) (ps : List Str) (ds : List Value) : Prop :=
  ∀ (s : Shared) (us : List Value), K.In s.heap → (us ++ ds).length = ps.length → BindsTo s fd ⟨us, []⟩ (ps.zip (us ++ ds))
/-- every parameter is given -/
theorem Binds.all {K : PySem.W.Frag} {fd : FuncData} {ps : List Str} (h : ∀ us : List Value, us.length = ps.length → bindArgs fd ⟨us, []⟩ = pure (ps.zip us)) : Binds K fd ps [] := fun s us _ hl => by
  rw [List.append_nil] at hl ⊢
  exact .of_eq (h us hl)

/-- an exception of a callee reaches what this body wants of exceptions -/
def Passes (CX : CXT) (X : Cx) (E : XK) : Prop := ∀ (pins : List (Addr × Obj)) (σ : St) (H : Hp) (s : Shared) (e : Value) (s' : Shared), Inv X pins σ H s → CX X.stack H s E e s' → X.xe e s'

section
variable {X : Cx} {CX : CXT} {k : Nat} {f C : Addr} {fd : FuncData} {ps : List Str} {sp : Sp} {dvs : List V} {ds : List Value} {E : XK} {x m : Str} {p pos apos : Pos} {e o : Expr} {es : List Expr} {ta : TE} {t : TA}

/-- the callee runs -/
theorem run_fn {pins : List (Addr × Obj)} {σ : St} {H : Hp} {s : Shared} {Q : VK} {us : List Value} {vs : List V} (F : FnOk X.prog X.w X.K X.mg X.base CX k f fd ps sp) (hr : Room k X.A) (hb : Binds X.K fd ps ds) (hd : Vals dvs ds) (hx : Passes CX X E)
    (I : Inv X pins σ H s) (r : Vals vs us) (h : sp (vs ++ dvs) H Q E) : wpAny (model X.prog X.w) X.A (call (.ref f) us) (EP X pins σ Q) X.xe s := by
  have r2 : Vals (vs ++ dvs) (us ++ ds) := r.append hd
  have hl : (us ++ ds).length = ps.length := by rw [← r2.length]; exact F.len _ _ _ _ h
  refine wpAny_call (codeAny_mono (F.run X.A X.stack s H ⟨us, []⟩ (us ++ ds) (vs ++ dvs) Q E hr I.env0 (hb s us I.kIn hl) r2 h) fun r s' hq => ?_)
  cases r with
  | error e => exact hx pins σ H s e s' I hq
  | ok fl =>
    cases fl with
    | ret u => exact I.after hq
    | next => exact False.elim hq
    | brk => exact False.elim hq
    | cont => exact False.elim hq

theorem pe_call (F : FnOk X.prog X.w X.K X.mg X.base CX k f fd ps sp) (hr : Room k X.A) (hg : Gl X x) (hm : X.mg x = some (.ref f)) (hk : PySem.W.keepIn X.K (.ref f) = true) (hb : Binds X.K fd ps ds) (hd : Vals dvs ds) (hx : Passes CX X E)
    (ha : PA X (e :: es) t) (hdb : (x == ("__debug__" : Str)) = false := by decide) (he : starEach (e :: es) X.env = (false, eval e X.env) :: starEach es X.env := by rfl) (hpl : (backTo pos (starEach es X.env)).any (·.1) = false := by rfl) :
    PE X (.Call (.Name x p) (e :: es) [] pos) (tCall sp dvs E t) := by
  intro pins s σ H Q I h
  refine wpAny_Call_Name_kw (ld_glob I hg hm ?_ hdb)
  refine PySem.W.callWith_K (h₀ := X.base) I.ok.mod.kin hk (thn (ha pos pins s σ H _ I h) fun us s1 ⟨vs, H1, I1, r, q⟩ => ⟨I1.kIn, ?_⟩) he hpl
  exact run_fn F hr hb hd hx I1 r q
end

/-! ### keywords -/
section
variable {X : Cx} {CX : CXT} {k : Nat} {f C : Addr} {fd : FuncData} {ps ks : List Str} {sp : Sp} {E : XK} {x m : Str} {p pos apos kpos : Pos} {e o : Expr} {es : List Expr} {kws : List Keyword} {te ta : TE} {t tk : TA} {nm : Option Str}
variable {g : List Value → List Value → List Value} {gV : List V → List V → List V}
end

/-! ### a def's body keeps its promise -/
/-- names: the parameters first -/
structure FnScope (N P : List Str) (sc : Scope) : Prop where
  kind : sc.kind = .function
  co : sc.isCoroutine = false
  gen : sc.isGenerator = false
  nd : N.Nodup
  pre : N.take P.length = P
  par : ∀ x ∈ P, sc.names.lookup x = some .local ∨ sc.names.lookup x = some .cell
  nofree : ∀ y ∈ sc.names, y.2 ≠ .free

theorem bindL_out {kindOf : Str → Option NameKind} {x : Str} : ∀ {binds : List (Str × Value)} {m : Str → Option Value}, (∀ v, (x, v) ∉ binds) → bindL kindOf binds m x = m x
  | [], _, _ => rfl
  | (n, v) :: r, m, h => by
    unfold bindL
    rw [bindL_out fun w hw => h w (List.mem_cons_of_mem _ hw)]
    split
    · have : x ≠ n := by rintro rfl; exact h v List.mem_cons_self
      simp [this]
    · rfl
theorem bindC_out {kindOf : Str → Option NameKind} {x : Str} : ∀ {binds : List (Str × Value)} {m : Str → Option Value}, (∀ v, (x, v) ∉ binds) → bindC kindOf binds m x = m x
  | [], _, _ => rfl
  | (n, v) :: r, m, h => by
    unfold bindC
    rw [bindC_out fun w hw => h w (List.mem_cons_of_mem _ hw)]
    split
    · rfl
    · have : x ≠ n := by rintro rfl; exact h v List.mem_cons_self
      simp [this]
theorem bindL_get {kindOf : Str → Option NameKind} {x : Str} {v : Value} : ∀ {P : List Str} {vs : List Value} {i : Nat} {m : Str → Option Value}, P.Nodup → P[i]? = some x → vs[i]? = some v → kindOf x = some .local →
    bindL kindOf (P.zip vs) m x = some v
  | [], _, _, _, _, h, _, _ => by simp at h
  | _ :: _, [], _, _, _, _, h, _ => by simp at h
  | p :: P, w :: vs, 0, m, nd, h1, h2, hk => by
    simp at h1 h2; subst h1; subst h2
    show bindL kindOf ((p, w) :: P.zip vs) m p = _
    unfold bindL
    rw [bindL_out fun v hv => (List.nodup_cons.mp nd).1 (List.of_mem_zip hv).1, if_pos hk]
    simp
  | p :: P, w :: vs, i + 1, m, nd, h1, h2, hk => by
    show bindL kindOf ((p, w) :: P.zip vs) m x = _
    unfold bindL
    exact bindL_get (i := i) (List.nodup_cons.mp nd).2 (by simpa using h1) (by simpa using h2) hk
theorem bindC_get {kindOf : Str → Option NameKind} {x : Str} {v : Value} : ∀ {P : List Str} {vs : List Value} {i : Nat} {m : Str → Option Value}, P.Nodup → P[i]? = some x → vs[i]? = some v → kindOf x ≠ some .local →
    bindC kindOf (P.zip vs) m x = some v
  | [], _, _, _, _, h, _, _ => by simp at h
  | _ :: _, [], _, _, _, _, h, _ => by simp at h
  | p :: P, w :: vs, 0, m, nd, h1, h2, hk => by
    simp at h1 h2; subst h1; subst h2
    show bindC kindOf ((p, w) :: P.zip vs) m p = _
    unfold bindC
    rw [bindC_out fun v hv => (List.nodup_cons.mp nd).1 (List.of_mem_zip hv).1, if_neg hk]
    simp
  | p :: P, w :: vs, i + 1, m, nd, h1, h2, hk => by
    show bindC kindOf ((p, w) :: P.zip vs) m x = _
    unfold bindC
    exact bindC_get (i := i) (List.nodup_cons.mp nd).2 (by simpa using h1) (by simpa using h2) hk

/-- the names' values at the entry -/
def start (N : List Str) (vs : List V) : St := vs.map some ++ List.replicate (N.length - vs.length) none

/-- the context of a def's body, at its entry; an exception leaves the frame, then lies as CX says -/
def cxOf (CX : CXT) (P : Program) (w : World) (K : PySem.W.Frag) (mg : Str → Option Value) (base : Heap) (N : List Str) (qual : Str) (scope : Scope) (f : Addr) (cd : Value) (A : Around) (outer : List Env) (s : Shared) (H : Hp) (E : XK) : Cx where
  prog := P
  w := w
  K := K
  mg := mg
  base := base
  A := A.deeper (envOfC qual scope s.heap.objs.size f cd)
  N := N
  s_0 := s
  H_0 := H
  env := envOfC qual scope s.heap.objs.size f cd
  outer := outer
  stack := envOfC qual scope s.heap.objs.size f cd :: outer
  ex := []
  calm := true
  fn := fun _ => true
  pn := []
  xe := fun e s' => wpAny (model P w) (A.deeper (envOfC qual scope s.heap.objs.size f cd)) (leaving (envOfC qual scope s.heap.objs.size f cd) e) (fun _ s'' => CX outer H s E e s'') (fun e' s'' => CX outer H s E e' s'') s'

theorem cell_has {sc : Scope} {n : Nat} {x : Str} (h : sc.names.lookup x = some .cell) : ∃ c, (cellsFrom n sc.names []).lookup x = some c := by
  have q := PySem.W.cellsFrom_some sc.names n [] (.inl h)
  exact Option.isSome_iff_exists.mp q

theorem inv_start {CX : CXT} {P : Program} {w : World} {K : PySem.W.Frag} {mg : Str → Option Value} {base : Heap} {N ps : List Str} {qual : Str} {scope : Scope} {f : Addr} {cd : Value} {A : Around} {outer : List Env} {s s1 : Shared} {H : Hp} {E : XK} {us : List Value} {vs : List V}
    (S : FnScope N ps scope) (hd : A.handled = none) (e0 : Env0 P w K mg base A outer s H) (hl : vs.length = ps.length) (r : Vals vs us)
    (x : InCallC s s.heap.objs.size (bindL (envOfC qual scope s.heap.objs.size f cd).kindOf (ps.zip us) fun _ => none) (cellsFrom (s.heap.objs.size + 1) scope.names []) (bindC (envOfC qual scope s.heap.objs.size f cd).kindOf (ps.zip us) fun _ => none) s1) :
    Inv (cxOf CX P w K mg base N qual scope f cd A outer s H E) [] (start N vs) H s1 := by
  have hpl : ps.length ≤ N.length := by have := congrArg List.length S.pre; rw [List.length_take] at this; omega
  obtain ⟨h1, tk, rfl, hk⟩ := x.done
  have noA : ∀ b : Addr, b ∉ (cxOf CX P w K mg base N qual scope f cd A outer s H E).ex := fun b z => absurd (show b ∈ ([] : List Addr) from z) (by simp)
  refine ⟨⟨e0.mod, S.kind, rfl, rfl, Nat.le_refl _, fun y z c h1 h2 => ?_, fun y hy => ?_, fun y c _ h => ?_, fun _ => hd, Around.frames_deeper e0.frames, .inr ⟨rfl, rfl⟩, fun b z => absurd z (noA b), e0.bs, e0.bsz, fun b _ _ => noA b, fun b z => absurd z (noA b), e0.funs, e0.frf⟩,
    rfl, e0.bare, Un.kept hk, ⟨_, x.toInCall.ns, fun i y v h1 h2 h3 => ?_⟩, fun y c h => ⟨_, x.cell y c h⟩, e0.hok.fresh (Nat.le_refl _), fun y c h => ?_, fun p hp => absurd (show p ∈ ([] : List (Addr × Obj)) from hp) (by simp), e0.hok.kept hk, ?_⟩
  · exact name_of_addr x.apart (PySem.mem_of_lookup h1) (PySem.mem_of_lookup h2)
  · have hy : scope.names.lookup y = some .cell ∨ scope.names.lookup y = some .free := hy
    rcases hy with hy | hy
    · exact cell_has hy
    · exact absurd rfl (S.nofree _ (PySem.mem_of_lookup hy))
  · exact Nat.le_of_lt (x.above y c (PySem.mem_of_lookup h))
  · have hi : i < vs.length := by
      unfold start at h2
      by_cases hi : i < vs.length
      · exact hi
      · rw [List.getElem?_append_right (by simpa using hi)] at h2
        rw [List.getElem?_replicate] at h2
        split at h2 <;> cases h2
    have ha : vs[i]? = some v := by
      unfold start at h2
      rw [List.getElem?_append_left (by simpa using hi), List.getElem?_map] at h2
      cases e : vs[i]? with
      | none => rw [e] at h2; cases h2
      | some a => rw [e] at h2; cases h2; rfl
    obtain ⟨u, hu, rv⟩ := r.get ha
    have hp : ps[i]? = some y := by
      rw [← S.pre, List.getElem?_take_of_lt (by omega)]; exact h1
    have ndP : ps.Nodup := by rw [← S.pre]; exact S.nd.sublist (List.take_sublist _ _)
    refine ⟨u, rv, ?_⟩
    rcases S.par y (List.mem_of_getElem? hp) with k | k
    · exact .inl ⟨k, bindL_get ndP hp hu k⟩
    · obtain ⟨c, e⟩ := cell_has (n := s.heap.objs.size + 1) k
      refine .inr ⟨.inl k, c, e, ?_⟩
      have q := x.cell y c e
      rw [bindC_get ndP hp hu (by show scope.names.lookup y ≠ _; rw [k]; decide)] at q
      exact q
  · exact e0.hok.fresh (Nat.le_of_lt (x.above y c (PySem.mem_of_lookup h)))
  · unfold start
    show _ = N.length
    rw [List.length_append, List.length_map, List.length_replicate]
    omega

/-- THE RULE: a def (or a method) of the text, by its body. The body's reading t is chosen for each entry; it is run at the parameters' values -/
theorem fn_of {CX : CXT} {P : Program} {w : World} {K : PySem.W.Frag} {mg : Str → Option Value} {base : Heap} {k : Nat} {f : Addr} {name qual : Str} {params : Arguments} {body : List Stmt} {scope : Scope} {dV kV doc pm cdv ct oc : Value} {an od : Option Addr}
    {osl : Array (Option Value)} {N ps : List Str} {sp : Sp} (lk : K.lookup f = some ⟨oc, od, .func (PySem.W.fnOf name qual params body scope dV kV doc pm an cdv ct), osl⟩) (hcd : PySem.W.codeIn K cdv qual = true) (S : FnScope N ps scope)
    (len : ∀ vs H Q E, sp vs H Q E → vs.length = ps.length)
    (hbody : ∀ (A : Around) (outer : List Env) (s : Shared) (H : Hp) (vs : List V) (Q : VK) (E : XK), Room k (A.deeper (envOfC qual scope s.heap.objs.size f cdv)) → sp vs H Q E →
      ∃ t, PSs (cxOf CX P w K mg base N qual scope f cdv A outer s H E) body t ∧ t { nx := fun _ H' => Q .non H', rt := Q } (start N vs) H) :
    FnOk P w K mg base CX (k + 1) f (PySem.W.fnOf name qual params body scope dV kV doc pm an cdv ct) ps sp := by
  refine ⟨len, fun A outer s H args us vs Q E hr e0 hb r hsp => ?_⟩
  have hl := len _ _ _ _ hsp
  have KX : K.In s.heap := e0.mod.kin.keeps fun b o e => (e0.bs b o e).1
  have lim : s.heap.NoLimit := e0.mod.nolimit.keeps fun b o e => (e0.bs b o e).1
  have hkind : ∀ y ∈ ps.zip us, scope.names.lookup y.1 = some .local ∨ (scope.names.lookup y.1 = some .cell ∧ ((cellsFrom (s.heap.objs.size + 1) scope.names []).lookup y.1).isSome = true) := fun ⟨n, v⟩ hy => by
    rcases S.par n (List.of_mem_zip hy).1 with q | q
    · exact .inl q
    · exact .inr ⟨q, PySem.W.cellsFrom_some _ _ _ (.inl q)⟩
  refine codeAny_call_function hr.depth (KX _ _ lk) rfl S.co S.gen rfl (PySem.W.codeRec_of KX hcd) (hb _ _ _ _ ?_)
  refine wpAny_newFunctionEnv_cells S.kind hkind fun env he s1 x => ?_
  subst he
  refine ⟨lim.keeps x.toInCall.keep, codeAny_func ?_⟩
  obtain ⟨t, ht, hq⟩ := hbody A outer s H vs Q E (hr.deeper _) hsp
  have I : Inv (cxOf CX P w K mg base N qual scope f cdv A outer s H E) [] (start N vs) H s1 := inv_start S hr.hd e0 hl r x
  refine wpAny_mono (ht [] s1 (start N vs) H _ I hq) (fun fl s' hs => ?_) fun e s' hs => hs
  have fin : ∀ {σ' : St} {H' : Hp} {v : V} {u : Value}, Inv (cxOf CX P w K mg base N qual scope f cdv A outer s H E) [] σ' H' s' → RelV v u → Q v H' → CE outer P w H s Q u s' :=
    fun {σ' H' v u} J rv q => ⟨v, H', J.os, J.bare, J.base, J.hok, rv, q⟩
  cases fl with
  | ret u =>
    obtain ⟨v, σ', H', J, rv, q⟩ := hs
    exact fin J rv q
  | next =>
    obtain ⟨σ', H', J, q⟩ := hs
    exact fin (v := V.non) (u := Value.none) J rfl q
  | brk =>
    obtain ⟨_, _, _, q⟩ := hs
    exact False.elim q
  | cont =>
    obtain ⟨_, _, _, q⟩ := hs
    exact False.elim q
end L2

namespace L2
open PySem PySem.Spec PyProof.Rows
section
variable {X : Cx} {x : Str} {p pos : Pos} {e : Expr} {es : List Expr} {t : TA} {id T : String} {r : List V → Hp → VK → Prop}

def tCB (r : List V → Hp → VK → Prop) (t : TA) : TE := fun σ H Q => t σ H fun vs H1 => r vs H1 Q
/-- f(e, ..), f a built-in function -/
theorem pe_callB (hc : CallR X (.builtin id) r) (hg : Gl X x) (hm : X.mg x = none) (hv : bootBuiltins x = some (.builtin id)) (ha : PA X (e :: es) t) (hn : x ≠ "__name__" := by decide) (hdb : (x == ("__debug__" : Str)) = false := by decide)
    (he : starEach (e :: es) X.env = (false, eval e X.env) :: starEach es X.env := by rfl) (hpl : (backTo pos (starEach es X.env)).any (·.1) = false := by rfl) : PE X (.Call (.Name x p) (e :: es) [] pos) (tCB r t) := by
  intro pins s σ H Q I h
  refine wpAny_Call_Name_kw (ld_blt I hg hm hv ?_ hn hdb)
  exact PyProof.Rows.callWith_builtin1 (thn (ha pos pins s σ H _ I h) fun us s1 ⟨vs, H1, I1, r1, q1⟩ => hc pins s1 σ H1 vs us Q I1 r1 q1) he hpl
/-- T(e, ..), T a built-in type -/
theorem pe_callTy (hc : CallR X (.type T) r) (hg : Gl X x) (hm : X.mg x = none) (hv : bootBuiltins x = some (.type T)) (ha : PA X (e :: es) t) (hn : x ≠ "__name__" := by decide) (hdb : (x == ("__debug__" : Str)) = false := by decide)
    (he : starEach (e :: es) X.env = (false, eval e X.env) :: starEach es X.env := by rfl) (hpl : (backTo pos (starEach es X.env)).any (·.1) = false := by rfl) : PE X (.Call (.Name x p) (e :: es) [] pos) (tCB r t) := by
  intro pins s σ H Q I h
  refine wpAny_Call_Name_kw (ld_blt I hg hm hv ?_ hn hdb)
  exact PyProof.Rows.callWith_type1 (thn (ha pos pins s σ H _ I h) fun us s1 ⟨vs, H1, I1, r1, q1⟩ => hc pins s1 σ H1 vs us Q I1 r1 q1) he hpl
end
end L2

namespace HT
open PySem PyProof.Rows

section
open PySem.SeqAt
open PySem.AutoSeq1 (wpAny_loadPart')
open PySem.MeetsSeq PySem.MeetsSeq2 PySem.MeetsSeq3

end

section
variable {prog : Program} {w : World} {A : Around} {E : Value → Shared → Prop} {s : Shared}

/-! ### t[a:b], not the whole -/
/-- a slice's bound as a place among n (d where it is left out) -/
def sIx (n d : Nat) : Option Int → Nat
  | none => d
  | some v => if v < 0 then (v + (n : Int)).toNat else min v.toNat n
theorem sIx_none (n d : Nat) : sIx n d none = d := rfl
theorem sIx_nat (n d k : Nat) : sIx n d (some (k : Int)) = min k n := by
  show (if (k : Int) < 0 then ((k : Int) + (n : Int)).toNat else min (k : Int).toNat n) = min k n
  rw [if_neg (by omega), Int.toNat_natCast]
end
end HT

namespace L2
open PySem PySem.Spec PyProof.Rows

/-! ### the parts of a slice -/
abbrev TO := St → Hp → (Option Int → Hp → Prop) → Prop
/-- a slice's part (left out, or an int) -/
def PO (X : Cx) (e : Option Expr) (t : TO) : Prop :=
  ∀ (pins : List (Addr × Obj)) (s : Shared) (σ : St) (H : Hp) (Q : Option Int → Hp → Prop), Inv X pins σ H s → t σ H Q →
    wpAny (model X.prog X.w) X.A (evalPart e X.env) (fun u s' => ∃ o H', Inv X pins σ H' s' ∧ IsPart u o ∧ Q o H') X.xe s
def tNoPart : TO := fun _ H Q => Q none H
def tPart (t : TE) : TO := fun σ H Q => t σ H fun x H1 => ∃ i, x = .int i ∧ Q (some i) H1

section
variable {X : Cx} {e : Expr} {te : TE} {lo hi : Option Expr} {tl th : TO} {pos p2 : Pos}

theorem po_none : PO X none tNoPart := by
  intro pins s σ H Q I h
  rw [evalPart_none]
  exact wpAny_pure ⟨none, H, I, .none, h⟩
theorem po_some (h : PE X e te) : PO X (some e) (tPart te) := by
  intro pins s σ H Q I hw
  rw [evalPart_some]
  refine thn (h pins s σ H _ I hw) fun u s1 ⟨x, H1, I1, r1, q1⟩ => ?_
  obtain ⟨i, rfl, q⟩ := q1
  obtain ⟨t, rfl⟩ := r1
  exact ⟨some i, H1, I1, .int i t, q⟩

/-- what a slice of a value is, by values: the slice object stands at sl -/
def SlR (X : Cx) (r : V → Option Int → Option Int → Hp → VK → Prop) : Prop :=
  ∀ (pins : List (Addr × Obj)) (s : Shared) (σ : St) (H : Hp) (x : V) (v vl vu : Value) (lo hi : Option Int) (sl : Addr) (Q : VK), Inv X pins σ H s → RelV x v → s.heap.IsSliceOf sl vl vu .none → IsPart vl lo → IsPart vu hi → r x lo hi H Q →
    ∃ T id, typeLookup (.type T) "__getitem__" = pure (some (.builtin id)) ∧ s.TypeIs v T ∧ wpAny (model X.prog X.w) X.A (getItem v (.ref sl)) (EP X pins σ Q) X.xe s
def tSl (r : V → Option Int → Option Int → Hp → VK → Prop) (te : TE) (tl th : TO) : TE := fun σ H Q => te σ H fun x H1 => tl σ H1 fun l H2 => th σ H2 fun u H3 => r x l u H3 Q
/-- a[lo:hi], any a -/
theorem pe_slice {r : V → Option Int → Option Int → Hp → VK → Prop} (hr : SlR X r) (he : PE X e te) (hl : PO X lo tl) (hu : PO X hi th) : PE X (.Subscript e (.Slice lo hi none p2) pos) (tSl r te tl th) := by
  intro pins s σ H Q I h
  refine Subscript_ (thn (he pins s σ H _ I h) fun v s1 ⟨x, H1, I1, r1, q1⟩ => ?_)
  refine wpAny_Slice (thn (hl pins s1 σ H1 _ I1 q1) fun vl s2 ⟨l, H2, I2, pl, q2⟩ => thn (hu pins s2 σ H2 _ I2 q2) fun vu s3 ⟨u, H3, I3, pu, q3⟩ => ?_)
  rw [evalPart_none]
  refine wpAny_pure ?_
  have I4 : Inv X pins σ H3 { s3 with heap := s3.heap.push { cls := .type "slice", data := .fields #[vl, vu, .none] } } := I3.kept (t' := s3.toks) fun b ob q => Heap.get?_push_of_some _ q
  obtain ⟨T, id, hT, ht, hg⟩ := hr pins { s3 with heap := s3.heap.push { cls := .type "slice", data := .fields #[vl, vu, .none] } } σ H3 x v vl vu l u s3.heap.objs.size Q I4 r1 (Heap.IsSliceOf.new ..) pl pu q3
  show wpAny (model X.prog X.w) X.A (subscriptTail e (.Slice lo hi none p2) v (.ref s3.heap.objs.size)) (EP X pins σ Q) X.xe { s3 with heap := s3.heap.push { cls := .type "slice", data := .fields #[vl, vu, .none] } }
  exact tail_any (ops := [.ref s3.heap.objs.size, v]) ht hT hg (by with_unfolding_all rfl)

/-- the items of xs[lo:hi] -/
def cutV (xs : List V) (lo hi : Option Int) : List V := (xs.drop (HT.sIx xs.length 0 lo)).take (HT.sIx xs.length xs.length hi - HT.sIx xs.length 0 lo)
theorem cutV_length (xs : List V) (lo hi : Option Int) : (cutV xs lo hi).length ≤ xs.length := by
  unfold cutV
  rw [List.length_take, List.length_drop]
  omega
end
end L2

namespace L2
open PySem PySem.Spec PyProof.Rows

/-! ### places -/
/-- the place that an index of any sign means -/
def ixN (n : Nat) (i : Int) : Option Nat := if 0 ≤ i then (if i < n then some i.toNat else none) else if -(n : Int) ≤ i then some (i + n).toNat else none
def atI {α : Type} (xs : List α) (i : Int) : Option α := (ixN xs.length i).bind fun j => xs[j]?
theorem ixN_seq {n : Nat} {i : Int} {j : Nat} (h : ixN n i = some j) : seqIndex? i n = some j ∧ j < n ∧ -(n : Int) ≤ i ∧ i < n := by
  unfold ixN at h
  by_cases h0 : 0 ≤ i
  · rw [if_pos h0] at h
    by_cases h1 : i < n
    · rw [if_pos h1] at h
      have e : i.toNat = j := Option.some.inj h
      exact ⟨by rw [seqIndex_of h0 h1, e], by omega, by omega, h1⟩
    · rw [if_neg h1] at h; cases h
  · rw [if_neg h0] at h
    by_cases h1 : -(n : Int) ≤ i
    · rw [if_pos h1] at h
      have e : (i + n).toNat = j := Option.some.inj h
      exact ⟨by rw [seqIndex_neg (by omega) h1, e], by omega, h1, by omega⟩
    · rw [if_neg h1] at h; cases h
theorem atI_get {α : Type} {xs : List α} {i : Int} {v : α} (h : atI xs i = some v) : ∃ j, seqIndex? i xs.length = some j ∧ xs[j]? = some v ∧ j < xs.length ∧ -(xs.length : Int) ≤ i ∧ i < xs.length := by
  unfold atI at h
  cases e : ixN xs.length i with
  | none => rw [e] at h; cases h
  | some j =>
    rw [e] at h
    obtain ⟨h1, h2, h3, h4⟩ := ixN_seq e
    exact ⟨j, h1, h, h2, h3, h4⟩
theorem atI_nat {α : Type} {xs : List α} {j : Nat} {v : α} (h : xs[j]? = some v) : atI xs (j : Int) = some v := by
  have hj : j < xs.length := (List.getElem?_eq_some_iff.mp h).1
  have e : ixN xs.length (j : Int) = some j := by
    unfold ixN
    rw [if_pos (by omega), if_pos (by omega)]; simp
  unfold atI; rw [e]; exact h
/-! ### what may be subscripted -/
/-- what stands as an index of a plain subscript -/
def PlainIx (b : Expr) : Prop := ∀ o i, subscripted b false o i = operate [o, i] (getItem o i)
/-- a subscript by values -/
def IxR (X : Cx) (r : R2) : Prop :=
  ∀ (value slice : Expr) (pins : List (Addr × Obj)) (s : Shared) (σ : St) (H : Hp) (x y : V) (v u : Value) (Q : VK), Inv X pins σ H s → RelV x v → RelV y u → r x y H Q →
    subscripted slice false v u = operate [v, u] (getItem v u) → wpAny (model X.prog X.w) X.A (subscriptTail value slice v u) (EP X pins σ Q) X.xe s
section
variable {X : Cx} {a b : Expr} {ta tb : TE} {pos : Pos}
/-- a[b] -/
theorem pe_ix {r : R2} (hr : IxR X r) (ha : PE X a ta) (hb : PE X b tb) (hs : PlainIx b) : PE X (.Subscript a b pos) (tOp r ta tb) := by
  intro pins s σ H Q I h
  exact Subscript_ (binT ha hb I h fun v u s2 x y H2 I2 rx ry q => hr a b pins s2 σ H2 x y v u Q I2 rx ry q (hs _ _))

def rIxL (K : PySem.W.Frag) : R2 := fun x y H Q => ∃ p xs i v, x = .ref p ∧ y = .int i ∧ SqL K H p xs ∧ atI xs i = some v ∧ Q v H
def rIxT (K : PySem.W.Frag) : R2 := fun x y H Q => ∃ p xs i v, x = .ref p ∧ y = .int i ∧ SqT K H p xs ∧ atI xs i = some v ∧ Q v H
theorem ix_list : IxR X (rIxL X.K) := by
  intro value slice pins s σ H x y v u Q I rx ry h hs
  obtain ⟨p, xs, i, z, rfl, rfl, hq, he, q⟩ := h
  cases rx
  obtain ⟨t, rfl⟩ := ry
  obtain ⟨its, r, pl, hz⟩ := I.list hq
  obtain ⟨j, h1, h2, h3, h4, h5⟩ := atI_get he
  obtain ⟨w, ew, rw'⟩ := r.get h2
  have hl := r.length
  have hn := line63
  have fin : EP X pins σ Q w s := ⟨z, H, I, rw', q⟩
  by_cases h0 : 0 ≤ i
  · have hj : i.toNat = j := by
      rw [seqIndex_of h0 h5] at h1
      exact Option.some.inj h1
    exact item_listR pl.isList h0 (by omega) (by rw [hj]; simpa using ew) fin hs
  · have hj : (i + (its.toArray.size : Int)).toNat = j := by
      rw [seqIndex_neg (by omega) h4] at h1
      rw [List.size_toArray, ← hl]
      exact Option.some.inj h1
    exact subscriptTail_builtinR (x := w) pl.isList.typeIs slot_list_getitem.lookup
      (wpAny_getItem_list_neg (Q := fun r s' => r = w ∧ EP X pins σ Q r s') pl.isList (by omega) (by rw [List.size_toArray] <;> omega) (by omega) (by rw [hj]; simpa using ew) ⟨rfl, fin⟩) hs
theorem ix_tup : IxR X (rIxT X.K) := by
  intro value slice pins s σ H x y v u Q I rx ry h hs
  obtain ⟨p, xs, i, z, rfl, rfl, hq, he, q⟩ := h
  cases rx
  obtain ⟨t, rfl⟩ := ry
  obtain ⟨its, r, pl, hz⟩ := I.tuple hq
  obtain ⟨j, h1, h2, h3, h4, h5⟩ := atI_get he
  obtain ⟨w, ew, rw'⟩ := r.get h2
  have hl := r.length
  have hn := line63
  have fin : EP X pins σ Q w s := ⟨z, H, I, rw', q⟩
  exact subscriptTail_builtinR (x := w) pl.typeIs slot_tuple_getitem.lookup
    (getItem_tuple (j := j) (Q := fun r s' => r = w ∧ EP X pins σ Q r s') pl (by omega) (by omega) (by rw [List.size_toArray, ← hl]; exact h1) (by simpa using ew) ⟨rfl, fin⟩) hs
/-! ### xs[i] = v, any sign -/
/-- the list's object behind a store -/
theorem mapSeq_set (its : List Value) (n j : Nat) (u : Value) : Obj.mapSeq (·.setIfInBounds j u) { cls := .type "list", data := .seq its.toArray n } = { cls := .type "list", data := .seq (its.set j u).toArray n } := by
  simp [Obj.mapSeq]
theorem Inv.lst {pins : List (Addr × Obj)} {σ : St} {H : Hp} {s : Shared} {p : Addr} {xs : List V} (I : Inv X pins σ H s) (h : H p = some (.lst xs)) :
    ∃ (its : List Value) (n : Nat), Vals xs its ∧ s.heap.get? p = some { cls := .type "list", data := .seq its.toArray n } ∧ xs.length ≤ sizeLine := by
  obtain ⟨z, its, n, r, e⟩ := I.hok p _ h
  exact ⟨its, n, r, e, z⟩
/-- the list at p is written by an update of its object -/
theorem Inv.lstUpd {pins : List (Addr × Obj)} {σ : St} {H : Hp} {s : Shared} {p : Addr} {xs ys : List V} {its its' : List Value} {n n' : Nat} {f : Obj → Obj} (I : Inv X pins σ H s) (h : H p = some (.lst xs))
    (ho : s.heap.get? p = some { cls := .type "list", data := .seq its.toArray n }) (hf : f { cls := .type "list", data := .seq its.toArray n } = { cls := .type "list", data := .seq its'.toArray n' }) (r : Vals ys its') (hz : ys.length ≤ sizeLine) (t : Nat) :
    Inv X pins σ (upd H p (.lst ys)) { s with heap := s.heap.update p f, toks := t } := by
  have e : (s.heap.update p f).get? p = some { cls := .type "list", data := .seq its'.toArray n' } := by
    rw [Heap.get?_update_self f ho (by rw [hf] <;> rfl), hf]
  refine I.write (x := p) (e := p) (by rw [h]; trivial) (.inl rfl) (fun b u hb q => (Heap.get?_update_other _ _ (Ne.symm hb)).trans q) ⟨_, e⟩ ?_
  exact ⟨hz, its', n', r, e⟩
def rSetL : V → V → V → Hp → (Hp → Prop) → Prop := fun o i v H Q => ∃ p xs k j, o = .ref p ∧ i = .int k ∧ H p = some (.lst xs) ∧ ixN xs.length k = some j ∧ Q (upd H p (.lst (xs.set j v)))
theorem set_list : PSet X rSetL := by
  intro pins s σ H o i v ov iv u Q I ro ri rv h
  obtain ⟨p, xs, k, j, rfl, rfl, hp, hj, q⟩ := h
  cases ro
  obtain ⟨t, rfl⟩ := ri
  obtain ⟨its, n, r, ho, hz⟩ := I.lst hp
  obtain ⟨h1, h2, h3, h4⟩ := ixN_seq hj
  have hl := r.length
  have hn := line63
  have I' : Inv X pins σ (upd H p (.lst (xs.set j v))) { s with heap := s.heap.update p (Obj.mapSeq (·.setIfInBounds j u)) } :=
    I.lstUpd hp ho (mapSeq_set its n j u) (r.set rv j) (by rw [List.length_set]; exact hz) s.toks
  by_cases h0 : 0 ≤ k
  · have hk : k.toNat = j := by
      rw [seqIndex_of h0 h4] at h1
      exact Option.some.inj h1
    exact PySem.W.ki_setAt ho h0 (by omega) (by rw [List.size_toArray, ← hl]; exact h4) (by rw [hk]; exact ⟨_, I', q⟩)
  · have hk : (k + (its.toArray.size : Int)).toNat = j := by
      rw [seqIndex_neg (by omega) h3] at h1
      rw [List.size_toArray, ← hl]
      exact Option.some.inj h1
    exact PySem.W.ki_setBack ho (by omega) (by rw [List.size_toArray, ← hl]; exact h3) (by omega) (by rw [hk]; exact ⟨_, I', q⟩)

/-! ### slices -/
theorem slice_bounds (lo hi : Option Int) (n : Nat) : (sliceBounds lo hi none n).1 = ((HT.sIx n 0 lo : Nat) : Int) ∧ (sliceBounds lo hi none n).2.1 = ((HT.sIx n n hi : Nat) : Int) ∧ (sliceBounds lo hi none n).2.2 = 1 := by
  refine ⟨?_, ?_, rfl⟩
  · cases lo with
    | none => simp [sliceBounds, HT.sIx]
    | some i =>
      simp only [sliceBounds, HT.sIx, Option.getD_none, show (1 : Int) > 0 by decide, if_true]
      by_cases h : i < 0
      · simp only [h, if_true] <;> omega
      · simp only [h, if_false] <;> omega
  · cases hi with
    | none => simp [sliceBounds, HT.sIx]
    | some i =>
      simp only [sliceBounds, HT.sIx, Option.getD_none, show (1 : Int) > 0 by decide, if_true]
      by_cases h : i < 0
      · simp only [h, if_true] <;> omega
      · simp only [h, if_false] <;> omega
theorem slicePick_cut (its : List Value) (lo hi : Option Int) : slicePick its.toArray lo hi none = ((its.drop (HT.sIx its.length 0 lo)).take (HT.sIx its.length its.length hi - HT.sIx its.length 0 lo)).toArray := by
  obtain ⟨h1, h2, h3⟩ := slice_bounds lo hi its.toArray.size
  unfold slicePick
  rw [h1, h2, h3]
  simp only [sliceRange_one, pick_run, List.size_toArray] <;> rfl
/-- xs[lo:hi] of a list: a new list -/
def rSlL (K : PySem.W.Frag) : V → Option Int → Option Int → Hp → VK → Prop := fun x lo hi H Q => ∃ a xs, x = .ref a ∧ SqL K H a xs ∧ ∀ p, H p = none → Q (.ref p) (upd H p (.lst (cutV xs lo hi)))
theorem sl_list : SlR X (rSlL X.K) := by
  intro pins s σ H x v vl vu lo hi sl Q I rx hs pl pu h
  obtain ⟨a, xs, rfl, hx, q⟩ := h
  cases rx
  obtain ⟨its, r, ht, hz⟩ := I.list hx
  have hlen := r.length
  refine ⟨"list", _, slot_list_getitem.lookup, ht.isList.typeIs, ?_⟩
  refine wpAny_getItem_list_slice ht.isList hs pl pu .none (by simp) ?_ (by rw [List.size_toArray] <;> omega)
  rw [slicePick_cut, ← hlen]
  refine ⟨.ref s.heap.objs.size, _, I.laid (t' := s.toks) (o := .lst (cutV xs lo hi)) (fun b ob q => Heap.get?_push_of_some _ q) (Nat.le_refl _) ?_, rfl, q _ (I.hok.fresh (Nat.le_refl _))⟩
  exact ⟨Nat.le_trans (cutV_length xs lo hi) hz, _, 0, (r.drop (HT.sIx xs.length 0 lo)).take (HT.sIx xs.length xs.length hi - HT.sIx xs.length 0 lo), Heap.get?_push_size _ rfl⟩

/-! ### in, not in: flat items -/
def flatV : V → Bool
  | .non => true
  | .bl _ => true
  | .int _ => true
  | .str _ => true
  | _ => false
/-- == of flat values -/
def eqV : V → V → Bool
  | .non, .non => true
  | .bl a, .bl b => a == b
  | .bl a, .int b => (if a then 1 else 0) == b
  | .int a, .bl b => a == (if b then 1 else 0)
  | .int a, .int b => a == b
  | .str a, .str b => a == b
  | _, _ => false
def inV (x : V) (xs : List V) : Bool := xs.any fun y => eqV y x
/-! ### len, list(x), tuple(x) of any list or tuple that is read -/
theorem call_len_seq : CallR X (.builtin "len") (fun xs H Q => ∃ p ys, xs = [.ref p] ∧ (SqL X.K H p ys ∨ SqT X.K H p ys) ∧ Q (.int ys.length) H) := by
  intro pins s σ H xs us Q I r h
  obtain ⟨p, ys, rfl, hq, q⟩ := h
  obtain ⟨u, rfl, rx⟩ := vals1 r
  cases rx
  have hn := line63
  rcases hq with hq | hq
  · obtain ⟨its, r', pl, hz⟩ := I.list hq
    have hlen := r'.length
    exact Calls.call_len_list pl.isList (by simp only [List.size_toArray] <;> omega) ⟨.int ys.length, H, I.tok _, ⟨s.toks + 1, by rw [List.size_toArray, hlen]⟩, q⟩
  · obtain ⟨its, r', pl, hz⟩ := I.tuple hq
    have hlen := r'.length
    exact len_tuple pl (by simp only [List.size_toArray] <;> omega) ⟨.int ys.length, H, I.tok _, ⟨s.toks + 1, by rw [List.size_toArray, hlen]⟩, q⟩
theorem call_tuple_of : CallR X (.type "tuple") (fun xs H Q => ∃ p ys, xs = [.ref p] ∧ ((SqL X.K H p ys ∧ ∀ l, H l = none → Q (.ref l) (upd H l (.tup ys))) ∨ (SqT X.K H p ys ∧ Q (.ref p) H))) := by
  intro pins s σ H xs us Q I r h
  obtain ⟨p, ys, rfl, h⟩ := h
  obtain ⟨u, rfl, rx⟩ := vals1 r
  cases rx
  rcases h with ⟨hq, q⟩ | ⟨hq, q⟩
  · obtain ⟨its, r', pl, hz⟩ := I.list hq
    have hlen := r'.length
    refine call_tuple_list pl.isList (fun h' kp => ?_) (by simp only [List.size_toArray] <;> omega)
    have I1 : Inv X pins σ H { s with heap := h' } := I.kept (t' := s.toks) kp
    have I2 : Inv X pins σ (upd H h'.objs.size (.tup ys)) { s with heap := h'.push { cls := .type "tuple", data := .seq its.toArray } } :=
      I1.laid (t' := s.toks) (fun b o e => Heap.get?_push_of_some _ e) (Nat.le_refl _) (show ObjOk X.prog X.w _ _ _ (.tup ys) from ⟨⟨hz, ND.new⟩, its, r', IsTup.new _ _⟩)
    exact ⟨.ref h'.objs.size, _, I2, rfl, q _ (I1.hok.fresh (Nat.le_refl _))⟩
  · obtain ⟨its, r', pl, hz⟩ := I.tuple hq
    exact call_tuple_same pl ⟨.ref p, H, I, rfl, q⟩

/-! ### the call of a builtin's method: o.m(..) -/
/-- the value is of that builtin type -/
def tyV (K : PySem.W.Frag) (T : String) (x : V) (H : Hp) : Prop := match x with
  | .str _ => T = "str"
  | .int _ => T = "int"
  | .ref p => (T = "list" ∧ ∃ xs, SqL K H p xs) ∨ (T = "tuple" ∧ ∃ o, K.lookup p = some o ∧ o.cls = .type "tuple" ∧ o.dict = none) ∨
      (T = "dict" ∧ ((∃ kvs, H p = some (.dK kvs)) ∨ ∃ kvs, H p = some (.dT kvs))) ∨ (T = "set" ∧ ∃ S n, H p = some (.set S n))
  | _ => False
theorem tyV_is {pins : List (Addr × Obj)} {σ : St} {H : Hp} {s : Shared} {T : String} {x : V} {v : Value} (I : Inv X pins σ H s) (r : RelV x v) (ty : tyV X.K T x H) :
    s.TypeIs v T ∧ ∀ a, v = .ref a → ∃ ob, s.heap.get? a = some ob ∧ ob.dict = none := by
  cases x with
  | str z =>
    obtain ⟨t, rfl⟩ := r
    cases (show T = "str" from ty)
    exact ⟨typeIs_str s z t, fun _ e => nomatch e⟩
  | int i =>
    obtain ⟨t, rfl⟩ := r
    cases (show T = "int" from ty)
    exact ⟨typeIs_int s i t, fun _ e => nomatch e⟩
  | ref p =>
    cases r
    rcases ty with ⟨rfl, xs, hq⟩ | ⟨rfl, o, hk, hc, hd⟩ | ⟨rfl, hk⟩ | ⟨rfl, S, n, hk⟩
    · obtain ⟨its, _, pl, _⟩ := I.list hq
      refine ⟨pl.isList.typeIs, fun a e => ?_⟩
      cases e
      obtain ⟨o, n, e, c, hd, _⟩ := pl
      exact ⟨o, e, hd⟩
    · refine ⟨⟨o, I.kIn p o hk, hc⟩, fun a e => ?_⟩
      cases e
      exact ⟨o, I.kIn _ o hk, hd⟩
    · have z : ∃ o, s.heap.get? p = some o ∧ o.ExactDict := by
        rcases hk with ⟨kvs, hk⟩ | ⟨kvs, hk⟩
        · obtain ⟨_, _, _, _, o, _, _, e, ex, _⟩ := I.hok p _ hk
          exact ⟨o, e, ex⟩
        · obtain ⟨_, _, _, _, o, _, _, e, ex, _⟩ := I.hok p _ hk
          exact ⟨o, e, ex⟩
      obtain ⟨o, e, ex⟩ := z
      refine ⟨⟨o, e, ex.1⟩, fun a e2 => ?_⟩
      cases e2
      exact ⟨o, e, ex.2.1⟩
    · obtain ⟨o, e, _, ⟨ex, _⟩, _⟩ := I.hok p _ hk
      refine ⟨⟨o, e, ex.1⟩, fun a e2 => ?_⟩
      cases e2
      exact ⟨o, e, ex.2.1⟩
  | _ => exact False.elim ty
def tBM (K : PySem.W.Frag) (T : String) (r : V → List V → Hp → VK → Prop) (to : TE) (t : TA) : TE := fun σ H Q => to σ H fun x H1 => tyV K T x H1 ∧ t σ H1 fun xs H2 => r x xs H2 Q
variable {o e : Expr} {es : List Expr} {to : TE} {t : TA} {name : Str} {apos cpos : Pos} {T id : String} {r : V → List V → Hp → VK → Prop}
/- xs.append(e), list.index on a module's tuple .. are MtR facts of 06m -/
end
end L2

namespace L2
open PySem PySem.Spec PyProof.Rows

def MtM (X : Cx) (id : String) (r : V → List V → Hp → VK → Prop) : Prop :=
  ∀ (pins : List (Addr × Obj)) (s : Shared) (σ : St) (H : Hp) (x : V) (xs : List V) (v : Value) (us : List Value) (Q : VK), Inv X pins σ H s → RelV x v → Vals xs us → r x xs H Q →
    wpAny (model X.prog X.w) X.A (call (.builtin id) (v :: us)) (EP X pins σ Q) X.xe s

/-! ### lists of values -/
theorem Vals.one : ∀ {x : V} {us : List Value}, Vals [x] us → ∃ u, us = [u] ∧ RelV x u
  | _, _, .cons r .nil => ⟨_, rfl, r⟩
theorem Vals.zero : ∀ {us : List Value}, Vals [] us → us = []
  | _, .nil => rfl
theorem Vals.dropLast {xs : List V} {us : List Value} (h : Vals xs us) : Vals xs.dropLast us.dropLast := by
  induction h with
  | nil => exact .nil
  | cons r t ih =>
    cases t with
    | nil => exact .nil
    | cons q t' => exact .cons r ih
theorem Vals.eraseIdx : ∀ {xs : List V} {us : List Value} (i : Nat), Vals xs us → Vals (xs.eraseIdx i) (us.eraseIdx i)
  | _, _, _, .nil => .nil
  | _, _, 0, .cons _ t => t
  | _, _, i + 1, .cons r t => .cons r (Vals.eraseIdx i t)
theorem Vals.reverse {xs : List V} {us : List Value} (h : Vals xs us) : Vals xs.reverse us.reverse := by
  induction h with
  | nil => exact .nil
  | cons r t ih => rw [List.reverse_cons, List.reverse_cons]; exact Vals.append ih (.cons r .nil)
section
variable {X : Cx} {pins : List (Addr × Obj)} {σ : St} {H : Hp} {s : Shared} {l b : Addr} {xs ys zs : List V}

/-! ### the two steps: a tracked list is rewritten, a new list is laid -/
theorem Inv.lset {its its' : List Value} {n : Nat} {f : Array Value → Array Value} {t' : Nat} (I : Inv X pins σ H s) (hH : H l = some (.lst xs))
    (e : s.heap.get? l = some { cls := .type "list", data := .seq its.toArray n }) (hf : f its.toArray = its'.toArray) (hv : Vals ys its') (hz : ys.length ≤ sizeLine) :
    Inv X pins σ (upd H l (.lst ys)) { s with heap := s.heap.update l (Obj.mapSeq f), toks := t' } := by
  have q := PySem.IsL.update e f
  rw [hf] at q
  refine I.write (x := l) (e := l) (by rw [hH]; exact trivial) (.inl rfl) (fun b' u hb hu => (Heap.get?_update_other s.heap (Obj.mapSeq f) (Ne.symm hb)).trans hu) ⟨_, q⟩ ?_
  exact ⟨hz, its', _, hv, q⟩
theorem Inv.lnew {its : List Value} {t' : Nat} (I : Inv X pins σ H s) (hv : Vals ys its) (hz : ys.length ≤ sizeLine) :
    Inv X pins σ (upd H s.heap.objs.size (.lst ys)) { s with heap := s.heap.push { cls := .type "list", data := .seq its.toArray }, toks := t' } :=
  I.laid (fun _ _ q => Heap.get?_push_of_some _ q) (Nat.le_refl _) ⟨hz, its, 0, hv, Heap.get?_push_size _ rfl⟩
theorem Inv.fresh (I : Inv X pins σ H s) : H s.heap.objs.size = none := I.hok.fresh (Nat.le_refl _)
theorem Inv.lstM (I : Inv X pins σ H s) (hH : H l = some (.lst xs)) : xs.length ≤ sizeLine ∧ ∃ (its : List Value) (n : Nat), Vals xs its ∧ xs.length = its.length ∧ s.heap.get? l = some { cls := .type "list", data := .seq its.toArray n } := by
  obtain ⟨z, its, n, r, e⟩ := I.hok l _ hH
  exact ⟨z, its, n, r, r.length, e⟩

end

section
variable {X : Cx}

/-! ### methods -/
def rAppend : V → List V → Hp → VK → Prop := fun x vs H Q => ∃ l xs y, x = .ref l ∧ vs = [y] ∧ H l = some (.lst xs) ∧ xs.length < sizeLine ∧ Q .non (upd H l (.lst (xs ++ [y])))
theorem mt_append : MtM X "list.append" rAppend := by
  intro pins s σ H x vs v us Q I rx rv h
  obtain ⟨l, xs, y, rfl, rfl, hH, hz, q⟩ := h
  cases rx
  obtain ⟨u, rfl, ru⟩ := rv.one
  obtain ⟨z, its, n, r, hl, e⟩ := I.lstM hH
  refine call_meets F.slot_list_append ⟨_, e, rfl⟩ F.entry_list_append (F.args_list_append_2 _ _) (PySem.list_append l its.toArray n u (by rw [List.size_toArray]; omega)) ⟨e, ?_⟩
  refine ⟨.non, _, I.lset (its' := its ++ [u]) hH e (by simp) (r.append (.cons ru .nil)) ?_, rfl, q⟩
  rw [List.length_append, List.length_singleton]
  omega

/-! ### list + list, list += list, list * int -/
def rCat : R2 := fun x y H Q => ∃ l b xs zs, x = .ref l ∧ y = .ref b ∧ H l = some (.lst xs) ∧ H b = some (.lst zs) ∧ xs.length + zs.length ≤ sizeLine ∧ ∀ p, H p = none → Q (.ref p) (upd H p (.lst (xs ++ zs)))
theorem op_cat : OpR X (binaryOp .Add) rCat := by
  intro pins s σ H x y v u Q I rx ry h
  obtain ⟨l, b, xs, zs, rfl, rfl, hH, hB, hz, q⟩ := h
  cases rx
  cases ry
  obtain ⟨z, its, n, r, hl, e⟩ := I.lstM hH
  obtain ⟨z2, its2, n2, r2, hl2, e2⟩ := I.lstM hB
  refine PySem.P.add_list e e2 ?_ (by rw [List.size_toArray, List.size_toArray]; omega)
  have ea : its.toArray ++ its2.toArray = (its ++ its2).toArray := by simp
  rw [ea]
  exact ⟨.ref _, _, I.lnew (t' := s.toks) (r.append r2) (by rw [List.length_append]; omega), rfl, q _ I.fresh⟩
end

/-! ### xs[a:b] = ys -/
section
variable {prog : Program} {w : World} {A : Around} {E : Value → Shared → Prop} {s : Shared}
end

section
variable {X : Cx}
end
end L2

namespace L2
open PySem PySem.Spec PyProof.Rows

theorem Vals.ints : ∀ {ns : List Int} {us : List Value}, Vals (ns.map V.int) us → IntsAre us ns
  | [], us, h => by
    rw [List.map_nil] at h
    cases h
    exact IntsAre.nil
  | n :: ns, us, h => by
    rw [List.map_cons] at h
    cases h with
    | cons r t =>
      obtain ⟨k, rfl⟩ := r
      exact IntsAre.cons n k (Vals.ints t)
theorem Vals.strs : ∀ {xs : List Str} {us : List Value}, Vals (xs.map V.str) us → StrsAre us xs
  | [], us, h => by
    rw [List.map_nil] at h
    cases h
    exact StrsAre.nil
  | x :: xs, us, h => by
    rw [List.map_cons] at h
    cases h with
    | cons r t =>
      obtain ⟨k, rfl⟩ := r
      exact StrsAre.cons x k (Vals.strs t)
theorem Vals.ref1 {a : Addr} {us : List Value} (r : Vals [V.ref a] us) : us = [Value.ref a] := by
  cases r with
  | cons r t =>
    cases t
    cases r
    rfl
/-! ### the library's walks over a list of ints, kept objects alone -/
section
variable {prog : Program} {w : World} {A : Around} {E : Value → Shared → Prop} {s : Shared} {l : Addr} {its : List Value} {ns : List Int} {Q : Value → Shared → Prop}
theorem max_raw (hh : A.handled = none) (hl : s.heap.IsList l its.toArray) (hi : IntsAre its ns) (hne : 0 < ns.length)
    (h : ∀ h' tk M t', (∀ b o, s.heap.get? b = some o → h'.get? b = some o) → M ∈ ns → (∀ a, a ∈ ns → a ≤ M) → Q (.int M t') { s with heap := h', toks := tk }) : wpAny (model prog w) A (call (.builtin "max") [.ref l]) Q E s := by
  obtain ⟨xs, e⟩ := hi.allInts.items
  have hn : numsOf (intItems xs).toList = ns := by rw [← e]; exact hi.numsOf
  rw [nums_intItems] at hn
  subst hn
  rw [e] at hl
  have hsz : 0 < xs.size := by simpa using hne
  refine PySem.max_intList hh hl hsz fun v h' tk hv hk => ?_
  obtain ⟨t, rfl⟩ := intItems_at hv
  obtain ⟨h1, h2⟩ := argBest_gt (numAt xs) (xs.size - 1)
  refine h h' tk _ t hk ?_ fun a ha => ?_
  · rw [numAt_eq]; exact PySem.getD_mem (by rw [List.length_map, Array.length_toList]; omega)
  · obtain ⟨j, hj, rfl⟩ := mem_getD ha
    rw [List.length_map, Array.length_toList] at hj
    rw [← numAt_eq]; exact h2 j (by omega)
theorem min_raw (hh : A.handled = none) (hl : s.heap.IsList l its.toArray) (hi : IntsAre its ns) (hne : 0 < ns.length)
    (h : ∀ h' tk M t', (∀ b o, s.heap.get? b = some o → h'.get? b = some o) → M ∈ ns → (∀ a, a ∈ ns → M ≤ a) → Q (.int M t') { s with heap := h', toks := tk }) : wpAny (model prog w) A (call (.builtin "min") [.ref l]) Q E s := by
  obtain ⟨xs, e⟩ := hi.allInts.items
  have hn : numsOf (intItems xs).toList = ns := by rw [← e]; exact hi.numsOf
  rw [nums_intItems] at hn
  subst hn
  rw [e] at hl
  have hsz : 0 < xs.size := by simpa using hne
  refine PySem.min_intList hh hl hsz fun v h' tk hv hk => ?_
  obtain ⟨t, rfl⟩ := intItems_at hv
  obtain ⟨h1, h2⟩ := argBest_lt (numAt xs) (xs.size - 1)
  refine h h' tk _ t hk ?_ fun a ha => ?_
  · rw [numAt_eq]; exact PySem.getD_mem (by rw [List.length_map, Array.length_toList]; omega)
  · obtain ⟨j, hj, rfl⟩ := mem_getD ha
    rw [List.length_map, Array.length_toList] at hj
    rw [← numAt_eq]; exact h2 j (by omega)
end

/-! ### the calls, by values (CallR of 03t; MtR of 06l) -/
section
variable {X : Cx}
/-- max(xs), min(xs) of a list of ints -/
def rMax (K : PySem.W.Frag) : List V → Hp → VK → Prop := fun vs H Q => ∃ (a : Addr) (ns : List Int), vs = [V.ref a] ∧ SqL K H a (ns.map V.int) ∧ 0 < ns.length ∧ ∀ m, m ∈ ns → (∀ y, y ∈ ns → y ≤ m) → Q (.int m) H
def rMin (K : PySem.W.Frag) : List V → Hp → VK → Prop := fun vs H Q => ∃ (a : Addr) (ns : List Int), vs = [V.ref a] ∧ SqL K H a (ns.map V.int) ∧ 0 < ns.length ∧ ∀ m, m ∈ ns → (∀ y, y ∈ ns → m ≤ y) → Q (.int m) H
theorem cr_max (hc : X.calm = true) : CallR X (.builtin "max") (rMax X.K) := by
  intro pins s σ H vs us Q I r h
  obtain ⟨a, ns, rfl, hs, hne, q⟩ := h
  obtain ⟨its, rv, hl, _⟩ := I.list hs
  rw [Vals.ref1 r]
  exact max_raw (I.ok.hd hc) hl.isList rv.ints hne fun h' tk m t' hk h1 h2 => ⟨.int _, H, I.kept hk, ⟨_, rfl⟩, q m h1 h2⟩
theorem cr_min (hc : X.calm = true) : CallR X (.builtin "min") (rMin X.K) := by
  intro pins s σ H vs us Q I r h
  obtain ⟨a, ns, rfl, hs, hne, q⟩ := h
  obtain ⟨its, rv, hl, _⟩ := I.list hs
  rw [Vals.ref1 r]
  exact min_raw (I.ok.hd hc) hl.isList rv.ints hne fun h' tk m t' hk h1 h2 => ⟨.int _, H, I.kept hk, ⟨_, rfl⟩, q m h1 h2⟩

end

/-! ### list.index, flat items -/
section
variable {X : Cx}
end

/-! ### type(x) of an own instance; is, is not of a module's class -/
section
variable {X : Cx}
end

section
variable {X : Cx}
end

/-! ### == and != of data at any depth: none, bools, ints, texts, lists, tuples -/
mutual
inductive Dp (K : PySem.W.Frag) (H : Hp) : V → PyData → Prop
  | non : Dp K H .non .none
  | bl (b : Bool) : Dp K H (.bl b) (.bool b)
  | int (i : Int) : Dp K H (.int i) (.int i)
  | str (x : Str) : Dp K H (.str x) (.str x)
  | lst {a : Addr} {xs : List V} {ds : List PyData} : SqL K H a xs → DpAll K H xs ds → Dp K H (.ref a) (.list ds)
  | tup {a : Addr} {xs : List V} {ds : List PyData} : SqT K H a xs → DpAll K H xs ds → Dp K H (.ref a) (.tuple ds)
inductive DpAll (K : PySem.W.Frag) (H : Hp) : List V → List PyData → Prop
  | nil : DpAll K H [] []
  | cons {v : V} {vs : List V} {d : PyData} {ds : List PyData} : Dp K H v d → DpAll K H vs ds → DpAll K H (v :: vs) (d :: ds)
end
section
variable {X : Cx} {pins : List (Addr × Obj)} {σ : St} {H : Hp} {s : Shared}
mutual
theorem Dp.reads (I : Inv X pins σ H s) : ∀ (d : PyData) (v : V) (u : Value), Dp X.K H v d → RelV v u → ∃ as, Reads s.heap u d as
  | .none, _, _, h, r => by
    cases h
    cases r
    exact ⟨_, Reads.none⟩
  | .bool b, _, _, h, r => by
    cases h
    cases r
    exact ⟨_, Reads.bool b⟩
  | .int i, _, _, h, r => by
    cases h
    obtain ⟨t, rfl⟩ := r
    exact ⟨_, Reads.int i t⟩
  | .str x, _, _, h, r => by
    cases h
    obtain ⟨t, rfl⟩ := r
    exact ⟨_, Reads.str x t⟩
  | .list ds, _, _, h, r => by
    cases h with
    | lst hs ha =>
      cases r
      obtain ⟨its, rv, ⟨o, n, ho, hc, _, hd⟩, _⟩ := I.list hs
      obtain ⟨as, hr⟩ := Dp.readsAll I ds _ its ha rv
      exact ⟨_, Reads.list ho hc hd hr⟩
  | .tuple ds, _, _, h, r => by
    cases h with
    | tup hs ha =>
      cases r
      obtain ⟨its, rv, ⟨o, ho, hc, n, hd⟩, _⟩ := I.tuple hs
      obtain ⟨as, hr⟩ := Dp.readsAll I ds _ its ha rv
      exact ⟨_, Reads.tuple ho hc hd hr⟩
  | .dict _, _, _, h, _ => by cases h
theorem Dp.readsAll (I : Inv X pins σ H s) : ∀ (ds : List PyData) (vs : List V) (us : List Value), DpAll X.K H vs ds → Vals vs us → ∃ as, ReadsAll s.heap us ds as
  | [], _, _, h, r => by
    cases h
    cases r
    exact ⟨_, ReadsAll.nil⟩
  | d :: ds, _, _, h, r => by
    cases h with
    | cons h1 h2 =>
      cases r with
      | cons r1 r2 =>
        obtain ⟨as, q1⟩ := Dp.reads I d _ _ h1 r1
        obtain ⟨bs, q2⟩ := Dp.readsAll I ds _ _ h2 r2
        exact ⟨_, ReadsAll.cons q1 q2⟩
end
end
section
variable {X : Cx}
def rEqD (K : PySem.W.Frag) : R2 := fun x y H Q => ∃ d e, Dp K H x d ∧ Dp K H y e ∧ SeqAt.shaped d = true ∧ SeqAt.shaped e = true ∧ Q (.bl (PyData.eqv d e)) H
def rNeD (K : PySem.W.Frag) : R2 := fun x y H Q => ∃ d e, Dp K H x d ∧ Dp K H y e ∧ SeqAt.shaped d = true ∧ SeqAt.shaped e = true ∧ Q (.bl (!PyData.eqv d e)) H
theorem op_eqD (hu : X.A.units + 64 < cLine) : OpR X (compareOp .Eq) (rEqD X.K) := by
  intro pins s σ H x y v u Q I rx ry h
  obtain ⟨d, e, hd, he, sd, se, q⟩ := h
  obtain ⟨as, r1⟩ := Dp.reads I d x v hd rx
  obtain ⟨bs, r2⟩ := Dp.reads I e y u he ry
  exact SeqAt.compareEq_shaped r1 r2 sd se hu ⟨.bl _, H, I, rfl, q⟩
theorem op_neD (hu : X.A.units + 64 < cLine) : OpR X (compareOp .NotEq) (rNeD X.K) := by
  intro pins s σ H x y v u Q I rx ry h
  obtain ⟨d, e, hd, he, sd, se, q⟩ := h
  obtain ⟨as, r1⟩ := Dp.reads I d x v hd rx
  obtain ⟨bs, r2⟩ := Dp.reads I e y u he ry
  exact SeqAt.compareNe_shaped r1 r2 sd se hu ⟨.bl _, H, I, rfl, q⟩
end
end L2

namespace L2
open PySem PySem.Spec PyProof.Rows
abbrev CellAt (h : Heap) (c : Addr) (v : Option Value) : Prop := h.IsCell c v
def relS (scope sc : Scope) : Scope :=
  { scope with names := scope.names.map fun (n, k) => if (k == .free && sc.kind == .function && sc.names.lookup n == some .cell) then (n, .cell) else (n, k) }

def cloFrom (cells : List (Str × Addr)) : List (Str × NameKind) → List (Str × Addr) → List (Str × Addr)
  | [], acc => acc
  | (n, k) :: r, acc => if k == .free then cloFrom cells r ((n, (cells.lookup n).getD 0) :: acc) else cloFrom cells r acc

theorem closure_loop (env : Env) (f : Str × NameKind → List (Str × Addr) → Sem (ForInStep (List (Str × Addr))))
    (hf : ∀ n k c, f (n, k) c = if k == .free then (do let a ← cellOf env n; pure (.yield ((n, a) :: c))) else pure (.yield c)) :
    ∀ (names : List (Str × NameKind)) (acc : List (Str × Addr)), (∀ y ∈ names, y.2 = .free → ∃ c, env.cells.lookup y.1 = some c) → forIn names acc f = pure (cloFrom env.cells names acc)
  | [], acc, _ => by rw [List.forIn_nil]; rfl
  | (n, k) :: r, acc, h => by
    rw [List.forIn_cons, hf]
    have ih := fun acc => closure_loop env f hf r acc fun y hy => h y (List.mem_cons_of_mem _ hy)
    unfold cloFrom
    by_cases hk : (k == NameKind.free) = true
    · rw [if_pos hk, if_pos hk]
      obtain ⟨c, hc⟩ := h (n, k) List.mem_cons_self (by simpa using hk)
      have e : cellOf env n = pure c := by unfold cellOf; rw [hc]
      rw [e]
      have e2 : (env.cells.lookup n).getD 0 = c := by rw [hc]; rfl
      rw [e2]
      exact ih _
    · rw [if_neg hk, if_neg hk]
      exact ih _
theorem closure_ok {scope : Scope} {env : Env} (h : ∀ y ∈ scope.names, y.2 = .free → ∃ c, env.cells.lookup y.1 = some c) : closureFor scope env = pure (cloFrom env.cells scope.names []) := by
  simp only [closureFor]
  rw [closure_loop env _ (fun n k c => rfl) scope.names [] h]
  rfl

theorem mem_lookup {α : Type} : ∀ {l : List (Str × α)} {n : Str} {c : α}, (n, c) ∈ l → ∃ c', l.lookup n = some c'
  | (k, v) :: r, n, c, h => by
    rw [List.lookup_cons]
    cases hb : n == k with
    | true => exact ⟨_, rfl⟩
    | false =>
      rcases List.mem_cons.mp h with e | h
      · cases e; simp at hb
      · exact mem_lookup h

theorem cloFrom_mem {cells : List (Str × Addr)} : ∀ {names : List (Str × NameKind)} {acc : List (Str × Addr)} {n : Str} {c : Addr}, (n, c) ∈ cloFrom cells names acc → (n, c) ∈ acc ∨ ((n, .free) ∈ names ∧ c = (cells.lookup n).getD 0)
  | [], _, _, _, h => .inl h
  | (m, k) :: r, acc, n, c, h => by
    unfold cloFrom at h
    split at h
    · rename_i hk
      have hk : k = .free := by simpa using hk
      rcases cloFrom_mem h with h | ⟨h1, h2⟩
      · rcases List.mem_cons.mp h with e | h
        · cases e; exact .inr ⟨hk ▸ List.mem_cons_self, rfl⟩
        · exact .inl h
      · exact .inr ⟨List.mem_cons_of_mem _ h1, h2⟩
    · rcases cloFrom_mem h with h | ⟨h1, h2⟩
      · exact .inl h
      · exact .inr ⟨List.mem_cons_of_mem _ h1, h2⟩
theorem cloFrom_acc {cells : List (Str × Addr)} : ∀ {names : List (Str × NameKind)} {acc : List (Str × Addr)} {p : Str × Addr}, p ∈ acc → p ∈ cloFrom cells names acc
  | [], _, _, h => h
  | (m, k) :: r, acc, p, h => by
    unfold cloFrom
    split
    · exact cloFrom_acc (List.mem_cons_of_mem _ h)
    · exact cloFrom_acc h
theorem cloFrom_has {cells : List (Str × Addr)} : ∀ {names : List (Str × NameKind)} {acc : List (Str × Addr)} {n : Str}, (n, .free) ∈ names → (n, (cells.lookup n).getD 0) ∈ cloFrom cells names acc
  | (m, k) :: r, acc, n, h => by
    unfold cloFrom
    rcases List.mem_cons.mp h with e | h
    · cases e
      exact cloFrom_acc List.mem_cons_self
    · split
      · exact cloFrom_has h
      · exact cloFrom_has h

theorem cells_mem : ∀ {names : List (Str × NameKind)} {h : Heap} {acc : List (Str × Addr)} {x : Str} {c : Addr}, (x, c) ∈ cellsFrom h.objs.size names acc →
    (x, c) ∈ acc ∨ ((x, .cell) ∈ names ∧ h.objs.size ≤ c ∧ CellAt (pushCells h names) c none)
  | [], _, _, _, _, h => .inl h
  | (n, k) :: r, h, acc, x, c, hm => by
    unfold cellsFrom at hm
    unfold pushCells
    split at hm
    · rename_i hk
      rw [if_pos hk]
      have hk : k = .cell := by simpa using hk
      rw [← Heap.size_push h { cls := .type "cell", data := .cell none }] at hm
      rcases cells_mem hm with hm | ⟨h1, h2, h3⟩
      · rcases List.mem_cons.mp hm with e | hm
        · cases e
          exact .inr ⟨hk ▸ List.mem_cons_self, Nat.le_refl _, _, pushCells_keeps r _ _ _ (Heap.get?_push_size _ rfl), rfl⟩
        · exact .inl hm
      · rw [Heap.size_push] at h2
        exact .inr ⟨List.mem_cons_of_mem _ h1, Nat.le_of_succ_le h2, h3⟩
    · rename_i hk
      rw [if_neg hk]
      rcases cells_mem hm with hm | ⟨h1, h2, h3⟩
      · exact .inl hm
      · exact .inr ⟨List.mem_cons_of_mem _ h1, h2, h3⟩
theorem cells_acc : ∀ {names : List (Str × NameKind)} {n : Nat} {acc : List (Str × Addr)} {p : Str × Addr}, p ∈ acc → p ∈ cellsFrom n names acc
  | [], _, _, _, h => h
  | (m, k) :: r, n, acc, p, h => by
    unfold cellsFrom
    split
    · exact cells_acc (List.mem_cons_of_mem _ h)
    · exact cells_acc h
theorem cells_has : ∀ {names : List (Str × NameKind)} {n : Nat} {acc : List (Str × Addr)} {x : Str}, (x, .cell) ∈ names → ∃ c, (x, c) ∈ cellsFrom n names acc
  | (m, k) :: r, n, acc, x, h => by
    unfold cellsFrom
    rcases List.mem_cons.mp h with e | h
    · cases e
      exact ⟨n, cells_acc List.mem_cons_self⟩
    · split
      · exact cells_has h
      · exact cells_has h
theorem cells_inj : ∀ {names : List (Str × NameKind)} {h : Heap} {acc : List (Str × Addr)} {x y : Str} {c : Addr}, (∀ p ∈ acc, p.2 < h.objs.size) → (∀ x y c, (x, c) ∈ acc → (y, c) ∈ acc → x = y) →
    (x, c) ∈ cellsFrom h.objs.size names acc → (y, c) ∈ cellsFrom h.objs.size names acc → x = y
  | [], _, _, _, _, _, _, hi, h1, h2 => hi _ _ _ h1 h2
  | (n, k) :: r, h, acc, x, y, c, hl, hi, h1, h2 => by
    unfold cellsFrom at h1 h2
    split at h1
    · rename_i hk
      rw [if_pos hk] at h2
      rw [← Heap.size_push h { cls := .type "cell", data := .cell none }] at h1 h2
      refine cells_inj (h := h.push _) (fun p hp => ?_) (fun x y c a b => ?_) h1 h2
      · rw [Heap.size_push]
        rcases List.mem_cons.mp hp with rfl | hp
        · exact Nat.lt_succ_self _
        · exact Nat.lt_succ_of_lt (hl p hp)
      · rcases List.mem_cons.mp a with e | a <;> rcases List.mem_cons.mp b with e' | b
        · cases e; cases e'; rfl
        · cases e; exact absurd (hl _ b) (Nat.lt_irrefl _)
        · cases e'; exact absurd (hl _ a) (Nat.lt_irrefl _)
        · exact hi _ _ _ a b
    · rename_i hk
      rw [if_neg hk] at h2
      exact cells_inj hl hi h1 h2

theorem newEnv_comp {M : Model} {A : Around} {E : Value → Shared → Prop} {s : Shared} {scope : Scope} {globals : Addr} {closure : List (Str × Addr)} {qual : Str} {func : Option Addr} {code : Value} {around : Env} {builtins : Addr} {Q : Env → Shared → Prop}
    (h : Q (newEnv scope s.heap.objs.size globals (cellsFrom (s.heap.objs.size + 1) scope.names closure) qual func code (some around) builtins)
      { s with heap := pushCells (s.heap.push { cls := .type "dict", data := .dict #[] }) scope.names }) :
    wpAny M A (newFunctionEnv scope globals closure [] qual func code (some around) builtins) Q E s := by
  simp only [newFunctionEnv, Option.isSome_some, if_true]
  refine wpAny_bind (wpAny_alloc ?_)
  refine wpAny_bind (wpAny_layCells _ (fun n k c => rfl) scope.names closure _ _ ?_)
  rw [show ({ s with heap := s.heap.push { cls := .type "dict", data := .dict #[] } } : Shared).heap.objs.size = s.heap.objs.size + 1 from Heap.size_push ..]
  rw [List.forIn_nil]
  exact wpAny_bind (wpAny_pure (wpAny_pure h))

/-- every name of the written scope, in the scope that runs -/
theorem lookup_relS {sc : Scope} : ∀ {names : List (Str × NameKind)} {x : Str} {k : NameKind},
    (names.map fun (n, k) => if (k == NameKind.free && sc.kind == .function && sc.names.lookup n == some .cell) then (n, NameKind.cell) else (n, k)).lookup x = some k →
    ∃ k', names.lookup x = some k' ∧ (k = k' ∨ (k' = .free ∧ k = .cell))
  | [], _, _, h => by simp at h
  | (n, k₀) :: r, x, k, h => by
    have ih := @lookup_relS sc r x k
    have h' : List.lookup x ((if (k₀ == NameKind.free && sc.kind == .function && sc.names.lookup n == some .cell) = true then (n, NameKind.cell) else (n, k₀)) :: (r.map _)) = some k := h
    cases hx : x == n with
    | true =>
      simp only [List.lookup_cons, hx]
      by_cases hc : (k₀ == NameKind.free && sc.kind == .function && sc.names.lookup n == some .cell) = true
      · rw [if_pos hc] at h'
        simp only [List.lookup_cons, hx] at h'
        cases h'
        simp only [Bool.and_eq_true, beq_iff_eq] at hc
        exact ⟨k₀, rfl, .inr ⟨hc.1.1, rfl⟩⟩
      · rw [if_neg hc] at h'
        simp only [List.lookup_cons, hx] at h'
        cases h'
        exact ⟨_, rfl, .inl rfl⟩
    | false =>
      simp only [List.lookup_cons, hx]
      by_cases hc : (k₀ == NameKind.free && sc.kind == .function && sc.names.lookup n == some .cell) = true
      · rw [if_pos hc] at h'
        simp only [List.lookup_cons, hx] at h'
        exact ih h'
      · rw [if_neg hc] at h'
        simp only [List.lookup_cons, hx] at h'
        exact ih h'
/-- the names of a comprehension's block: its own (with their places in N), or captured -/
structure BlkOk (N : List Str) (sc scope : Scope) (own : List (Str × Nat)) : Prop where
  kind : scope.kind = .function
  uniq : ∀ y ∈ scope.names, scope.names.lookup y.1 = some y.2
  ix : ∀ p ∈ own, N[p.2]? = some p.1
  free : ∀ y ∈ scope.names, y.2 = .free → sc.names.lookup y.1 = some .cell ∨ sc.names.lookup y.1 = some .free
  own : ∀ y ∈ scope.names, y.2 = .local ∨ y.2 = .cell → y.1 ∈ own.map (·.1) ∨ y.1 ∉ N
/-- the slots of the block's own names forgotten -/
def wipe (σ : St) : List Nat → St
  | [] => σ
  | v :: vs => (wipe σ vs).set v none
theorem wipe_length (σ : St) : ∀ vs : List Nat, (wipe σ vs).length = σ.length
  | [] => rfl
  | v :: vs => by unfold wipe; rw [List.length_set, wipe_length σ vs]
theorem wipe_some {σ : St} {i : Nat} {x : V} : ∀ {vs : List Nat}, (wipe σ vs)[i]? = some (some x) → σ[i]? = some (some x) ∧ i ∉ vs
  | [], h => ⟨h, by simp⟩
  | v :: vs, h => by
    unfold wipe at h
    by_cases hi : v = i
    · subst hi
      by_cases hv : v < (wipe σ vs).length
      · rw [List.getElem?_set_self hv] at h; cases h
      · rw [List.getElem?_eq_none (by simpa using hv)] at h; cases h
    · rw [List.getElem?_set_ne hi] at h
      obtain ⟨h1, h2⟩ := wipe_some h
      exact ⟨h1, by simp only [List.mem_cons, not_or]; exact ⟨fun e => hi e.symm, h2⟩⟩

/-- the context of a block that starts at s, its iterator's objects at fp -/
abbrev Cx.blk (X : Cx) (s : Shared) (H : Hp) (scope : Scope) (cenv : Env) (fp : List Addr) : Cx := { X with s_0 := s, H_0 := H, env := cenv, outer := X.stack, ex := fp, fn := fun x => scope.names.lookup x == some .cell, pn := [], xe := fun _ _ => False }
section
variable {X : Cx} {pins : List (Addr × Obj)} {σ : St} {H : Hp} {s : Shared}
theorem block_start {scope : Scope} {own : List (Str × Nat)} {fp : List Addr} (I : Inv X pins σ H s) (ok : BlkOk X.N X.env.scope scope own) (hN : X.N.Nodup) (hfp : ∀ b ∈ fp, FpOk X pins H b ∧ b < s.heap.objs.size) :
    Inv (X.blk s H scope (compEnvC scope (cellsFrom (s.heap.objs.size + 1) scope.names (cloFrom X.env.cells scope.names [])) s.heap.objs.size X.env) fp) [] (wipe σ (own.map (·.2))) H { s with heap := pushCells (s.heap.push { cls := .type "dict", data := .dict #[] }) scope.names } := by
  have hfree : ∀ y ∈ scope.names, y.2 = .free → ∃ c, X.env.cells.lookup y.1 = some c := fun y hy e => by
    rcases ok.free y hy e with k | k
    · exact I.ok.has _ (.inl k)
    · exact I.ok.has _ (.inr k)
  generalize hcenv : compEnvC scope (cellsFrom (s.heap.objs.size + 1) scope.names (cloFrom X.env.cells scope.names [])) s.heap.objs.size X.env = cenv
  have kp : ∀ b o, s.heap.get? b = some o → (pushCells (s.heap.push { cls := .type "dict", data := .dict #[] }) scope.names).get? b = some o := fun b o e => pushCells_keeps _ _ _ _ (Heap.get?_push_of_some _ e)
  have hL : cenv.locals = s.heap.objs.size := by rw [← hcenv]; rfl
  have hcl : cenv.cells = cellsFrom (s.heap.objs.size + 1) scope.names (cloFrom X.env.cells scope.names []) := by rw [← hcenv]; rfl
  have hsc : cenv.scope = relS scope X.env.scope := by rw [← hcenv]; rfl
  rw [← Heap.size_push s.heap { cls := .type "dict", data := .dict #[] }] at hcl
  have cm : ∀ {y c}, (y, c) ∈ cloFrom X.env.cells scope.names [] → X.env.cells.lookup y = some c ∧ c < s.heap.objs.size := fun {y c} hm => by
    rcases cloFrom_mem hm with hm | ⟨h1, rfl⟩
    · cases hm
    · obtain ⟨c, hc⟩ := hfree _ h1 rfl
      rw [hc]
      obtain ⟨w, z⟩ := I.cell _ _ hc
      exact ⟨rfl, z.lt⟩
  have mem : ∀ {y c}, cenv.cells.lookup y = some c → (X.env.cells.lookup y = some c ∧ c < s.heap.objs.size) ∨ (s.heap.objs.size + 1 ≤ c ∧ CellAt (pushCells (s.heap.push { cls := .type "dict", data := .dict #[] }) scope.names) c none) := fun {y c} e => by
    rw [hcl] at e
    rcases cells_mem (PySem.mem_of_lookup e) with hm | ⟨_, h2, h3⟩
    · exact .inl (cm hm)
    · rw [Heap.size_push] at h2; exact .inr ⟨h2, h3⟩
  have look : ∀ {y}, scope.names.lookup y = some .free → ∃ c, cenv.cells.lookup y = some c ∧ X.env.cells.lookup y = some c := fun {y} hl => by
    have hy : (y, NameKind.free) ∈ scope.names := PySem.mem_of_lookup hl
    obtain ⟨c', e'⟩ := mem_lookup (cells_acc (names := scope.names) (n := (s.heap.push { cls := .type "dict", data := .dict #[] }).objs.size) (cloFrom_has (cells := X.env.cells) (acc := []) hy))
    rw [← hcl] at e'
    refine ⟨c', e', ?_⟩
    rw [hcl] at e'
    rcases cells_mem (PySem.mem_of_lookup e') with hm | ⟨h1, _, _⟩
    · exact (cm hm).1
    · have := ok.uniq _ h1
      rw [hl] at this; cases this
  have okB : (X.blk s H scope cenv fp).Ok := by
    refine ⟨I.ok.mod, by show cenv.scope.kind = _; rw [hsc]; exact ok.kind, by show cenv.globals = _; rw [← hcenv]; exact I.ok.glob, by show cenv.builtins = _; rw [← hcenv]; exact I.ok.blt, by show s.heap.objs.size ≤ cenv.locals; rw [hL]; exact Nat.le_refl _,
      fun y z c e1 e2 => ?_, fun y hy => ?_, fun y c z e => ?_, I.ok.hd, I.ok.frames, .inl rfl, fun b hb => ⟨?_, fun y c e z => ?_⟩, I.bs, Nat.le_trans I.ok.bsz I.sz, fun b o e hb => ?_, fun b hb z => ?_, I.stack, I.stkFree⟩
    · have e1 : cenv.cells.lookup y = some c := e1
      have e2 : cenv.cells.lookup z = some c := e2
      rw [hcl] at e1 e2
      refine cells_inj (fun p hp => ?_) (fun y z c a b => I.ok.inj y z c (cm a).1 (cm b).1) (PySem.mem_of_lookup e1) (PySem.mem_of_lookup e2)
      rw [Heap.size_push]
      exact Nat.lt_succ_of_lt (cm (y := p.1) (c := p.2) hp).2
    · show ∃ c, cenv.cells.lookup y = some c
      have key : ∀ k, cenv.kindOf y = some k → (k = .cell ∨ k = .free) → ∃ c, cenv.cells.lookup y = some c := fun k hk hk' => by
        unfold Env.kindOf at hk
        rw [hsc] at hk
        obtain ⟨k', e, r⟩ := lookup_relS hk
        have : k' = .cell ∨ k' = .free := by
          rcases r with rfl | ⟨rfl, _⟩
          · exact hk'
          · exact .inr rfl
        rcases this with rfl | rfl
        · obtain ⟨c, hm⟩ := cells_has (n := (s.heap.push { cls := .type "dict", data := .dict #[] }).objs.size) (acc := cloFrom X.env.cells scope.names []) (PySem.mem_of_lookup e)
          obtain ⟨c', e'⟩ := mem_lookup hm
          exact ⟨c', by rw [hcl]; exact e'⟩
        · obtain ⟨c, h1, _⟩ := look e
          exact ⟨c, h1⟩
      rcases hy with hy | hy
      · exact key _ hy (.inl rfl)
      · exact key _ hy (.inr rfl)
    · have z : (scope.names.lookup y == some NameKind.cell) = true := z
      have z : scope.names.lookup y = some .cell := by simpa using z
      have e : cenv.cells.lookup y = some c := e
      rw [hcl] at e
      rcases cells_mem (PySem.mem_of_lookup e) with hm | ⟨_, h2, _⟩
      · rcases cloFrom_mem hm with hm | ⟨h1, _⟩
        · cases hm
        · have q := ok.uniq _ h1
          rw [z] at q; cases q
      · rw [Heap.size_push] at h2
        exact Nat.le_of_succ_le h2
    · show b ≠ cenv.locals
      rw [hL]; exact Nat.ne_of_lt (hfp b hb).2
    · have e : cenv.cells.lookup y = some c := e
      rcases mem e with ⟨h1, _⟩ | ⟨h1, _⟩
      · exact (hfp b hb).1.2.2.2.2.1 y c h1 z
      · have h2 : s.heap.objs.size + 1 ≤ b := by rw [← z]; exact h1
        exact absurd (Nat.lt_of_lt_of_le (hfp b hb).2 (Nat.le_of_succ_le h2)) (Nat.lt_irrefl _)
    · rcases (hfp b hb).1.2.2.2.1 with z | z
      · exact I.ok.noex b o e z
      · exact absurd (Nat.lt_of_lt_of_le (Heap.lt_size e) (Nat.le_trans I.ok.bsz z)) (Nat.lt_irrefl _)
    · rcases List.mem_cons.mp (I.stkSub b z) with z | z
      · exact (hfp b hb).1.2.1 z
      · exact (hfp b hb).1.2.2.1 z
  refine ⟨okB, rfl, I.bare, Un.kept kp, ⟨fun _ => none, ?_, fun i y av e1 e2 e3 => ?_⟩, fun y c e => ?_, ?_, fun y c e => ?_, fun p hp => ?_, I.hok.kept kp, by rw [wipe_length]; exact I.len⟩
  · show Heap.Ns _ cenv.locals _
    rw [hL]
    exact Heap.Ns.keeps (Heap.Ns.new ..) fun b o e => pushCells_keeps _ _ _ _ e
  · obtain ⟨e2, hne⟩ := wipe_some e2
    have hfr : scope.names.lookup y = some .free ∧ (cenv.kindOf y = some .cell ∨ cenv.kindOf y = some .free) := by
      have key : ∀ k, cenv.scope.names.lookup y = some k → k = .local ∨ k = .cell ∨ k = .free → scope.names.lookup y = some .free ∧ (cenv.kindOf y = some .cell ∨ cenv.kindOf y = some .free) := fun k hk hk' => by
        have hk0 := hk
        rw [hsc] at hk
        obtain ⟨k', e, r⟩ := lookup_relS hk
        have no : ¬ (k' = .local ∨ k' = .cell) := fun hh => by
          rcases ok.own _ (PySem.mem_of_lookup e) hh with e' | e'
          · obtain ⟨p, hp, hpy⟩ := List.mem_map.mp e'
            have e3 := ok.ix p hp
            have : p.1 = y := hpy
            rw [this] at e3
            exact hne (List.mem_map.mpr ⟨p, hp, nodup_ix hN e3 e1⟩)
          · exact e' (List.mem_of_getElem? e1)
        rcases r with rfl | ⟨rfl, rfl⟩
        · rcases hk' with rfl | rfl | rfl
          · exact absurd (.inl rfl) no
          · exact absurd (.inr rfl) no
          · exact ⟨e, .inr hk0⟩
        · exact ⟨e, .inl hk0⟩
      have e3 : Vis cenv.scope y := e3
      rcases e3 with e3 | e3 | e3
      · exact key _ e3 (.inl rfl)
      · exact key _ e3 (.inr (.inl rfl))
      · exact key _ e3 (.inr (.inr rfl))
    obtain ⟨m, hn, hl⟩ := I.loc
    have hvis : Vis X.env.scope y := (ok.free _ (PySem.mem_of_lookup hfr.1) rfl).elim (fun k => .inr (.inl k)) (fun k => .inr (.inr k))
    obtain ⟨w, r, q⟩ := hl i y av e1 e2 hvis
    refine ⟨w, r, .inr ⟨hfr.2, ?_⟩⟩
    obtain ⟨c, h1, h2⟩ := look hfr.1
    rcases q with ⟨k, _⟩ | ⟨_, c', e', z⟩
    · have k : X.env.scope.names.lookup y = some .local := k
      rcases ok.free _ (PySem.mem_of_lookup hfr.1) rfl with k' | k' <;> rw [show X.env.scope.names.lookup y = _ from k'] at k <;> cases k
    · rw [h2] at e'; cases e'
      exact ⟨c, h1, z.keeps kp⟩
  · have e : cenv.cells.lookup y = some c := e
    rcases mem e with ⟨h1, _⟩ | ⟨_, z⟩
    · obtain ⟨w, z⟩ := I.cell y c h1
      exact ⟨w, z.keeps kp⟩
    · exact ⟨_, z⟩
  · show H cenv.locals = none
    rw [hL]; exact I.hok.fresh (Nat.le_refl _)
  · have e : cenv.cells.lookup y = some c := e
    rcases mem e with ⟨h1, _⟩ | ⟨h1, _⟩
    · exact I.freeC y c h1
    · exact I.hok.fresh (Nat.le_of_succ_le h1)
  · exact absurd (show p ∈ ([] : List (Addr × Obj)) ++ [] from hp) (by simp)

/-- an item appended to a tracked list -/
theorem app_ok {E : Value → Shared → Prop} {D : Addr} {xs : List V} {y : V} {v : Value} {Q : Value → Shared → Prop} (I : Inv X pins σ H s) (hD : H D = some (.lst xs)) (hz : xs.length < sizeLine) (r : RelV y v)
    (h : ∀ s', Inv X pins σ (upd H D (.lst (xs ++ [y]))) s' → Q .none s') : wpAny (model X.prog X.w) X.A (call (.builtin "list.append") [.ref D, v]) Q E s := by
  obtain ⟨hz', its, n, ri, e⟩ := I.hok D _ hD
  have hl := ri.length
  refine append_at (hsz := by rw [List.size_toArray]; omega) e fun h' sb ho' => ?_
  refine h { s with heap := h' } (I.write (t' := s.toks) (by rw [hD]; trivial) (.inl rfl) (fun b u hb q => (sb.2 b hb).trans q) ⟨_, ho'⟩ ⟨by rw [List.length_append]; exact hz, its ++ [v], n + 1, ri.append (.cons r .nil), ?_⟩)
  rw [ho']
  simp

/-- a clause's tests -/
def PTs (X : Cx) (ifs : List Expr) (t : TT) : Prop :=
  ∀ (pins : List (Addr × Obj)) (s : Shared) (σ : St) (H : Hp) (Q : Bool → Hp → Prop), Inv X pins σ H s → t σ H Q →
    wpAny (model X.prog X.w) X.A (forIn ifs true fun c r => if r = true then do let ok ← isTrue c X.env (eval c X.env); pure (ForInStep.yield ok) else pure (ForInStep.yield r)) (TP X pins σ Q) X.xe s
def tYes : TT := fun _ H Q => Q true H
theorem pts_nil : PTs X [] tYes := fun _ _ _ H _ I h => wpAny_tests_nil ⟨H, I, h⟩
theorem pts_one {c : Expr} {t : TT} (h : PT X c t) : PTs X [c] t := fun pins s σ H Q I hw => wpAny_tests_one (h pins s σ H Q I hw)
end

theorem thnF {α : Type} {t : Sem α} {Q Q' : α → Shared → Prop} {M : Model} {A : Around} {E : Value → Shared → Prop} {s : Shared} (h : wpAny M A t Q (fun _ _ => False) s) (hQ : ∀ a s, Q a s → Q' a s) : wpAny M A t Q' E s := wpAny_mono h hQ fun _ _ z => False.elim z

/-- the loop of a list comprehension's block, the target of any form (codeAny_compLoop_tests asks a target that no tuple goes to; statement and proof follow it, PyProof/CompMap.lean:41-61, with the step letOwnedTupleGo kept) -/
theorem compLoop_any {prog : Program} {w : World} {A : Around} {R : Result → Shared → Prop} {s : Shared} {elt target iter : Expr} {ifs : List Expr} {scope : Scope} {pos : Pos} {it acc : Value} {env : Env} (I : Nat → Shared → Prop)
    (turn : ∀ n s, I n s → wpAny (model prog w) A (pyNext it) (fun r s₁ => match r with
      | none => R (.ok .next) s₁
      | some v => wpAny (model prog w) A (letOwnedTupleGo target it v) (fun _ s₁' => wpAny (model prog w) A (assign target env v) (fun _ s₂ =>
          wpAny (model prog w) A (forIn ifs true fun c r => if r = true then do let ok ← isTrue c env (eval c env); pure (ForInStep.yield ok) else pure (ForInStep.yield r)) (fun ok s₃ =>
            if ok = true then wpAny (model prog w) A (eval elt env) (fun x s₄ =>
              wpAny (model prog w) A (call (.builtin "list.append") [acc, x]) (fun _ s₅ => ∃ m, m < n ∧ I m s₅) (notedBy (model prog w) A env fun e s' => R (.error e) s') s₄) (notedBy (model prog w) A env fun e s' => R (.error e) s') s₃
            else ∃ m, m < n ∧ I m s₃) (notedBy (model prog w) A env fun e s' => R (.error e) s') s₂) (notedBy (model prog w) A env fun e s' => R (.error e) s') s₁') (notedBy (model prog w) A env fun e s' => R (.error e) s') s₁) (notedBy (model prog w) A env fun e s' => R (.error e) s') s)
    (n : Nat) (h : I n s) :
    codeAny (model prog w) A (.compLoop (.ListComp elt [⟨target, iter, ifs, 0⟩] scope pos) 0 it acc env) R s := by
  refine codeAny_loop rfl I (fun n s hI => ?_) n h
  show wpAny _ A ((compTurn (.ListComp elt [⟨target, iter, ifs, 0⟩] scope pos) 0 it acc env).onRaise (fun x => do noteFrame x env; theTreesLotGoes x)) _ _ s
  refine wpAny_noted ?_
  rw [compTurn_list]
  refine wpAny_bind (wpAny_standAt (wpAny_bind (wpAny_mono (turn n s hI) (fun r s₁ h₁ => ?_) fun _ _ h' => h')))
  cases r with
  | none => exact wpAny_pure h₁
  | some v =>
    refine wpAny_bind (wpAny_mono h₁ (fun _ s₁' h₁' => ?_) fun _ _ h' => h')
    refine wpAny_bind (wpAny_mono h₁' (fun _ s₂ h₂ => wpAny_bind (wpAny_mono h₂ (fun ok s₃ h₃ => ?_) fun _ _ h' => h')) fun _ _ h' => h')
    cases ok with
    | false => exact wpAny_pure ⟨rfl, h₃⟩
    | true =>
      exact wpAny_bind (wpAny_bind (wpAny_mono h₃ (fun x s₄ h₄ => wpAny_bind (wpAny_mono h₄ (fun _ s₅ h₅ => wpAny_pure (wpAny_pure ⟨rfl, h₅⟩)) fun _ _ h' => h')) fun _ _ h' => h'))

section
variable {X : Cx}
/-- [elt for target in iter if ..]: D the new list; W by the turn and a measure, Nx what a turn is to reach -/
def tLc (wi : TI) (g : TG) (tt : TT) (te : TE) (vs : List Nat) : TE := fun σ H Q => wi σ H fun J H1 => ∀ D, H1 D = none → ∃ W : Nat → Nat → Hp → Prop, (∃ m, W 0 m (upd H1 D (.lst []))) ∧ ∀ i m H, W i m H →
  (J.stop i H ∧ Q (.ref D) H) ∨ (J.go i H ∧ ∃ Nx : Hp → Prop, (∀ H', Nx H' → ∃ m', m' < m ∧ W (i + 1) m' H') ∧ ∀ x H', J.yld i H x H' → g x (wipe σ vs) H' fun σ2 H2 => wipe σ2 vs = wipe σ vs ∧ tt σ2 H2 fun b H3 =>
    if b = true then te σ2 H3 fun y H4 => ∃ acc, H4 D = some (.lst acc) ∧ acc.length < sizeLine ∧ Nx (upd H4 D (.lst (acc ++ [y]))) else Nx H3)
theorem lc_core {pins : List (Addr × Obj)} {s : Shared} {σ : St} {H : Hp} {Q : VK} {elt tg iter : Expr} {ifs : List Expr} {scope : Scope} {own : List (Str × Nat)} {pos pos' : Pos} {wi : TI} {g : TG} {tt : TT} {te : TE} {use : Option (Value → Sem Unit)} {Qf : Value → Shared → Prop}
    (hc : X.calm = true) (hN : X.N.Nodup) (I : Inv X pins σ H s) (hi : PI X tg iter wi) (ok : BlkOk X.N X.env.scope scope own)
    (hg : ∀ (s : Shared) (H : Hp) (C : Addr) (cl : List (Str × Addr)) (fp : List Addr), PG (X.blk s H scope (compEnvC scope cl C X.env) fp) tg g) (ht : ∀ (s : Shared) (H : Hp) (C : Addr) (cl : List (Str × Addr)) (fp : List Addr), PTs (X.blk s H scope (compEnvC scope cl C X.env) fp) ifs tt)
    (he : ∀ (s : Shared) (H : Hp) (C : Addr) (cl : List (Str × Addr)) (fp : List Addr), PE (X.blk s H scope (compEnvC scope cl C X.env) fp) elt te) (hs : ∀ x, foldedSetIterable iter X.env x = pure x)
    (h : tLc wi g tt te (own.map (·.2)) σ H Q)
    (hRR : ∀ D C s' m H', Inv X pins σ H' s' → Q (.ref D) H' → s'.heap.Ns C m → FpOk X pins H' C → compPost (model X.prog X.w) X.A X.xe use Qf (.ref D) C (.ok .next) s') :
    wpAny (model X.prog X.w) X.A (comprehension (.ListComp elt [⟨tg, iter, ifs, 0⟩] scope pos) scope X.env pos' (newList []) false (eval iter X.env) use) Qf X.xe s := by
  have hfree : ∀ y ∈ scope.names, y.2 = .free → ∃ c, X.env.cells.lookup y.1 = some c := fun y hy e => by
    rcases ok.free y hy e with k | k
    · exact I.ok.has _ (.inl k)
    · exact I.ok.has _ (.inr k)
  refine wpAny_comprehension_free (use := use) rfl hs (closure_ok hfree) ok.kind (fun y hy e => by rw [ok.uniq y hy, e])
    (thn (hi pins s σ H _ I h) fun xv s1 hx => thn hx fun itv s2 h2 => ?_)
  obtain ⟨it, fp, tn, J, H2, e, I2, T, st2, f2, q⟩ := h2
  subst e
  refine wpAny_newObj_type (newEnv_comp ?_) (by show 0 ≤ sizeLine; decide)
  generalize hD : s2.heap.objs.size = D
  have hDn : H2 D = none := I2.hok.fresh (Nat.le_of_eq hD)
  obtain ⟨W, ⟨m0, w0⟩, turn⟩ := q D hDn
  -- the new list
  generalize hs3 : ({ s2 with heap := s2.heap.push { cls := .type "list", data := .seq ([] : List Value).toArray } } : Shared) = s3
  have I3 : Inv X pins σ (upd H2 D (.lst [])) s3 := by
    rw [← hs3]
    refine I2.laid (t' := s2.toks) (fun b o e => Heap.get?_push_of_some _ e) (Nat.le_of_eq hD) ⟨Nat.zero_le _, [], 0, .nil, ?_⟩
    rw [← hD]
    exact Heap.get?_push_size _ rfl
  have h3 : s3.heap = s2.heap.push { cls := .type "list", data := .seq ([] : List Value).toArray } := by rw [← hs3]
  have sz : ∀ b ∈ fp, b < s2.heap.objs.size := fun b hb => by
    obtain ⟨o, e, _⟩ := T.obj _ _ st2 b hb
    exact Heap.lt_size e
  have f3 : ∀ b ∈ fp, FpOk X pins (upd H2 D (.lst [])) b ∧ b < s3.heap.objs.size := fun b hb => by
    have hlt := sz b hb
    refine ⟨⟨?_, (f2 b hb).2⟩, by rw [h3, Heap.size_push]; exact Nat.lt_succ_of_lt hlt⟩
    rw [upd_ne (by rw [← hD]; exact Nat.ne_of_lt hlt)]
    exact (f2 b hb).1
  have st3 : tn 0 s3.heap := T.keep _ _ _ st2 fun b _ o e => by rw [h3]; exact Heap.get?_push_of_some _ e
  have I4 := block_start I3 ok hN f3
  have pg := hg s3 (upd H2 D (.lst [])) s3.heap.objs.size (cellsFrom (s3.heap.objs.size + 1) scope.names (cloFrom X.env.cells scope.names [])) fp
  have pt := ht s3 (upd H2 D (.lst [])) s3.heap.objs.size (cellsFrom (s3.heap.objs.size + 1) scope.names (cloFrom X.env.cells scope.names [])) fp
  have pe := he s3 (upd H2 D (.lst [])) s3.heap.objs.size (cellsFrom (s3.heap.objs.size + 1) scope.names (cloFrom X.env.cells scope.names [])) fp
  show codeAny _ _ (.compStart (.ListComp elt [⟨tg, iter, ifs, 0⟩] scope pos) 0 (.ref it) (.ref D) (compEnvC scope (cellsFrom (s3.heap.objs.size + 1) scope.names (cloFrom X.env.cells scope.names [])) s3.heap.objs.size X.env)) (compPost (model X.prog X.w) X.A X.xe use Qf (.ref D) s3.heap.objs.size) { s3 with heap := pushCells (s3.heap.push { cls := .type "dict", data := .dict #[] }) scope.names }
  have nfp : ∀ b ∈ fp, (upd H2 D (.lst [])) b = none := fun b hb => (f3 b hb).1.1
  generalize hce : compEnvC scope (cellsFrom (s3.heap.objs.size + 1) scope.names (cloFrom X.env.cells scope.names [])) s3.heap.objs.size X.env = ce at I4 pg pt pe ⊢
  have cL : ce.locals = s3.heap.objs.size := by subst hce; rfl
  generalize hH3 : upd H2 D (.lst []) = H3 at I3 I4 pg pt pe w0 nfp f3
  generalize hs4 : ({ s3 with heap := pushCells (s3.heap.push { cls := .type "dict", data := .dict #[] }) scope.names } : Shared) = s4 at I4 ⊢
  have st4 : tn 0 s4.heap := T.keep _ _ _ st3 fun b _ o e => by rw [← hs4]; exact pushCells_keeps _ _ _ _ (Heap.get?_push_of_some _ e)
  have stat : ∀ {σ' : St} {H' : Hp} {s' : Shared}, Inv (X.blk s3 H3 scope ce fp) [] σ' H' s' → (∀ b ∈ fp, H' b = none) → ∀ b ∈ fp, FpOk (X.blk s3 H3 scope ce fp) [] H' b := fun {σ' H' s'} I' hn b hb =>
    ⟨hn b hb, (I'.ok.exf b hb).1, I'.ok.exfs b hb, .inl hb, fun x c e => (I'.ok.exf b hb).2 x c e, fun p hp => absurd (show p ∈ ([] : List (Addr × Obj)) ++ [] from hp) (by simp)⟩
  have loop : codeAny (model X.prog X.w) X.A (.compLoop (.ListComp elt [⟨tg, iter, ifs, 0⟩] scope pos) 0 (.ref it) (.ref D) ce) (compPost (model X.prog X.w) X.A X.xe use Qf (.ref D) s3.heap.objs.size) s4 := by
    refine compLoop_any (fun n s' => ∃ i H', Inv (X.blk s3 H3 scope ce fp) [] (wipe σ (own.map (·.2))) H' s' ∧ tn i s'.heap ∧ (∀ b ∈ fp, H' b = none) ∧ W i n H') ?_ m0 ⟨0, H3, I4, st4, nfp, w0⟩
    rintro n s5 ⟨i, H5, I5, st5, n5, w5⟩
    rcases turn i n H5 w5 with ⟨stop, qq⟩ | ⟨go, Nx, hNx, step⟩
    · have td := T.done (X.blk s3 H3 scope ce fp) rfl rfl rfl hc i [] s5 _ H5 (fun _ _ => False) I5 (stat I5 n5) st5 stop
      refine thnF td fun r s6 ⟨hr, I6⟩ => ?_
      subst hr
      -- back in the def's context
      have I7 : Inv X pins σ H5 s6 := I3.call' (ch := fp) I6.os I6.base I6.hok I6.bare fun b hb => ⟨(f3 b hb).1.2.2.2.1, (f3 b hb).1.2.1, (f3 b hb).1.2.2.2.2.1, (f3 b hb).1.2.2.2.2.2⟩
      have nC : H5 s3.heap.objs.size = none := by
        have z : H5 ce.locals = none := I6.free
        rw [cL] at z
        exact z
      obtain ⟨m, hn, _⟩ := I6.loc
      have hn : s6.heap.Ns ce.locals m := hn
      rw [cL] at hn
      exact hRR D s3.heap.objs.size s6 m H5 I7 qq hn (I3.fpOk (Nat.le_refl _) nC)
    · have ti := T.item (X.blk s3 H3 scope ce fp) rfl rfl rfl hc i [] s5 _ H5 (fun _ _ => False) I5 (stat I5 n5) st5 go
      refine thnF ti fun r s6 ⟨u, hr, h6⟩ => ?_
      subst hr
      refine thnF h6 fun _ s7 ⟨x, H7, I7, r7, y7, st7, n7⟩ => ?_
      have I7' := I7.pinned (stat I7 n7) (T.obj _ _ st7)
      refine thnF (pg _ s7 _ H7 x u _ I7' r7 (step x H7 y7)) fun _ s8 ⟨σ8, H8, I8, hw8, q8⟩ => ?_
      refine thnF (pt _ s8 σ8 H8 _ I8 q8) fun b s9 ⟨H9, I9, q9⟩ => ?_
      -- the turn's end
      have fin : ∀ {s' : Shared} {H' : Hp}, Inv (X.blk s3 H3 scope ce fp) ([] ++ pinsAt fp s7.heap) σ8 H' s' → Nx H' → ∃ m, m < n ∧ ∃ i H', Inv (X.blk s3 H3 scope ce fp) [] (wipe σ (own.map (·.2))) H' s' ∧ tn i s'.heap ∧ (∀ b ∈ fp, H' b = none) ∧ W i m H' := fun {s' H'} I' nx => by
        obtain ⟨m', hm, w'⟩ := hNx H' nx
        have pin' : ∀ b ∈ fp, ∀ o, s7.heap.get? b = some o → s'.heap.get? b = some o ∧ H' b = none := fun b hb o e =>
          let z := I'.pin (b, o) (List.mem_append_right _ (List.mem_append_right _ (mem_pinsAt hb e)))
          ⟨z.1, z.2.1⟩
        have hl : (wipe σ (own.map (·.2))).length = σ8.length := by rw [← hw8, wipe_length]
        refine ⟨m', hm, i + 1, H', (I'.unpinned (pins := [])).weak hl (fun j v e => ?_), T.keep _ _ _ st7 fun b hb o e => (pin' b hb o e).1, fun b hb => ?_, w'⟩
        · rw [← hw8] at e
          exact (wipe_some e).1
        · obtain ⟨o, e, _⟩ := T.obj _ _ st7 b hb
          exact (pin' b hb o e).2
      cases b with
      | false =>
        simp only [Bool.false_eq_true, if_false] at q9 ⊢
        exact fin I9 q9
      | true =>
        simp only [if_true] at q9 ⊢
        refine thnF (pe _ s9 σ8 H9 _ I9 q9) fun z s10 ⟨yv, H10, I10, r10, acc, hD10, hz10, nx⟩ => ?_
        exact app_ok (X := X.blk s3 H3 scope ce fp) I10 hD10 hz10 r10 fun s11 I11 => fin I11 nx
  exact codeAny_compStart_list loop (T.self X.A 0 _ _ _ st4 loop)
/-- as a value -/
theorem pe_lc {elt tg iter : Expr} {ifs : List Expr} {scope : Scope} {own : List (Str × Nat)} {pos : Pos} {wi : TI} {g : TG} {tt : TT} {te : TE} (hc : X.calm = true) (hN : X.N.Nodup) (hi : PI X tg iter wi) (ok : BlkOk X.N X.env.scope scope own)
    (hg : ∀ (s : Shared) (H : Hp) (C : Addr) (cl : List (Str × Addr)) (fp : List Addr), PG (X.blk s H scope (compEnvC scope cl C X.env) fp) tg g) (ht : ∀ (s : Shared) (H : Hp) (C : Addr) (cl : List (Str × Addr)) (fp : List Addr), PTs (X.blk s H scope (compEnvC scope cl C X.env) fp) ifs tt)
    (he : ∀ (s : Shared) (H : Hp) (C : Addr) (cl : List (Str × Addr)) (fp : List Addr), PE (X.blk s H scope (compEnvC scope cl C X.env) fp) elt te) (hs : ∀ x, foldedSetIterable iter X.env x = pure x := by intro _; rfl) :
    PE X (.ListComp elt [⟨tg, iter, ifs, 0⟩] scope pos) (tLc wi g tt te (own.map (·.2))) := by
  intro pins s σ H Q I h
  rw [eval_ListComp]
  refine lc_core hc hN I hi ok hg ht he hs h fun D C s' m H' I' q hn f => ⟨m, hn, fun h'' sb => ?_⟩
  obtain ⟨f0, f1, f2, f3, f4, f5⟩ := f
  exact ⟨.ref D, H', I'.turned (t' := s'.toks) (fun b o hb e => (sb.2 b hb).trans e) f0 f1 f3 f4 f5, rfl, q⟩
end

/-! ### the forms one uses -/
/-- over a range: Pv by the turn and the heap (the new list at D within) -/
theorem lc_range {lo : Int} {n : Nat} {g : TG} {tt : TT} {te : TE} {vs : List Nat} {σ : St} {H1 : Hp} {D : Addr} {Qd : Hp → Prop} (Pv : Nat → Hp → Prop) (h0 : Pv 0 (upd H1 D (.lst [])))
    (hs : ∀ i H, i < n → Pv i H → g (.int (lo + i)) (wipe σ vs) H fun σ2 H2 => wipe σ2 vs = wipe σ vs ∧ tt σ2 H2 fun b H3 =>
      if b = true then te σ2 H3 fun y H4 => ∃ acc, H4 D = some (.lst acc) ∧ acc.length < sizeLine ∧ Pv (i + 1) (upd H4 D (.lst (acc ++ [y]))) else Pv (i + 1) H3) (hd : ∀ H, Pv n H → Qd H) :
    ∃ W : Nat → Nat → Hp → Prop, (∃ m, W 0 m (upd H1 D (.lst []))) ∧ ∀ i m H, W i m H →
      ((Itr lo n).stop i H ∧ Qd H) ∨ ((Itr lo n).go i H ∧ ∃ Nx : Hp → Prop, (∀ H', Nx H' → ∃ m', m' < m ∧ W (i + 1) m' H') ∧ ∀ x H', (Itr lo n).yld i H x H' → g x (wipe σ vs) H' fun σ2 H2 => wipe σ2 vs = wipe σ vs ∧ tt σ2 H2 fun b H3 =>
        if b = true then te σ2 H3 fun y H4 => ∃ acc, H4 D = some (.lst acc) ∧ acc.length < sizeLine ∧ Nx (upd H4 D (.lst (acc ++ [y]))) else Nx H3) := by
  refine ⟨fun i m H => m = n - i ∧ i ≤ n ∧ Pv i H, ⟨n, by simp, Nat.zero_le _, h0⟩, ?_⟩
  rintro i m H ⟨rfl, hi, p⟩
  by_cases hlt : i < n
  · refine .inr ⟨hlt, Pv (i + 1), fun H' p' => ⟨n - (i + 1), by omega, rfl, hlt, p'⟩, fun x H' y => ?_⟩
    obtain ⟨e, y⟩ := y
    subst e y
    exact hs i _ hlt p
  · have e : i = n := by omega
    subst e
    exact .inl ⟨Nat.le_refl _, hd H p⟩
/-- over a list that the block leaves as it is -/
theorem lc_list {K : PySem.W.Frag} {a : Addr} {xs : List V} {g : TG} {tt : TT} {te : TE} {vs : List Nat} {σ : St} {H1 : Hp} {D : Addr} {Qd : Hp → Prop} (Pv : Nat → Hp → Prop) (h0 : Pv 0 (upd H1 D (.lst []))) (hl : ∀ i H, i ≤ xs.length → Pv i H → SqL K H a xs)
    (hs : ∀ i x H, xs[i]? = some x → Pv i H → g x (wipe σ vs) H fun σ2 H2 => wipe σ2 vs = wipe σ vs ∧ tt σ2 H2 fun b H3 =>
      if b = true then te σ2 H3 fun y H4 => ∃ acc, H4 D = some (.lst acc) ∧ acc.length < sizeLine ∧ Pv (i + 1) (upd H4 D (.lst (acc ++ [y]))) else Pv (i + 1) H3) (hd : ∀ H, Pv xs.length H → Qd H) :
    ∃ W : Nat → Nat → Hp → Prop, (∃ m, W 0 m (upd H1 D (.lst []))) ∧ ∀ i m H, W i m H →
      ((Itl K a).stop i H ∧ Qd H) ∨ ((Itl K a).go i H ∧ ∃ Nx : Hp → Prop, (∀ H', Nx H' → ∃ m', m' < m ∧ W (i + 1) m' H') ∧ ∀ x H', (Itl K a).yld i H x H' → g x (wipe σ vs) H' fun σ2 H2 => wipe σ2 vs = wipe σ vs ∧ tt σ2 H2 fun b H3 =>
        if b = true then te σ2 H3 fun y H4 => ∃ acc, H4 D = some (.lst acc) ∧ acc.length < sizeLine ∧ Nx (upd H4 D (.lst (acc ++ [y]))) else Nx H3) := by
  refine ⟨fun i m H => m = xs.length - i ∧ i ≤ xs.length ∧ Pv i H, ⟨xs.length, by simp, Nat.zero_le _, h0⟩, ?_⟩
  rintro i m H ⟨rfl, hi, p⟩
  have q := hl i H hi p
  by_cases hlt : i < xs.length
  · refine .inr ⟨⟨xs, xs[i], q, by simp [hlt]⟩, Pv (i + 1), fun H' p' => ⟨xs.length - (i + 1), by omega, rfl, hlt, p'⟩, fun x H' y => ?_⟩
    obtain ⟨e, y⟩ := y
    subst e
    exact hs i x _ (y xs q) p
  · have e : i = xs.length := by omega
    subst e
    exact .inl ⟨⟨xs, q, Nat.le_refl _⟩, hd H p⟩
def blkC (N : List Str) (sc scope : Scope) (own : List (Str × Nat)) : Bool :=
  (match scope.kind with | .function => true | _ => false) && (scope.names.all fun y => decide (scope.names.lookup y.1 = some y.2)) && (own.all fun p => decide (N[p.2]? = some p.1)) &&
    (scope.names.all fun y => match y.2 with
      | .free => (match sc.names.lookup y.1 with | some .cell => true | some .free => true | _ => false)
      | .local => decide (y.1 ∈ own.map (·.1)) || decide (y.1 ∉ N)
      | .cell => decide (y.1 ∈ own.map (·.1)) || decide (y.1 ∉ N)
      | _ => true)
theorem blkOk_by {N : List Str} {sc scope : Scope} {own : List (Str × Nat)} (h : blkC N sc scope own = true) : BlkOk N sc scope own := by
  unfold blkC at h
  simp only [Bool.and_eq_true, List.all_eq_true, decide_eq_true_eq] at h
  obtain ⟨⟨⟨h1, h2⟩, h3⟩, h4⟩ := h
  refine ⟨?_, h2, h3, fun y hy e => ?_, fun y hy e => ?_⟩
  · split at h1
    · assumption
    · cases h1
  · have q := h4 y hy
    simp only [e] at q
    split at q <;> first | exact .inl (by assumption) | exact .inr (by assumption) | cases q
  · have q := h4 y hy
    rcases e with e | e <;> (simp only [e, Bool.or_eq_true, decide_eq_true_eq] at q; exact q)
end L2

namespace L2
open PySem PySem.Spec PyProof.Rows

section
variable {prog : Program} {w : World} {A : Around} {R : Result → Shared → Prop} {s : Shared} {elt t0 i0 t1 i1 : Expr} {ifs0 ifs1 : List Expr} {scope : Scope} {pos : Pos} {it acc : Value} {env : Env}
end

section
variable {X : Cx}
end
end L2

namespace L2
open PySem PySem.Spec PyProof.Rows

/-! ### lists of pairs as tables -/
section
variable {κ : Type} [DecidableEq κ]
def valV (kvs : List (κ × V)) (k : κ) : Option V := (kvs.find? fun kv => decide (kv.1 = k)).map (·.2)
/-- in its place, or at the end -/
def putK (kvs : List (κ × V)) (k : κ) (v : V) : List (κ × V) :=
  if (kvs.any fun kv => decide (kv.1 = k)) = true then kvs.map (fun kv => if kv.1 = k then (kv.1, v) else kv) else kvs ++ [(k, v)]
def dropK (kvs : List (κ × V)) (k : κ) : List (κ × V) := kvs.filter fun kv => decide (kv.1 ≠ k)

theorem RelO.getD {o : Option V} {u : Option Value} {d : V} {d' : Value} (r : RelO o u) (rd : RelV d d') : RelV (o.getD d) (u.getD d') := by
  cases o with
  | none => cases u with
    | none => exact rd
    | some _ => exact (show False from r).elim
  | some _ => cases u with
    | none => exact (show False from r).elim
    | some _ => exact r

theorem KV.any {kvs : List (κ × V)} {vs : List (κ × Value)} (r : KV kvs vs) (k : κ) : (kvs.any fun kv => decide (kv.1 = k)) = vs.any fun kv => decide (kv.1 = k) := by
  unfold KV at r
  induction r with
  | nil => rfl
  | cons h t ih => rw [List.any_cons, List.any_cons, ih, h.1]
theorem KV.drop {kvs : List (κ × V)} {vs : List (κ × Value)} (r : KV kvs vs) (k : κ) : KV (dropK kvs k) (without vs k) := by
  unfold KV at r ⊢
  unfold dropK without
  induction r with
  | nil => exact .nil
  | @cons p q ps qs h t ih =>
    obtain ⟨h1, h2⟩ := h
    rw [List.filter_cons, List.filter_cons]
    by_cases e : p.1 = k
    · have a : ¬ decide (p.1 ≠ k) = true := by simp [e]
      have b : ¬ decide (q.1 ≠ k) = true := by simp [h1.symm.trans e]
      rw [if_neg a, if_neg b]; exact ih
    · have e' : ¬ q.1 = k := fun z => e (h1.trans z)
      have a : decide (p.1 ≠ k) = true := by simp [e]
      have b : decide (q.1 ≠ k) = true := by simp [e']
      rw [if_pos a, if_pos b]; exact .cons ⟨h1, h2⟩ ih
theorem KV.length {kvs : List (κ × V)} {vs : List (κ × Value)} (r : KV kvs vs) : kvs.length = vs.length := Paired.length r
end

/-- raw entries of a dict with tuple keys -/
abbrev KT (H : Hp) : List (List Key × V) → List (List Key × Addr × Value) → Prop := Paired fun p q => p.1 = q.1 ∧ H q.2.1 = some (.tup (p.1.map kV)) ∧ RelV p.2 q.2.2
theorem KT.keeps {H H' : Hp} {kvs : List (List Key × V)} {xs : List (List Key × Addr × Value)} (r : KT H kvs xs) (ht : ∀ b ys, H b = some (.tup ys) → H' b = some (.tup ys)) : KT H' kvs xs :=
  Paired.mapP r fun _ _ z => ⟨z.1, ht _ _ z.2.1, z.2.2⟩

section
variable {P : Program} {w : World} {H : Hp} {h : Heap} {a : Addr}
end

/-- what the dict at a holds at the key y -/
def DGet (H : Hp) (a : Addr) (y : V) (r : Option V) : Prop :=
  (∃ kvs k, Rd H a (.dK kvs) ∧ y = kV k ∧ r = valV kvs k) ∨ ∃ kvs k b, Rd H a (.dT kvs) ∧ y = .ref b ∧ H b = some (.tup (k.map kV)) ∧ r = valV kvs k
/-- the heap behind a[y] = v -/
def DPut (H : Hp) (a : Addr) (y v : V) (H' : Hp) : Prop :=
  (∃ kvs k, H a = some (.dK kvs) ∧ y = kV k ∧ kvs.length < sizeLine ∧ H' = upd H a (.dK (putK kvs k v))) ∨
  ∃ kvs k b, H a = some (.dT kvs) ∧ y = .ref b ∧ H b = some (.tup (k.map kV)) ∧ kvs.length < sizeLine ∧ H' = upd H a (.dT (putK kvs k v))
theorem DGet.k {H : Hp} {a : Addr} {kvs : List (Key × V)} {k : Key} (e : H a = some (.dK kvs)) : DGet H a (kV k) (valV kvs k) := .inl ⟨kvs, k, .inl e, rfl, rfl⟩
theorem DGet.t {H : Hp} {a b : Addr} {kvs : List (List Key × V)} {k : List Key} (e : H a = some (.dT kvs)) (eb : H b = some (.tup (k.map kV))) : DGet H a (.ref b) (valV kvs k) := .inr ⟨kvs, k, b, .inl e, rfl, eb, rfl⟩
theorem DPut.k {H : Hp} {a : Addr} {kvs : List (Key × V)} {k : Key} {v : V} (e : H a = some (.dK kvs)) (hl : kvs.length < sizeLine) : DPut H a (kV k) v (upd H a (.dK (putK kvs k v))) := .inl ⟨kvs, k, e, rfl, hl, rfl⟩
theorem DPut.t {H : Hp} {a b : Addr} {kvs : List (List Key × V)} {k : List Key} {v : V} (e : H a = some (.dT kvs)) (eb : H b = some (.tup (k.map kV))) (hl : kvs.length < sizeLine) :
    DPut H a (.ref b) v (upd H a (.dT (putK kvs k v))) := .inr ⟨kvs, k, b, e, rfl, eb, hl, rfl⟩

section
variable {X : Cx} {pins : List (Addr × Obj)} {σ : St} {H : Hp} {s : Shared} {a : Addr} {y v : V} {u r : Value} {o : Option V} {A : Around} {E : Value → Shared → Prop}

end

section
variable {X : Cx} {pins : List (Addr × Obj)} {σ : St} {H : Hp} {s : Shared} {a : Addr} {kvs : List (Key × V)} {k : Key} {u : Value} {A : Around} {E : Value → Shared → Prop}
end

/-! ### readings and rules -/
section
variable {X : Cx} {o i e value : Expr} {pos pos' tpos : Pos} {td ty tv : TE}
end

/-- {}, to be a dict of the kind that is wanted -/
def tDNewK : TE := fun _ H Q => ∀ p, H p = none → Q (.ref p) (upd H p (.dK []))
section
variable {X : Cx} {pos : Pos}
end

/-- the pairs of a display, from the left -/
def tPairs : List (TE × TE) → St → Hp → (List (V × V) → Hp → Prop) → Prop
  | [], _, H, Q => Q [] H
  | (tk, tv) :: r, σ, H, Q => tk σ H fun x H1 => tv σ H1 fun y H2 => tPairs r σ H2 fun ps H3 => Q ((x, y) :: ps) H3
def mergeK (kvs more : List (Key × V)) : List (Key × V) := more.foldl (fun acc kv => putK acc kv.1 kv.2) kvs
/-- {k: v, ..} with keys ints and texts; the new dict stands empty while the pairs are made -/
def tDisp (trs : List (TE × TE)) : TE := fun σ H Q => ∀ p, H p = none → tPairs trs σ (upd H p (.dK [])) fun ps H2 => H2 p = some (.dK []) ∧ ∃ kvs : List (Key × V), ps = kvs.map (fun kv => (kV kv.1, kv.2)) ∧ kvs.length ≤ 15 ∧ Q (.ref p) (upd H2 p (.dK (mergeK [] kvs)))
/-! ### methods -/
/-- a method call o.m(e) of a built-in, with one argument: what must be seen of the text -/
structure M1 (X : Cx) (o : Expr) (m : Str) (apos : Pos) (e : Expr) (cpos : Pos) : Prop where
  base : attributeBase o m X.env (eval o X.env) = eval o X.env
  few : ((backTo cpos (starEach [e] X.env)).all (fun x => !x.1) && (backToKw cpos (keywordEach [] X.env)).all (fun x => x.1.isSome)
    && decide (([e] : List Expr).length + ([] : List Keyword).length + (if ([] : List Keyword).isEmpty then 0 else 1) < 30)) = true
  line : (apos.endLine == cpos.line) = true
  trees : backTo cpos (starEach [e] X.env) = [(false, eval e X.env)]
section
variable {X : Cx} {pins : List (Addr × Obj)} {σ : St} {H : Hp} {s : Shared} {a : Addr} {y d : V} {u r : Value} {o : Option V} {A : Around} {E : Value → Shared → Prop}
end

section
variable {X : Cx} {o e f : Expr} {apos cpos : Pos} {td ty tx : TE}
end

/-! ### dict(d): a copy -/
section
variable {X : Cx} {pins : List (Addr × Obj)} {σ : St} {H : Hp} {s : Shared} {a : Addr} {kvs : List (Key × V)} {A : Around} {E : Value → Shared → Prop}
end

section
variable {X : Cx} {pins : List (Addr × Obj)} {σ : St} {H : Hp} {s : Shared} {a : Addr} {y : V} {u : Value} {A : Around} {E : Value → Shared → Prop}
end
end L2

namespace L2
open PySem PySem.Spec PyProof.Rows

section
variable {prog : Program} {w : World} {A : Around} {E : Value → Shared → Prop}
end

section
variable {X : Cx}
end
end L2

namespace L2
open PySem PySem.Spec PyProof.Rows

section
variable {X : Cx} {pins : List (Addr × Obj)} {σ : St} {H : Hp} {s : Shared} {h' : Heap}
/-- .. and one new object is laid -/
theorem Inv.turnedNew {t' : Nat} {ch : List Addr} {T : Addr} {ob : HO} (I : Inv X pins σ H s) (k : ∀ b o, b ∉ ch → s.heap.get? b = some o → h'.get? b = some o) (hf : ∀ b ∈ ch, FpOk X pins H b) (hT : s.heap.objs.size ≤ T)
    (new : ObjOk X.prog X.w (upd H T ob) h' T ob) : Inv X pins σ (upd H T ob) { s with heap := h', toks := t' } := by
  have hn : H T = none := I.hok.fresh hT
  have nit : ∀ b u, H b = some u → b ∉ ch := fun b u e z => by
    have q := (hf b z).1
    rw [q] at e; cases e
  refine I.step (g' := s.gens) (d' := s.drawn) (ch := ch) (fun b hb => ⟨(hf b hb).2.2.2.1, (hf b hb).2.1, (hf b hb).2.2.2.2.1, (hf b hb).2.2.2.2.2⟩) (fun b o _ _ hc e _ => k b o hc e) (fun b o _ _ hc e _ => ⟨o.slots, k b o hc e⟩)
    (fun b o _ e n => ?_) (fun b o hc e => ⟨o, k b o hc e⟩) (fun b xs e => ?_) (fun b o u e => ?_) (fun b ps e => ⟨#[], ?_⟩) (fun m hm => ?_) (fun b u e => ?_) I.bare
  · rw [upd_ne (Nat.ne_of_lt (Nat.lt_of_lt_of_le (Heap.lt_size e) hT))]; exact n
  · rw [upd_ne (ne_of_none e hn)]; exact e
  · rw [upd_ne (ne_of_none e hn)]; exact e
  · rw [upd_ne (ne_of_none e hn), e]; simp
  · obtain ⟨o, es, ep, ho, r⟩ := hm
    exact ⟨o, es, ep, k _ o (fun z => (hf _ z).2.1 rfl) ho, r⟩
  · by_cases hb : b = T
    · subst hb
      rw [upd_same] at e
      cases e
      exact new
    · rw [upd_ne hb] at e
      refine (I.hok b u e).stay (fun c v hc q => k c v ?_ q) (fun c q => by rw [upd_ne (ne_of_none q hn)]; exact q) fun c xs q => by rw [upd_ne (ne_of_none q hn)]; exact q
      rcases hc with z | z
      · rw [z]; exact nit b u e
      · exact nit c _ z

end
section
variable {X : Cx}
end

/-! ### range with a step -/
/-- range(i, j, c): small bounds, n items -/
def RgC (i j c : Int) (n : Nat) : Prop := c ≠ 0 ∧ c.natAbs < 1073741824 ∧ Builtin.Range.small i j c = true ∧ Builtin.Range.rangeSize i j c = n
theorem RgC.neg {i j : Int} (ha : -(2 ^ 62) ≤ i) (ha' : i < 2 ^ 62) (hb : -(2 ^ 62) ≤ j) (hb' : j < 2 ^ 62) : RgC i j (-1) (i - j).toNat :=
  ⟨by decide, by decide, PySem.W.small_down ha ha' hb hb', PySem.W.rangeSize_downNat i j⟩
section
variable {X : Cx} {tg : Expr}
end
/-! ### reversed(list) -/
section
variable {X : Cx} {tg : Expr}
end

/-! ### a dict's keys: any dict's entries -/
section
variable {prog : Program} {w : World} {A : Around} {E : Value → Shared → Prop} {s : Shared}
end

section
variable {X : Cx} {pins : List (Addr × Obj)} {σ : St} {H : Hp} {s : Shared} {d : Addr} {o : Obj}
end

section
variable {P : Program} {w : World} {K : PySem.W.Frag} {tg : Expr} {d : Addr} {o : Obj} {es : Array DictEntry} {ep : Nat}
end

/-! ### for k in d, d.keys(), d.values(), d.items() -/
section
variable {X : Cx} {tg e : Expr} {td : TE} {apos cpos : Pos}
end

/-! ### enumerate(list) -/
/-- the list at a as it stands at each turn, each item in a new pair -/
def Ite (K : PySem.W.Frag) (a : Addr) : It :=
  ⟨fun i H => ∃ (xs : List V) (x : V), SqL K H a xs ∧ xs[i]? = some x, fun i H v H' => ∃ T x, v = .ref T ∧ H T = none ∧ H' = upd H T (.tup [.int (i : Nat), x]) ∧ ∀ xs, SqL K H a xs → xs[i]? = some x, fun i H => ∃ xs : List V, SqL K H a xs ∧ xs.length ≤ i⟩
theorem turn_enum {P : Program} {w : World} {K : PySem.W.Frag} {elts : List Expr} {kk : Nat} {tpos : Pos} (a e it : Addr) :
    Turn P w K (.Tuple elts kk tpos) (Ite K a) [e, it] e (fun i h => (∃ old, IsEnum h e it ((i : Nat) : Int) old) ∧ h.IsListIter it a i ∧ e ≠ it) where
  mem := by simp
  obj := fun i h st b hb => by
    obtain ⟨⟨old, he⟩, ⟨o, ho, hc, hd⟩, _⟩ := st
    have e' : b = e ∨ b = it := by simpa using hb
    rcases e' with z | z
    · rw [z]; exact ⟨_, he, fun v q => nomatch q⟩
    · rw [z]; exact ⟨o, ho, fun v q => by rw [hd] at q; cases q⟩
  keep := fun i h h' st k => let ⟨⟨old, he⟩, hi, hne⟩ := st; ⟨⟨old, k e (by simp) _ he⟩, hi.at fun o q => k it (by simp) o q, hne⟩
  item := by
    intro X hP hw hK hc i pins s σ H E I hf st hg
    subst hP hw hK
    obtain ⟨⟨old, he⟩, hit, hne⟩ := st
    obtain ⟨xs, x, hq, hx⟩ := hg
    obtain ⟨its, rv, p, hz⟩ := I.list hq
    obtain ⟨u, hu, ru⟩ := rv.get hx
    have hel : e < s.heap.objs.size := Heap.lt_size he
    have hil : it < s.heap.objs.size := by obtain ⟨_, q, _⟩ := hit; exact Heap.lt_size q
    refine wpAny_pyNext_enum_item he hit p.isList (x := u) (by simpa using hu) hne fun h' ho hit' hT hsz hk => ?_
    refine ⟨_, rfl, wpAny_letOwnedTupleGo_enum (s := { s with heap := h', toks := s.toks + 1 }) ho fun h'' he' sb => ?_⟩
    have hT2 : h''.get? s.heap.objs.size = some { cls := .type "tuple", data := .seq #[.int i s.toks, u] } := (sb.2 _ (Nat.ne_of_gt hel)).trans hT
    have new : ObjOk X.prog X.w (upd H s.heap.objs.size (.tup [.int (i : Nat), x])) h'' s.heap.objs.size (.tup [.int (i : Nat), x]) :=
      ⟨⟨by show 2 ≤ sizeLine; decide, _, hT2, rfl⟩, [.int i s.toks, u], .cons ⟨_, rfl⟩ (.cons ru .nil), ⟨_, hT2, rfl, _, rfl⟩⟩
    have I1 : Inv X pins σ (upd H s.heap.objs.size (.tup [.int (i : Nat), x])) { s with heap := h'', toks := s.toks + 1 } :=
      I.turnedNew (ch := [e, it]) (fun b ob hb q => (sb.2 b (fun z => hb (by simp [z]))).trans (hk b ob (fun z => hb (by simp [z])) (fun z => hb (by simp [z])) q)) hf (Nat.le_refl _) new
    refine ⟨.ref s.heap.objs.size, _, I1, rfl, ⟨_, x, rfl, I.hok.fresh (Nat.le_refl _), rfl, fun ys hy => by rw [I.list_inj hy hq]; exact hx⟩, ⟨⟨u, ?_⟩, hit'.at fun o q => (sb.2 it (Ne.symm hne)).trans q, hne⟩, fun b hb => ?_⟩
    · have e1 : ((i + 1 : Nat) : Int) = (i : Int) + 1 := by omega
      rw [e1]; exact he'
    · have hb' : b < s.heap.objs.size := by
        have e' : b = e ∨ b = it := by simpa using hb
        rcases e' with z | z
        · rw [z]; exact hel
        · rw [z]; exact hil
      rw [upd_ne (Nat.ne_of_lt hb')]
      exact (hf b hb).1
  done := by
    intro X hP hw hK hc i pins s σ H E I hf st hg
    subst hP hw hK
    obtain ⟨⟨old, he⟩, hit, hne⟩ := st
    obtain ⟨xs, hq, hx⟩ := hg
    obtain ⟨its, rv, p, hz⟩ := I.list hq
    obtain ⟨f0, f1, f2, f3, f4, f5⟩ := hf it (by simp)
    have hl := rv.length
    exact wpAny_pyNext_enum_end (I.ok.hd hc) he hit p.isList (by simp; omega) fun h' eb => ⟨rfl, I.turned (t' := s.toks) (fun b o hb q => eb b o hb q) f0 f1 f3 f4 f5⟩
  self := fun A i s Q E st h => let ⟨⟨_, he⟩, _⟩ := st; wpAny_pyIter_enum he h
def iEnum (K : PySem.W.Frag) (ta : TA) : TI := fun σ H R => ta σ H fun vs H1 => ∃ a xs, vs = [.ref a] ∧ SqL K H1 a xs ∧ R (Ite K a) H1
theorem pi_enum {X : Cx} {e : Expr} {ta : TA} {p pos tpos : Pos} {elts : List Expr} {kk : Nat} (hg : Gl X "enumerate") (hm : X.mg "enumerate" = none) (ha : PA X [e] ta) (hs : starEach [e] X.env = [(false, eval e X.env)] := by rfl) :
    PI X (.Tuple elts kk tpos) (.Call (.Name "enumerate" p) [e] [] pos) (iEnum X.K ta) := by
  intro pins s σ H R I h
  refine Call_ (ld_blt I hg hm boot_enumerate (PyProof.Rows.callWith_type1 (thn (ha pos pins s σ H _ I h) fun us s1 ⟨vs, H1, I1, r1, q1⟩ => ?_) hs rfl))
  obtain ⟨a, xs, ex, hq, q⟩ := q1
  subst ex
  cases r1 with
  | cons r rr =>
    cases rr
    cases r
    obtain ⟨its, rv, p', hz⟩ := I1.list hq
    refine call_enumerate_list p'.isList fun h' he hit hsz hk => wpAny_pyIter_enum he ?_
    have I2 : Inv X pins σ H1 { s1 with heap := h' } := I1.kept (t' := s1.toks) hk
    refine ⟨s1.heap.objs.size + 1, [s1.heap.objs.size + 1, s1.heap.objs.size], _, _, H1, rfl, I2, turn_enum a (s1.heap.objs.size + 1) s1.heap.objs.size, ⟨⟨.none, he⟩, hit, Nat.succ_ne_self _⟩, fun b hb => ?_, q⟩
    have e' : b = s1.heap.objs.size + 1 ∨ b = s1.heap.objs.size := by simpa using hb
    have hle : s1.heap.objs.size ≤ b := by
      rcases e' with z | z
      · rw [z]; exact Nat.le_add_right _ _
      · rw [z]; exact Nat.le_refl _
    exact I1.fpOk hle (I1.hok.fresh hle)
end L2

section 
namespace Bits
open PySem PyProof.Rows

end Bits
end 

section 
namespace TL
open PySem PySem.Builtin PySem.Builtin.Str PySem.StrLaws

abbrev tl (x : Str) : List Nat := x.cps.toList
/-! ### the list functions -/
/-- S stands at the head of l -/
def pre (S l : List Nat) : Bool := l.take S.length == S
/-- what stands before the first S, and behind it -/
def par (S : List Nat) : List Nat → List Nat → Option (List Nat × List Nat)
  | _, [] => none
  | acc, c :: r => if pre S (c :: r) = true then some (acc, (c :: r).drop S.length) else par S (acc ++ [c]) r

/-! ### computing spl and par -/
/-! ### digits -/
end TL
end 

namespace L2
open PySem PySem.Spec PyProof.Rows

section
variable {X : Cx} {pins : List (Addr × Obj)} {σ : St} {H : Hp} {s : Shared} {Q : VK}
end

section
variable {X : Cx}

end

section
variable {X : Cx} {o e : Expr} {to te : TE}
end
end L2

namespace L2
open PySem PySem.Spec PyProof.Rows

section
variable {X : Cx}
end

end L2

namespace Att
open PySem PySem.W PySem.Calls PyProof.Rows

/-! ### the script -/
theorem ints_of_wellAll {P : Params} {h : Heap} : ∀ (ns : List Int) (vs : List Value), WellAll P h vs (ns.map WData.int) → IntsAre vs ns := by
  intro ns
  induction ns with
  | nil =>
    intro vs w
    rw [List.map_nil] at w
    cases w
    exact .nil
  | cons n ns ih =>
    intro vs w
    rw [List.map_cons] at w
    cases w with
    | cons a b =>
      cases a
      exact .cons _ _ (ih _ b)

theorem script_of {l : OpenLaw} {n : Nat} (hn : l.most = some n) {P : Params} {h : Heap} {args : List WData} {vals : List Value}
    (hpre : l.row.toRowW.claim.pre args = true) (hwl : WellAll P h vals args) :
    ∃ a vs ns, vals = [Value.ref a] ∧ args = [WData.list (ns.map WData.int)] ∧ h.get? a = some { cls := .type "list", data := .seq vs.toArray } ∧ IntsAre vs ns ∧ ns.length ≤ n := by
  have hsh : WShape.hasAll [] args [.list .int] = true := (pre_splitW hpre).1
  have hc : l.pre.holds [] { args := args } = true := (pre_splitW hpre).2
  obtain ⟨d, r, rfl, h1, h2⟩ := hasAllW_cons hsh
  obtain rfl := hasAllW_nil h2
  obtain ⟨xs, rfl, h3⟩ := hasW_list h1
  obtain ⟨ns, rfl⟩ := items_int h3
  have hlen : ns.length ≤ n := by
    unfold OpenLaw.pre at hc
    have h4 : (WTm.not (.lt (.lit (.int (n : Int))) (.len (.arg 0)))).holds [] { args := [.list (ns.map .int)] } = true := by
      have h4 := (holds_andW hc).1
      rw [hn] at h4
      exact h4
    have h5 := condW_of h4 (w_not (w_lt w_lit (w_len_list (w_arg rfl))))
    rw [List.length_map] at h5
    refine Nat.le_of_not_lt fun q => ?_
    have q' : (n : Int) < ((ns.length : Nat) : Int) := by omega
    first
      | (rw [decide_eq_true q'] at h5; exact absurd h5 (by decide))
      | (simp at h5; omega)
  cases hwl with
  | cons w1 w2 =>
    cases w2
    cases w1 with
    | list ho hall => exact ⟨_, _, ns, rfl, rfl, ho, ints_of_wellAll ns _ hall, hlen⟩

theorem post_true (l : OpenLaw) (args : List WData) : l.row.toRowW.claim.post args (.bool true) args = true :=
  postW_of (r := l.row.toRowW) (X := (true == true))
    (show WShape.has [] (.bool true) .bool = true by first | rfl | decide | simp [WShape.has, WShape.arms, WShape.armsAll])
    (show (WTm.eq .res (.lit (.bool true))).value [] { args := args, res := some (.bool true), after := args } = some (.bool (true == true)) from w_eq_bool (w_res rfl) w_lit) rfl

/-- the same from a codeAny of the CALL (for a layer whose function contracts speak of calls) -/
theorem attach_call {l : OpenLaw} {n : Nat} {q : Program} {loose : List Str} {XP : (Str → Option Value) → Heap → Prop} {YP : World → Heap → Prop} {d : DefRec}
    (hn : l.most = some n) (hdf : d.params.defaults = [])
    (call : ∀ (w : World) (s₀ s₁ : Shared) (mg mb : Str → Option Value) (fa : Addr) (o : Obj) (pm cd doc : Value) (a : Addr) (vs : List Value) (ns : List Int),
      Ground q loose [] XP w s₀ mg mb s₁.heap → YP w s₁.heap →
      s₁.heap.get? fa = some o → o.data = .func (docDef d.name d.params d.body d.scope pm cd doc) → s₁.heap.CodeRec cd d.name → mg d.name = some (.ref fa) →
      s₁.heap.get? a = some { cls := .type "list", data := .seq vs.toArray } → IntsAre vs ns → ns.length ≤ n → s₁.gens = #[] →
      codeAny (model l.prog w) callerA (.call (.ref fa) ⟨[.ref a], []⟩) (fun r s' => r = .ok (.ret (.bool true)) ∧ OldK s₁.heap s'.heap ∧ s'.os = s₁.os ∧ AllBare s'.gens) s₁) :
    WalkO q loose XP YP l.row.toRowW d [] (fun f vs => PySem.call f vs) := by
  intro w s₀ s₁ mg mb G Y fa o pm cd doc dV kV ho hd hcd hD hmg hg args vals as hpre hlay hrd hwl hlo
  obtain rfl : dV = .none := Dflts.none hD hdf
  obtain rfl : kV = .none := Dflts.noKw hD
  obtain ⟨a, vs, ns, rfl, rfl, hobj, hints, hlen⟩ := script_of hn hpre hwl
  refine enter_call (codeAny_mono (call w s₀ s₁ mg mb fa o pm cd doc a vs ns G Y ho (fd_plain hd) hcd hmg hobj hints hlen hg) fun r s' hq => ?_)
  obtain ⟨rfl, h2, h3, h4⟩ := hq
  exact ⟨.inl ⟨.bool true, .bool true, [], rfl, fun _ => rfl, .bool true, post_true l _, fun _ => ⟨List.Pairwise.nil, fun _ hm => (nomatch hm)⟩⟩, h2, h3, h4⟩

/-! ### rules over ANY heap (no ledger) from facts about the written part K: the library's own take a ledger (News) for what they write -/
section
variable {prog : Program} {w : World} {A : Around} {E : Value → Shared → Prop} {s : Shared} {K : Frag}

end
end Att

namespace L2
open PySem PySem.Spec PyProof.Rows

theorem vals_ints : ∀ {vs : List Value} {ns : List Int}, IntsAre vs ns → Vals (ns.map V.int) vs
  | _, _, .nil => .nil
  | _, _, .cons n t h => .cons ⟨t, rfl⟩ (vals_ints h)

/-- nothing is tracked but the script, known to the object (or it is an object of the module) -/
def Only (H : Hp) : Prop := ∀ b, H b = none ∨ ∃ o xs, H b = some (.frz o (.lst xs))

/-- THE HEAD: the law's promise, at the heap behind the top. F, the promise of the law's def, may use that base is part of the heap (so K.In base, base.Ns mainGlobals mg stand in Mod) -/
theorem law_call {P : Program} {w : World} {K : PySem.W.Frag} {mg mb : Str → Option Value} {CX : CXT} {k : Nat} {fa a : Addr} {fd : FuncData} {x : Str} {sp : Sp} {s₁ : Shared} {vs : List Value} {ns : List Int}
    (KX : K.In s₁.heap) (hns : s₁.heap.Ns mainGlobals mg) (hb : s₁.heap.Ns builtinsNs mb) (hbb : ∀ x : Str, x ≠ "__name__" → mb x = bootBuiltins x) (hlim : s₁.heap.NoLimit) (hg : s₁.gens = #[])
    (ha : s₁.heap.get? a = some { cls := .type "list", data := .seq vs.toArray }) (hi : IntsAre vs ns) (hl : ns.length ≤ sizeLine) (hr : Room k callerA)
    (F : ∀ base : Heap, K.In base → base.Ns mainGlobals mg → FnOk P w K mg base CX k fa fd [x] sp) (hbind : ∀ (s : Shared) (u : Value), BindsTo s fd ⟨[u], []⟩ [(x, u)])
    (hsp : ∀ H : Hp, Only H → SqL K H a (ns.map V.int) → sp [.ref a] H (fun v _ => v = .bl true) fun _ _ _ => False)
    (hCX : ∀ H e s', CX [] H s₁ (fun _ _ _ => False) e s' → False) :
    codeAny (model P w) callerA (.call (.ref fa) ⟨[.ref a], []⟩) (fun r s' => r = .ok (.ret (.bool true)) ∧ OldK s₁.heap s'.heap ∧ s'.os = s₁.os ∧ AllBare s'.gens) s₁ := by
  have rv := vals_ints hi
  have lenV := hi.length
  -- from an abstract heap in which nothing but the script may be tracked
  have core : ∀ H : Hp, Only H → SqL K H a (ns.map V.int) → HOk P w H s₁.heap → (∀ b, H b ≠ none → b = a) → (H a ≠ none → K.lookup a = none) →
      codeAny (model P w) callerA (.call (.ref fa) ⟨[.ref a], []⟩) (fun r s' => r = .ok (.ret (.bool true)) ∧ OldK s₁.heap s'.heap ∧ s'.os = s₁.os ∧ AllBare s'.gens) s₁ := by
    intro H hO hS hok hA hK
    have base_of : ∀ {b : Addr} {o : Obj}, s₁.heap.get? b = some o → H b = none → (hidT s₁.heap H).get? b = some o := fun e n => hidT_get e n
    have noA : ∀ {b : Addr} {o : Obj} {es : Array DictEntry} {ep : Nat}, s₁.heap.get? b = some o → o.data = .dict es ep → H b = none := fun {b o es ep} e d => by
      cases q : H b with
      | none => rfl
      | some u =>
        have e' : b = a := hA b (by rw [q]; simp)
        subst e'
        rw [ha] at e; cases e
        have d' : Data.seq vs.toArray _ = Data.dict es ep := d
        cases d'
    have nsK : ∀ {b : Addr} {m : Str → Option Value}, s₁.heap.Ns b m → (hidT s₁.heap H).Ns b m := fun {b m} ⟨o, es, ep, e, d, r⟩ => ⟨o, es, ep, base_of e (noA e d), d, r⟩
    have hKb : K.In (hidT s₁.heap H) := fun b o e => base_of (KX b o e) (by
      cases q : H b with
      | none => rfl
      | some u =>
        have e' : b = a := hA b (by rw [q]; simp)
        subst e'
        rw [hK (by rw [q]; simp)] at e; cases e)
    have hM : Mod K mg (hidT s₁.heap H) := ⟨hKb, nsK hns, ⟨mb, nsK hb, hbb⟩, let ⟨mc, h1, h2⟩ := hlim; ⟨mc, nsK h1, h2⟩⟩
    have e0 : Env0 P w K mg (hidT s₁.heap H) callerA [] s₁ H := ⟨rfl, hM, fun b o e => of_hidT e, Nat.le_of_eq (hidT_size _ _), trivial, fun b hb => absurd (show b ∈ ([] : List Addr) from hb) (by simp), hok, .of_eq hg⟩
    refine codeAny_mono ((F _ hKb (nsK hns)).run callerA [] s₁ H ⟨[.ref a], []⟩ [.ref a] [.ref a] _ _ hr e0 (hbind s₁ (.ref a)) (.cons rfl .nil) (hsp H hO hS)) fun r s' h => ?_
    cases r with
    | error e => exact (hCX H e s' h).elim
    | ok fl =>
      cases fl with
      | next => exact False.elim h
      | brk => exact False.elim h
      | cont => exact False.elim h
      | ret u =>
        obtain ⟨v, H', os, bare, un, hok', r', q⟩ := h
        have q' : v = .bl true := q
        subst q'
        obtain rfl : u = Value.bool true := r'
        refine ⟨rfl, OldK.of_keep fun b o e => ?_, os, bare⟩
        cases q : H b with
        | none => exact un.keep b o e q (by intro z; exact absurd (show b ∈ ([] : List Addr) from z) (by simp)) (by simp)
        | some u =>
          rcases hO b with z | ⟨ob, xs, z⟩
          · rw [q] at z; cases z
          · have z2 := un.frzs b ob _ z
            obtain ⟨e1, _⟩ := hok b _ z
            obtain ⟨e2, _⟩ := hok' b _ z2
            rw [e] at e1; cases e1
            exact e2
  cases hk : K.lookup a with
  | some o =>
    -- the script is one of the module's own objects
    have e := KX a o hk
    rw [ha] at e
    cases e
    refine core (fun _ => none) (fun _ => .inl rfl) (.inr ⟨_, vs.toArray, _, hk, rfl, rfl, rfl, by rw [List.size_toArray, lenV]; exact hl, by simpa using rv⟩) (fun b u z => by have z' : (none : Option HO) = some u := z; cases z') (fun b z => absurd rfl z) fun z => absurd rfl z
  | none =>
    refine core (fun b => if b = a then some (.frz { cls := .type "list", data := .seq vs.toArray } (.lst (ns.map V.int))) else none) (fun b => ?_) (.inl (.inr ⟨{ cls := .type "list", data := .seq vs.toArray }, if_pos rfl⟩)) (fun b u z => ?_) (fun b z => ?_) fun _ => hk
    · by_cases hb : b = a
      · exact .inr ⟨_, _, if_pos hb⟩
      · exact .inl (if_neg hb)
    · by_cases hb : b = a
      · have z' := (if_pos hb).symm.trans z
        cases z'
        subst hb
        exact ⟨ha, by rw [List.length_map]; exact hl, vs, _, rv, ha⟩
      · have z' := (if_neg hb).symm.trans z
        cases z'
    · by_cases hb : b = a
      · exact hb
      · exact absurd (if_neg hb) z
end L2

namespace L2
open PySem PySem.Spec PyProof.Rows

/-- the goal that k_head leaves (case hc), from the law's promise. F gives the function object fd (K's own) once, then the promise over every base -/
theorem walk_of {l : PySem.W.OpenLaw} {n k : Nat} {q : Program} {loose : List Str} {XP : (Str → Option Value) → Heap → Prop} {YP : World → Heap → Prop} {d : DefRec} {K : Params → PySem.W.Frag} {CX : World → CXT} {sp : World → Sp} {x : Str}
    (hn : l.most = some n) (hn2 : n ≤ sizeLine) (hdf : d.params.defaults = []) (hr : Room k callerA)
    (hY : ∀ (w : World) (h : Heap), YP w h → (K w.params).In h)
    (F : ∀ (w : World) (mg : Str → Option Value) (fa : Addr) (h : Heap), (K w.params).In h → h.Ns mainGlobals mg → mg d.name = some (.ref fa) →
      ∃ fd : FuncData, (∀ (s : Shared) (u : Value), BindsTo s fd ⟨[u], []⟩ [(x, u)]) ∧
        ∀ base : Heap, (K w.params).In base → base.Ns mainGlobals mg → FnOk l.prog w (K w.params) mg base (CX w) k fa fd [x] (sp w))
    (hsp : ∀ (w : World) (H : Hp) (a : Addr) (ns : List Int), ns.length ≤ n → Only H → SqL (K w.params) H a (ns.map V.int) → sp w [.ref a] H (fun v _ => v = .bl true) fun _ _ _ => False)
    (hCX : ∀ (w : World) (H : Hp) (s : Shared) (e : Value) (s' : Shared), CX w [] H s (fun _ _ _ => False) e s' → False) :
    PySem.W.WalkO q loose XP YP l.row.toRowW d [] (fun f vs => PySem.call f vs) := by
  refine Att.attach_call hn hdf fun w s₀ s₁ mg mb fa o pm cd doc a vs ns G Y ho hd hcd hmg hobj hints hlen hg => ?_
  have KX := hY w _ Y
  obtain ⟨fd, hb, hF⟩ := F w mg fa _ KX G.T.g hmg
  exact law_call KX G.T.g G.T.b G.T.builtins G.T.nolimit hg hobj hints (Nat.le_trans hlen hn2) hr hF hb (fun H hO hS => hsp w H a ns hlen hO hS) fun H e s' => hCX w H s₁ e s'
end L2

/- THE LAST THEOREM (shape; LID, My.* are yours):
   My.Adr: a structure of the addresses that your layer names (classes, functions); My.Txt K t: a structure (Prop) of the equations over K;
   My.txt_mk : {K} {implicit addresses ..} (e1 : nsIn K mainGlobals "law" = some (some (.ref f))) (e2 : K.lookup f = some ⟨oc, od, .func (fnOf "law" "law" params body scope dV kV doc pm an cdv ct), sl⟩) (e3 : codeIn K cdv "law" = true) .. : ∃ t, My.Txt K t

set_option maxRecDepth 100000 in
set_option maxHeartbeats 0 in
theorem PySem.Challenge.cw_LID_holds : PySem.Challenge.rw_LID.Holds := by
  w_on; o_law; k_head; (case hw => w_witness2)
  k_fill
  refine L2.walk_of (l := PySem.Challenge.rw_LID) (n := 63) (k := 40) (x := "script") (CX := fun w => ..) (sp := fun _ => My.sp_law) rfl (by decide) rfl ⟨rfl, by decide, by decide⟩ (fun w h Y => PySem.W.kIn_of Y) ?F ?S ?C
  case F =>
    intro w mg fa h KX G hmg
    have T : ∃ t, My.Txt (L2.KOf KX) t := by
      dsimp only [L2.KOf]                          -- K must stand as «<heap const> w.params» for k_is
      refine' My.txt_mk ?e1 ?e2 ?e3 ..
      (case e1 => PySem.W.k_is)                    -- in the order: a name -> its address -> its object -> its parts
      (case e2 => PySem.W.k_is)
      ..
    obtain ⟨t, T⟩ := T
    have e0 := hmg.symm.trans (PySem.W.mg_of KX G T.law)
    cases e0                                       -- fa is the law's own address
    exact ⟨_, fun s u => .of_eq rfl, fun base kb nb => My.law_fn T kb nb⟩     -- if «.of_eq rfl» comes too early: refine' ⟨_, ?b, fun base kb nb => My.law_fn T kb nb⟩; exact fun s u => .of_eq rfl
  case S => exact fun w H a ns hl hO hS => ..
  case C => exact ..
(the tactic k_is has no namespace: write k_is) -/

/-! SHORT WORDS over the layer: a def of the text, its body, what a loop and a test want. -/
namespace L2
open PySem PySem.Spec PyProof.Rows

/-! ### the text by places -/
def defArgs (s : Stmt) : Arguments := match s with
  | .FunctionDef _ a _ _ _ _ _ _ _ _ => a
  | _ => { posonlyargs := [], args := [], vararg := none, kwonlyargs := [], kw_defaults := [], kwarg := none, defaults := [] }
def defBody (s : Stmt) : List Stmt := match s with
  | .FunctionDef _ _ b _ _ _ _ _ _ _ => b
  | _ => []
def defScope (s : Stmt) : Scope := match s with
  | .FunctionDef _ _ _ _ _ _ sc _ _ _ => sc
  | _ => { kind := .function, names := [], isGenerator := false, isCoroutine := false }

/-! ### no exception leaves a def -/
abbrev CX0 : CXT := fun _ _ _ _ _ _ => False
abbrev E0 : XK := fun _ _ _ => False
theorem pass0 {X : Cx} : Passes CX0 X E0 := fun _ _ _ _ _ _ _ h => h.elim

/-! ### a def (or method) of the text as it stands behind the top -/
structure Fun (K : PySem.W.Frag) (x qual : Str) (st : Stmt) (f : Addr) (fd : FuncData) : Prop where
  ex : ∃ (oc : Value) (od : Option Addr) (kV doc pm : Value) (an : Option Addr) (cdv ct : Value) (osl : Array (Option Value)),
    fd = PySem.W.fnOf x qual (defArgs st) (defBody st) (defScope st) .none kV doc pm an cdv ct ∧ K.lookup f = some ⟨oc, od, .func fd, osl⟩ ∧ PySem.W.codeIn K cdv qual = true
  kp : PySem.W.keepIn K (.ref f) = true
section
variable {P : Program} {w : World} {K : PySem.W.Frag} {mg : Str → Option Value} {base : Heap}
/-- THE RULE for a def: its body as a term of rules, and the reading of that term -/
theorem Fun.ok {x qual : Str} {st : Stmt} {f : Addr} {fd : FuncData} {N ps : List Str} {k : Nat} {sp : Sp} (F : Fun K x qual st f fd) (S : FnScope N ps (defScope st)) (len : ∀ vs H Q E, sp vs H Q E → vs.length = ps.length)
    (hbody : ∀ (cdv : Value) (A : Around) (outer : List Env) (s : Shared) (H : Hp) (vs : List V) (Q : VK) (E : XK), Room k (A.deeper (envOfC qual (defScope st) s.heap.objs.size f cdv)) → sp vs H Q E →
      ∃ t, PSs (cxOf CX0 P w K mg base N qual (defScope st) f cdv A outer s H E).nox (defBody st) t ∧ t { nx := fun _ H' => Q .non H', rt := Q } (start N vs) H) : FnOk P w K mg base CX0 (k + 1) f fd ps sp := by
  obtain ⟨oc, od, kV, doc, pm, an, cdv, ct, osl, rfl, lk, hcd⟩ := F.ex
  refine fn_of lk hcd S len fun A outer s H vs Q E hr hsp => ?_
  obtain ⟨t, h, q⟩ := hbody cdv A outer s H vs Q E hr hsp
  exact ⟨t, h.nox, q⟩
/-- how its arguments bind (no defaults): h is «fun _ _ _ _ _ _ us hl => match us, hl with | [_, _], _ => rfl», one _ a parameter -/
theorem Fun.binds {x qual : Str} {st : Stmt} {f : Addr} {fd : FuncData} {ps : List Str} (F : Fun K x qual st f fd)
    (h : ∀ (kV doc pm : Value) (an : Option Addr) (cdv ct : Value) (us : List Value), us.length = ps.length → bindArgs (PySem.W.fnOf x qual (defArgs st) (defBody st) (defScope st) .none kV doc pm an cdv ct) ⟨us, []⟩ = pure (ps.zip us)) : Binds K fd ps [] := by
  obtain ⟨oc, od, kV, doc, pm, an, cdv, ct, osl, rfl, lk, hcd⟩ := F.ex
  exact .all (h kV doc pm an cdv ct)
theorem fun_mk {x qual : Str} {st : Stmt} {f : Addr} {oc : Value} {od an : Option Addr} {osl : Array (Option Value)} {kV doc pm cdv ct : Value} (l : K.lookup f = some ⟨oc, od, .func (PySem.W.fnOf x qual (defArgs st) (defBody st) (defScope st) .none kV doc pm an cdv ct), osl⟩)
    (c : PySem.W.codeIn K cdv qual = true) (k : PySem.W.keepIn K (.ref f) = true) : Fun K x qual st f (PySem.W.fnOf x qual (defArgs st) (defBody st) (defScope st) .none kV doc pm an cdv ct) := ⟨⟨oc, od, kV, doc, pm, an, cdv, ct, osl, rfl, l, c⟩, k⟩
end
theorem small1000 {n : Nat} (h : n ≤ 1000) : n < sizeLine := Nat.lt_of_le_of_lt h (by decide)

/-! ### expressions in short: the name that stands in the i-th slot -/
section
variable {X : Cx}
end

/-! ### tests -/
theorem iteF {A B : Prop} (h : B) : if false = true then A else B := by
  rw [if_neg Bool.false_ne_true]
  exact h
theorem iteT {A B : Prop} (h : A) : if true = true then A else B := by
  rw [if_pos rfl]
  exact h
theorem ite2 {c A B : Prop} [Decidable c] (h1 : c → A) (h2 : ¬ c → B) : if c then A else B := by
  by_cases h : c
  · rw [if_pos h]
    exact h1 h
  · rw [if_neg h]
    exact h2 h
/-! ### heaps -/
/-- all that was tracked is as it was -/
def Same (H H' : Hp) : Prop := ∀ b o, H b = some o → H' b = some o
theorem Same.refl (H : Hp) : Same H H := fun _ _ h => h
theorem Same.trans {H H1 H2 : Hp} (a : Same H H1) (b : Same H1 H2) : Same H H2 := fun c o h => b c o (a c o h)
theorem Same.free {H H' : Hp} (e : Same H H') {l : Addr} (h : H' l = Option.none) : H l = Option.none := by
  cases q : H l with
  | none => rfl
  | some o =>
    rw [e l o q] at h
    cases h
theorem Same.seq {K : PySem.W.Frag} {H H' : Hp} {a : Addr} {xs : List V} (e : Same H H') (h : SqL K H a xs) : SqL K H' a xs := by
  rcases h with (h | ⟨o, h⟩) | h
  · exact .inl (.inl (e _ _ h))
  · exact .inl (.inr ⟨o, e _ _ h⟩)
  · exact .inr h

/-! ### a dict's pairs: keys that differ -/
section
variable {κ : Type} [DecidableEq κ]
end
end L2
section
set_option Elab.async false
set_option linter.all false
set_option maxRecDepth 100000
namespace L2
open PySem PySem.Spec PyProof.Rows
section
variable {X : Cx}
def CDivW (i j : Int) : Prop := 0 < j ∧ j < 2 ^ 200
theorem log2_w {j : Int} (h1 : 0 < j) (h2 : j < 2 ^ 200) : j.natAbs.log2 < 9000 := by
  have h3 : j.natAbs < 2 ^ 200 := by
    have e : ((j.natAbs : Nat) : Int) = j := Int.natAbs_of_nonneg (by omega)
    have h4 : ((j.natAbs : Nat) : Int) < ((2 ^ 200 : Nat) : Int) := by
      rw [e]
      exact h2
    exact Int.ofNat_lt.mp h4
  have h5 : j.natAbs ≠ 0 := by omega
  have h6 := (Nat.log2_lt h5).mpr h3
  omega
theorem op_fdivW : OpR X (binaryOp .FloorDiv) (rI CDivW fun i j => .int (i / j)) := opI fun i j _ _ _ _ _ hc q => by
  have h1 : (0 : Int) < j := hc.1
  exact floordiv_int (by omega) (by rw [Int.fdiv_eq_ediv_of_nonneg i (by omega)]; exact q) (.inl (PyProof.noPylong_of_log2 (log2_w hc.1 hc.2)))
/-- the name of the type of a value -/
def tyN (H : Hp) : V → Option String
  | .non => some "NoneType" | .bl _ => some "bool" | .int _ => some "int" | .str _ => some "str" | .flt _ => some "float"
  | .ref a => match H a with
    | some (.lst _) => some "list" | some (.frz _ (.lst _)) => some "list" | some (.tup _) => some "tuple" | some (.dK _) => some "dict" | some (.dT _) => some "dict"
    | _ => none
  | _ => none
theorem tyN_of {K : PySem.W.Frag} {H : Hp} {x : V} {T : String} (h : tyN H x = some T) : TyOf K H x (.type T) := by
  cases x with
  | non => cases h; exact .non
  | bl b => cases h; exact .bl b
  | int i => cases h; exact .int i
  | str x => cases h; exact .str x
  | flt x => cases h; exact .flt x
  | ref a =>
    simp only [tyN] at h
    cases e : H a with
    | none => rw [e] at h; cases h
    | some o =>
      rw [e] at h
      cases o with
      | lst xs => cases h; exact .lst e
      | tup xs => cases h; exact .tup e
      | dK xs => cases h; exact .dK e
      | dT xs => cases h; exact .dT e
      | frz ob u =>
        cases u with
        | lst xs => cases h; exact .frz e
        | _ => cases h
      | _ => cases h
  | byt b => cases h
  | ty n => cases h
/-- what isinstance says of two built-in types -/
def isSub (T C : String) : Option Bool := PySem.W.kitOne [] (.type T) (.type C)
def isSubA (T : String) (Cs : List String) : Option Bool := PySem.W.kitAny [] (.type T) (Cs.map Value.type)
theorem isSub_K {K : PySem.W.Frag} {T C : String} : PySem.W.kitOne K (.type T) (.type C) = isSub T C := rfl
theorem call_isi : CallR X (.builtin "isinstance") (fun xs H Q => ∃ x C T b, xs = [x, .ty C] ∧ tyN H x = some T ∧ isSub T C = some b ∧ Q (.bl b) H) := by
  intro pins s σ H xs us Q I r h
  obtain ⟨x, C, T, b, rfl, hT, hb, q⟩ := h
  cases r with
  | cons r1 r2 =>
    cases r2 with
    | cons r3 r4 =>
      cases r4
      cases r3
      exact isinst_ok I r1 (tyN_of hT) (isSub_K.trans hb) fun tk => ⟨.bl b, H, I.tok _, rfl, q⟩
end
theorem isSub_NoneType_int : isSub "NoneType" "int" = some false := by decide +kernel
theorem isSub_NoneType_bool : isSub "NoneType" "bool" = some false := by decide +kernel
theorem isSub_NoneType_str : isSub "NoneType" "str" = some false := by decide +kernel
theorem isSub_NoneType_list : isSub "NoneType" "list" = some false := by decide +kernel
theorem isSub_NoneType_tuple : isSub "NoneType" "tuple" = some false := by decide +kernel
theorem isSub_NoneType_dict : isSub "NoneType" "dict" = some false := by decide +kernel
theorem isSub_bool_int : isSub "bool" "int" = some true := by decide +kernel
theorem isSub_bool_bool : isSub "bool" "bool" = some true := by decide +kernel
theorem isSub_bool_str : isSub "bool" "str" = some false := by decide +kernel
theorem isSub_bool_list : isSub "bool" "list" = some false := by decide +kernel
theorem isSub_bool_tuple : isSub "bool" "tuple" = some false := by decide +kernel
theorem isSub_bool_dict : isSub "bool" "dict" = some false := by decide +kernel
theorem isSub_int_int : isSub "int" "int" = some true := by decide +kernel
theorem isSub_int_bool : isSub "int" "bool" = some false := by decide +kernel
theorem isSub_int_str : isSub "int" "str" = some false := by decide +kernel
theorem isSub_int_list : isSub "int" "list" = some false := by decide +kernel
theorem isSub_int_tuple : isSub "int" "tuple" = some false := by decide +kernel
theorem isSub_int_dict : isSub "int" "dict" = some false := by decide +kernel
theorem isSub_str_int : isSub "str" "int" = some false := by decide +kernel
theorem isSub_str_bool : isSub "str" "bool" = some false := by decide +kernel
theorem isSub_str_str : isSub "str" "str" = some true := by decide +kernel
theorem isSub_str_list : isSub "str" "list" = some false := by decide +kernel
theorem isSub_str_tuple : isSub "str" "tuple" = some false := by decide +kernel
theorem isSub_str_dict : isSub "str" "dict" = some false := by decide +kernel
theorem isSub_list_int : isSub "list" "int" = some false := by decide +kernel
theorem isSub_list_bool : isSub "list" "bool" = some false := by decide +kernel
theorem isSub_list_str : isSub "list" "str" = some false := by decide +kernel
theorem isSub_list_list : isSub "list" "list" = some true := by decide +kernel
theorem isSub_list_tuple : isSub "list" "tuple" = some false := by decide +kernel
theorem isSub_list_dict : isSub "list" "dict" = some false := by decide +kernel
theorem isSub_tuple_int : isSub "tuple" "int" = some false := by decide +kernel
theorem isSub_tuple_bool : isSub "tuple" "bool" = some false := by decide +kernel
theorem isSub_tuple_str : isSub "tuple" "str" = some false := by decide +kernel
theorem isSub_tuple_list : isSub "tuple" "list" = some false := by decide +kernel
theorem isSub_tuple_tuple : isSub "tuple" "tuple" = some true := by decide +kernel
theorem isSub_tuple_dict : isSub "tuple" "dict" = some false := by decide +kernel
theorem isSub_dict_int : isSub "dict" "int" = some false := by decide +kernel
theorem isSub_dict_bool : isSub "dict" "bool" = some false := by decide +kernel
theorem isSub_dict_str : isSub "dict" "str" = some false := by decide +kernel
theorem isSub_dict_list : isSub "dict" "list" = some false := by decide +kernel
theorem isSub_dict_tuple : isSub "dict" "tuple" = some false := by decide +kernel
theorem isSub_dict_dict : isSub "dict" "dict" = some true := by decide +kernel
theorem isSubA_NoneType : isSubA "NoneType" ["list", "tuple"] = some false := by decide +kernel
theorem isSubA_bool : isSubA "bool" ["list", "tuple"] = some false := by decide +kernel
theorem isSubA_int : isSubA "int" ["list", "tuple"] = some false := by decide +kernel
theorem isSubA_str : isSubA "str" ["list", "tuple"] = some false := by decide +kernel
theorem isSubA_list : isSubA "list" ["list", "tuple"] = some true := by decide +kernel
theorem isSubA_tuple : isSubA "tuple" ["list", "tuple"] = some true := by decide +kernel
theorem isSubA_dict : isSubA "dict" ["list", "tuple"] = some false := by decide +kernel
section
variable {X : Cx}
end
/-! ### own functions -/
/-- a def of the text that keeps its promise -/
def OwnOk (P : Program) (w : World) (K : PySem.W.Frag) (mg : Str → Option Value) (base : Heap) (k : Nat) (x : Str) (ps : List Str) (sp : Sp) : Prop :=
  ∃ f fd, FnOk P w K mg base CX0 k f fd ps sp ∧ mg x = some (.ref f) ∧ PySem.W.keepIn K (.ref f) = true ∧ Binds K fd ps []
/-- a def stands in the text -/
def Has (K : PySem.W.Frag) (mg : Str → Option Value) (x : Str) (st : Stmt) (ps : List Str) : Prop :=
  ∃ f fd, Fun K x x st f fd ∧ mg x = some (.ref f) ∧ Binds K fd ps []
section
variable {P : Program} {w : World} {K : PySem.W.Frag} {mg : Str → Option Value} {base : Heap} {j k : Nat} {x : Str} {ps : List Str} {sp : Sp}
theorem OwnOk.imp {sp' : Sp} (G : OwnOk P w K mg base k x ps sp) (h : ∀ vs H Q E, sp' vs H Q E → sp vs H Q E) : OwnOk P w K mg base k x ps sp' := by
  obtain ⟨f, fd, a, b⟩ := G
  exact ⟨f, fd, a.imp h, b⟩
theorem Has.ok {st : Stmt} {N : List Str} (T : Has K mg x st ps) (S : FnScope N ps (defScope st)) (len : ∀ vs H Q E, sp vs H Q E → vs.length = ps.length)
    (hbody : ∀ (f : Addr) (cdv : Value) (A : Around) (outer : List Env) (s : Shared) (H : Hp) (vs : List V) (Q : VK) (E : XK), Room k (A.deeper (envOfC x (defScope st) s.heap.objs.size f cdv)) → sp vs H Q E →
      ∃ t, PSs (cxOf CX0 P w K mg base N x (defScope st) f cdv A outer s H E).nox (defBody st) t ∧ t { nx := fun _ H' => Q .non H', rt := Q } (start N vs) H) : OwnOk P w K mg base (k + 1) x ps sp := by
  obtain ⟨f, fd, F, hm, hb⟩ := T
  exact ⟨f, fd, F.ok S len (fun cdv A outer s H vs Q E hr h => hbody f cdv A outer s H vs Q E hr h), hm, F.kp, hb⟩
end
section
variable {X : Cx} {j k : Nat} {x : Str} {ps : List Str} {sp : Sp} {e : Expr} {es : List Expr} {t : TA} {p pos : Pos}
theorem pe_own (G : OwnOk X.prog X.w X.K X.mg X.base j x ps sp) (hr : Room k X.A) (hg : Gl X x) (ha : PA X (e :: es) t) (hjk : j ≤ k := by decide)
    (hdb : (x == ("__debug__" : Str)) = false := by decide) (he : starEach (e :: es) X.env = (false, eval e X.env) :: starEach es X.env := by rfl) (hpl : (backTo pos (starEach es X.env)).any (·.1) = false := by rfl) :
    PE X (.Call (.Name x p) (e :: es) [] pos) (tCall sp [] E0 t) := by
  obtain ⟨f, fd, a, b, c, d⟩ := G
  exact pe_call a (hr.mono hjk) hg b c d .nil pass0 ha hdb he hpl
end
/-- all but p stands as it was -/
def Ext (p : Addr) (H H' : Hp) : Prop := ∀ b o, H b = some o → b ≠ p → H' b = some o
theorem Ext.refl {p : Addr} {H : Hp} : Ext p H H := fun _ _ h _ => h
theorem Ext.trans {p : Addr} {H H1 H2 : Hp} (a : Ext p H H1) (b : Ext p H1 H2) : Ext p H H2 := fun c o h n => b c o (a c o h n) n
theorem Ext.at {p : Addr} {H : Hp} {o : HO} : Ext p H (upd H p o) := fun b u h n => by rw [upd_ne n]; exact h
theorem Ext.new {p q : Addr} {H : Hp} {o : HO} (h : H q = none) : Ext p H (upd H q o) := fun b u e _ => by rw [upd_ne (ne_of_none e h)]; exact e
theorem Same.ext {p : Addr} {H H' : Hp} (h : Same H H') : Ext p H H' := fun b o e _ => h b o e
theorem Same.new {q : Addr} {H : Hp} {o : HO} (h : H q = none) : Same H (upd H q o) := fun b u e => by rw [upd_ne (ne_of_none e h)]; exact e
end L2
namespace L2
open PySem PySem.Spec PyProof.Rows
/-! ### readings that simp can go through: tracked objects alone -/
def rIxLH : R2 := fun x y H Q => ∃ p xs i v, x = .ref p ∧ y = .int i ∧ H p = some (.lst xs) ∧ atI xs i = some v ∧ Q v H
def rIxTH : R2 := fun x y H Q => ∃ p xs i v, x = .ref p ∧ y = .int i ∧ H p = some (.tup xs) ∧ atI xs i = some v ∧ Q v H
section
variable {X : Cx}
theorem ix_listH : IxR X rIxLH := by
  intro value slice pins s σ H x y v u Q I rx ry h hs
  obtain ⟨p, xs, i, z, a, b, hq, he, q⟩ := h
  exact ix_list value slice pins s σ H x y v u Q I rx ry ⟨p, xs, i, z, a, b, .inl (.inl hq), he, q⟩ hs
theorem ix_tupH : IxR X rIxTH := by
  intro value slice pins s σ H x y v u Q I rx ry h hs
  obtain ⟨p, xs, i, z, a, b, hq, he, q⟩ := h
  exact ix_tup value slice pins s σ H x y v u Q I rx ry ⟨p, xs, i, z, a, b, .inl (.inl hq), he, q⟩ hs
theorem call_lenTH : CallR X (.builtin "len") (fun xs H Q => ∃ p ys, xs = [.ref p] ∧ H p = some (.tup ys) ∧ Q (.int ys.length) H) := by
  intro pins s σ H xs us Q I r h
  obtain ⟨p, ys, a, b, q⟩ := h
  exact call_len_seq pins s σ H xs us Q I r ⟨p, ys, a, .inr (.inl (.inl b)), q⟩
end
theorem at0 {α : Type} {a : α} {l : List α} : atI (a :: l) 0 = some a := atI_nat (j := 0) rfl
theorem at1 {α : Type} {a b : α} {l : List α} : atI (a :: b :: l) 1 = some b := atI_nat (j := 1) rfl
theorem at2 {α : Type} {a b c : α} {l : List α} : atI (a :: b :: c :: l) 2 = some c := atI_nat (j := 2) rfl
theorem at3 {α : Type} {a b c d : α} {l : List α} : atI (a :: b :: c :: d :: l) 3 = some d := atI_nat (j := 3) rfl
theorem at4 {α : Type} {a b c d e : α} {l : List α} : atI (a :: b :: c :: d :: e :: l) 4 = some e := atI_nat (j := 4) rfl
theorem ix0 {n : Nat} : ixN (n + 1) 0 = some 0 := by unfold ixN; rw [if_pos (by decide), if_pos (by omega)]; rfl
theorem ix1 {n : Nat} : ixN (n + 2) 1 = some 1 := by unfold ixN; rw [if_pos (by decide), if_pos (by omega)]; rfl
theorem ix2 {n : Nat} : ixN (n + 3) 2 = some 2 := by unfold ixN; rw [if_pos (by decide), if_pos (by omega)]; rfl
/-- an item at a drawn place -/
theorem at_mem {α : Type} {xs : List α} {d : Int} (h0 : 0 ≤ d) (h1 : d < xs.length) : ∃ v, atI xs d = some v ∧ v ∈ xs := by
  obtain ⟨n, rfl⟩ := Int.eq_ofNat_of_zero_le h0
  have hl : n < xs.length := by omega
  exact ⟨xs[n], atI_nat (by simp [hl]), List.getElem_mem hl⟩
theorem Ext.free {p q : Addr} {H H' : Hp} {o : HO} (e : Ext p H H') (hp : H' p = some o) (h : H' q = none) : H q = none := by
  cases z : H q with
  | none => rfl
  | some u =>
    by_cases c : q = p
    · subst c
      rw [hp] at h
      cases h
    · rw [e q u z c] at h
      cases h
/-- a tape: three numbers, the third counts draws -/
structure Tape (H : Hp) (p : Addr) (n : Int) : Prop where
  ex : ∃ a b c : Int, H p = some (.lst [.int a, .int b, .int c]) ∧ 0 ≤ a ∧ 0 ≤ b ∧ b < 4611686018427387904 ∧ 0 ≤ c ∧ c ≤ n
theorem Tape.mono {H : Hp} {p : Addr} {n m : Int} (t : Tape H p n) (h : n ≤ m) : Tape H p m := by
  obtain ⟨a, b, c, h1, h2, h3, h4, h5, h6⟩ := t.ex
  exact ⟨⟨a, b, c, h1, h2, h3, h4, h5, by omega⟩⟩
theorem Tape.some {H : Hp} {p : Addr} {n : Int} (t : Tape H p n) : ∃ xs, H p = some (.lst xs) := by
  obtain ⟨a, b, c, h1, _⟩ := t.ex
  exact ⟨_, h1⟩
theorem Tape.same {H H' : Hp} {p : Addr} {n : Int} (t : Tape H p n) (e : Same H H') : Tape H' p n := by
  obtain ⟨a, b, c, h1, h⟩ := t.ex
  exact ⟨⟨a, b, c, e _ _ h1, h⟩⟩
def spDraw : Sp := fun vs H Q _ => ∃ (p : Addr) (m n : Int), vs = [.ref p, .int m] ∧ Tape H p n ∧ n < 1099511627776 ∧ 0 < m ∧ m < 2 ^ 200 ∧
  ∀ (d : Int) (H' : Hp), 0 ≤ d → d < m → Tape H' p (n + 1) → Ext p H H' → Q (.int d) H'
def spTape (K : PySem.W.Frag) : Sp := fun vs H Q _ => ∃ (a : Addr) (ns : List Int) (k : Nat), vs = [.ref a, .int k] ∧ SqL K H a (ns.map V.int) ∧ k ≤ 1000 ∧
  ∀ (p : Addr) (H' : Hp), H p = none → Tape H' p 0 → Same H H' → Q (.ref p) H'
def tyR : Option HO → Option String
  | some (.lst _) => some "list" | some (.frz _ (.lst _)) => some "list" | some (.tup _) => some "tuple" | some (.dK _) => some "dict" | some (.dT _) => some "dict"
  | _ => none
section
variable {H : Hp}
theorem tyN_non : tyN H .non = some "NoneType" := rfl
theorem tyN_bl {b} : tyN H (.bl b) = some "bool" := rfl
theorem tyN_int {b} : tyN H (.int b) = some "int" := rfl
theorem tyN_str {b} : tyN H (.str b) = some "str" := rfl
theorem tyN_ref {a} : tyN H (.ref a) = tyR (H a) := rfl
theorem tyR_lst {a} : tyR (some (.lst a)) = some "list" := rfl
theorem tyR_tup {a} : tyR (some (.tup a)) = some "tuple" := rfl
theorem tyR_dK {a} : tyR (some (.dK a)) = some "dict" := rfl
end
section
variable {X : Cx}
theorem call_intB : CallR X (.type "int") (fun xs H Q => ∃ k, xs = [.bl k] ∧ Q (.int (if k = true then 1 else 0)) H) := by
  intro pins s σ H xs us Q I r h
  obtain ⟨k, a, q⟩ := h
  exact call_int1 pins s σ H xs us Q I r (.inr ⟨k, a, q⟩)
theorem call_tuple_L : CallR X (.type "tuple") (fun xs H Q => ∃ p ys, xs = [.ref p] ∧ H p = some (.lst ys) ∧ ∀ l, H l = none → Q (.ref l) (upd H l (.tup ys))) := by
  intro pins s σ H xs us Q I r h
  obtain ⟨p, ys, a, b, q⟩ := h
  exact call_tuple_of pins s σ H xs us Q I r ⟨p, ys, a, .inl ⟨.inl (.inl b), q⟩⟩
def rCatTH : R2 := fun x y H Q => ∃ a b xs ys, x = .ref a ∧ y = .ref b ∧ H a = some (.tup xs) ∧ H b = some (.tup ys) ∧ xs ≠ [] ∧ ys ≠ [] ∧ xs.length + ys.length ≤ sizeLine ∧ ∀ p, H p = none → Q (.ref p) (upd H p (.tup (xs ++ ys)))
end
theorem abs_nn {i : Int} : 0 ≤ (if i < 0 then -i else i) := by split <;> omega
section
variable {es : List Expr} {env : Env}
theorem se_BinOp {left op right pos} : starEach (.BinOp left op right pos :: es) env = (false, eval (.BinOp left op right pos) env) :: starEach es env := rfl
theorem se_ListComp {elt generators scope pos} : starEach (.ListComp elt generators scope pos :: es) env = (false, eval (.ListComp elt generators scope pos) env) :: starEach es env := rfl
theorem se_Compare {left ops comparators pos} : starEach (.Compare left ops comparators pos :: es) env = (false, eval (.Compare left ops comparators pos) env) :: starEach es env := rfl
theorem se_Call {func args keywords pos} : starEach (.Call func args keywords pos :: es) env = (false, eval (.Call func args keywords pos) env) :: starEach es env := rfl
theorem se_Constant {value k pos} : starEach (.Constant value k pos :: es) env = (false, eval (.Constant value k pos) env) :: starEach es env := rfl
theorem se_Subscript {value slice pos} : starEach (.Subscript value slice pos :: es) env = (false, eval (.Subscript value slice pos) env) :: starEach es env := rfl
theorem se_Name {id pos} : starEach (.Name id pos :: es) env = (false, eval (.Name id pos) env) :: starEach es env := rfl
theorem se_List {elts pos} : starEach (.List elts pos :: es) env = (false, eval (.List elts pos) env) :: starEach es env := rfl
theorem se_Tuple {elts k pos} : starEach (.Tuple elts k pos :: es) env = (false, eval (.Tuple elts k pos) env) :: starEach es env := rfl
theorem hp_nil {pos : Pos} : (backTo pos (starEach [] env)).any (·.1) = false := rfl
theorem hp_cons {pos : Pos} {e : Expr} (h : starEach (e :: es) env = (false, eval e env) :: starEach es env) (t : (backTo pos (starEach es env)).any (·.1) = false) : (backTo pos (starEach (e :: es) env)).any (·.1) = false := by
  rw [h]
  exact t
end
section
variable {X : Cx}
/-- a name of the def, by facts of its scope alone -/
theorem pvN {sc : Scope} {N : List Str} (i : Nat) {x : Str} {pos : Pos} (hN : N[i]? = some x) (hv : Vis sc x) (hd : (x == ("__debug__" : Str)) = false) (hcd : (x == ("__classdict__" : Str)) = false) (eN : X.N = N := by rfl) (eS : X.env.scope = sc := by rfl) : PE X (.Name x pos) (tVar i) :=
  pe_var (by rw [eN]; exact hN) (by rw [eS]; exact hv) hd hcd
end
/-! ### tuples stay -/
def KpT (H H' : Hp) : Prop := ∀ a xs, H a = some (.tup xs) → H' a = some (.tup xs)
theorem KpT.refl {H : Hp} : KpT H H := fun _ _ h => h
theorem KpT.trans {H H1 H2 : Hp} (a : KpT H H1) (b : KpT H1 H2) : KpT H H2 := fun c o h => b c o (a c o h)
theorem Same.kpt {H H' : Hp} (h : Same H H') : KpT H H' := fun a xs e => h a _ e
theorem KpT.upd {H : Hp} {p : Addr} {xs : List V} {o : HO} (h : H p = some (.lst xs)) : KpT H (upd H p o) := fun a ys e => by
  rw [upd_ne (ne_of e h (by intro z; cases z))]
  exact e
theorem Ext.kpt {H H' : Hp} {p : Addr} {n : Int} (e : Ext p H H') (t : Tape H p n) : KpT H H' := fun a xs h => by
  obtain ⟨ys, hp⟩ := t.some
  exact e a _ h (ne_of h hp (by intro z; cases z))
theorem Tape.upd {H : Hp} {p q : Addr} {n : Int} {o : HO} (t : Tape H p n) (h : q ≠ p) : Tape (upd H q o) p n := by
  obtain ⟨a, b, c, h1, h2⟩ := t.ex
  exact ⟨⟨a, b, c, by rw [upd_ne h.symm]; exact h1, h2⟩⟩
theorem Tape.new {H : Hp} {p q : Addr} {n : Int} {o : HO} (t : Tape H p n) (h : H q = none) : Tape (L2.upd H q o) p n := t.same (Same.new h)
theorem Tape.ne {H : Hp} {p q : Addr} {n : Int} (t : Tape H p n) (h : H q = none) : q ≠ p := by
  obtain ⟨ys, hp⟩ := t.some
  rintro rfl
  rw [hp] at h
  cases h
theorem Ext.upd {H H' : Hp} {p q : Addr} {o : HO} (e : Ext p H H') (h : H q = none) : Ext p H (L2.upd H' q o) := fun b u z n => by
  have : b ≠ q := ne_of_none z h
  rw [upd_ne this]
  exact e b u z n
theorem draw_step {p : Addr} {m n : Int} {H : Hp} {Q : VK} {E : XK} (tp : Tape H p n) (hn : n < 1099511627776) (hm : 0 < m) (hm2 : m < 2 ^ 200) (k : ∀ d H', 0 ≤ d → d < m → Tape H' p (n + 1) → Ext p H H' → Q (.int d) H') : spDraw [.ref p, .int m] H Q E :=
  ⟨p, m, n, rfl, tp, hn, hm, hm2, k⟩
/-! ### append -/
def tApp (to te : TE) : TE := fun σ H Q => to σ H fun x H1 => ∃ p xs, x = .ref p ∧ H1 p = some (.lst xs) ∧ te σ H1 fun y H2 => ∃ ys, H2 p = some (.lst ys) ∧ ys.length < sizeLine ∧ Q .non (L2.upd H2 p (.lst (ys ++ [y])))
section
variable {X : Cx}
theorem pe_app {o e : Expr} {to te : TE} {apos cpos : Pos} (ho : PE X o to) (he : PE X e te) (hs : starEach [e] X.env = (false, eval e X.env) :: starEach [] X.env)
    (hbase : attributeBase o "append" X.env (eval o X.env) = eval o X.env := by rfl) (hline : (apos.endLine == cpos.line) = true := by rfl) :
    PE X (.Call (.Attribute o "append" apos) [e] [] cpos) (tApp to te) := by
  intro pins s σ H Q I h
  have hfew : ((backTo cpos (starEach [e] X.env)).all (fun x => !x.1) && (backToKw cpos (keywordEach [] X.env)).all (fun x => x.1.isSome) && decide ([e].length + ([] : List Keyword).length + (if ([] : List Keyword).isEmpty then 0 else 1) < 30)) = true := by
    rw [hs]
    rfl
  refine wpAny_Call_method_late hbase hfew hline rfl (thn (ho pins s σ H _ I h) fun v s1 ⟨x, H1, I1, r1, p, xs, ex, hp, q1⟩ => ?_)
  subst ex
  obtain ⟨h1, h2⟩ := tyV_is I1 r1 (T := "list") (.inl ⟨rfl, _, .inl (.inl hp)⟩)
  refine ⟨"list", "list.append", PySem.F.plainAttrs_list, PySem.F.slot_list_append, PySem.F.type_list_append, h1, h2, ?_⟩
  have hA := (pa_cons he pa_nil hs) cpos pins s1 σ H1 (fun vs H2 => match vs with | [y] => ∃ ys, H2 p = some (.lst ys) ∧ ys.length < sizeLine ∧ Q .non (L2.upd H2 p (.lst (ys ++ [y]))) | _ => False) I1 q1
  rw [hs] at hA ⊢
  refine Calls.callWith_builtin rfl (Calls.evalArgs_plain ?_)
  refine thn hA fun us s2 ⟨vs, H2, I2, r2, q2⟩ => ?_
  match vs, q2 with
  | [y], ⟨ys, hy, hl, q⟩ => exact mt_append pins s2 σ H2 (.ref p) [y] v us Q I2 r1 r2 ⟨p, ys, y, rfl, rfl, hy, hl, q⟩
end
theorem Same.upd {H H' : Hp} {q : Addr} {o : HO} (e : Same H H') (h : H q = none) : Same H (L2.upd H' q o) := fun b u z => by
  rw [upd_ne (ne_of_none z h)]
  exact e b u z
theorem Same.over {H H1 H2 : Hp} {p : Addr} (a : Same H H1) (h : H p = none) (e : Ext p H1 H2) : Same H H2 := fun b o z => e b o (a b o z) (ne_of_none z h)
end L2
end
section
set_option Elab.async false
set_option linter.all false
set_option maxRecDepth 100000
/-! zip over lists and tuples, any two of them -/
namespace L2
open PySem PySem.Spec PyProof.Rows
inductive Kd where | L | T
def SIt : Kd → Heap → Addr → Addr → Nat → Prop
  | .L, g, j, q, n => g.IsListIter j q n
  | .T, g, j, q, n => IsTupIter g j q n
def SSq : Kd → Heap → Addr → Array Value → Prop
  | .L, g, q, vs => g.IsList q vs
  | .T, g, q, vs => IsTup g q vs
theorem SIt.obj {k : Kd} {g : Heap} {j q : Addr} {n : Nat} (z : SIt k g j q n) : ∃ o, g.get? j = some o ∧ o.data = .fields #[.ref q, .int n 0] := by
  cases k with
  | L => obtain ⟨o, e, _, d⟩ := z; exact ⟨o, e, d⟩
  | T => obtain ⟨o, e, _, d⟩ := z; exact ⟨o, e, d⟩
theorem SIt.keep {k : Kd} {g g' : Heap} {j q : Addr} {n : Nat} (z : SIt k g j q n) (e : ∀ o, g.get? j = some o → g'.get? j = some o) : SIt k g' j q n := by
  cases k with
  | L => obtain ⟨o, a, b⟩ := z; exact ⟨o, e o a, b⟩
  | T => obtain ⟨o, a, b⟩ := z; exact ⟨o, e o a, b⟩
theorem SSq.keep {k : Kd} {g g' : Heap} {q : Addr} {vs : Array Value} (z : SSq k g q vs) (e : ∀ o, g.get? q = some o → g'.get? q = some o) : SSq k g' q vs := by
  cases k with
  | L => obtain ⟨o, a, b⟩ := z; exact ⟨o, e o a, b⟩
  | T => obtain ⟨o, a, b⟩ := z; exact ⟨o, e o a, b⟩
theorem SSq.lt {k : Kd} {g : Heap} {q : Addr} {vs : Array Value} (z : SSq k g q vs) : q < g.objs.size := by
  cases k with
  | L => obtain ⟨o, a, b⟩ := z; exact Heap.lt_size a
  | T => obtain ⟨o, a, b⟩ := z; exact Heap.lt_size a
section
variable {prog : Program} {w : World} {A : Around} {E : Value → Shared → Prop} {s : Shared}
theorem nextT_item {j q : Addr} {n : Nat} {vs : Array Value} {x : Value} {Q : Value → Shared → Prop} (hj : IsTupIter s.heap j q n) (hq : IsTup s.heap q vs) (hx : vs[n]? = some x)
    (k : ∀ g, IsTupIter g j q (n + 1) → Heap.SameBut j s.heap g → Q x { s with heap := g }) : wpAny (model prog w) A (Builtin.SmallTypes.nextOf (.ref j)) Q E s := by
  obtain ⟨o, ho, hc, hd⟩ := id hj; obtain ⟨ol, hol, _, nl, hdl⟩ := hq
  unfold Builtin.SmallTypes.nextOf
  refine wpAny_bind (wpAny_callSpecial?_slot (name := Str.ofString "__next__") hj.typeIs slot_tupleiter_next (wpAny_call_entry slot_tupleiter_next hj.typeIs entry_tupleiter_next ?_ (args_tupleiter_next _)))
  show wpAny _ _ (field (.ref j) 0 >>= _) _ _ s
  refine wpAny_bind (wpAny_field ho hd (x := .ref q) rfl ?_)
  show wpAny _ _ (if (Value.ref q == Value.none) = true then _ else _) _ _ s
  rw [if_neg (show ¬ ((Value.ref q == Value.none) = true) from Bool.false_ne_true)]
  show wpAny _ _ (field (.ref j) 1 >>= _) _ _ s
  refine wpAny_bind (wpAny_field ho hd (x := .int n 0) rfl ?_)
  show wpAny _ _ (seqItems? (.ref q) >>= _) _ _ s
  refine wpAny_bind (wpAny_seqItems hol hdl ?_); simp only [Int.toNat_natCast, hx]
  refine wpAny_bind (wpAny_setField ho hd (by simp) (wpAny_pure ⟨x, rfl, wpAny_pure (k _ ?_ (Heap.SameBut.update ..))⟩))
  exact ⟨_, Heap.get?_update_self _ ho (Obj.isFreed_of_fields (Obj.data_mapFields hd _)), (Obj.cls_mapFields ..).trans hc, by rw [Obj.data_mapFields hd]; simp [rawInt]⟩
theorem nextT_end {j q : Addr} {n : Nat} {vs : Array Value} {Q : Value → Shared → Prop} (hh : A.handled = none) (hj : IsTupIter s.heap j q n) (hq : IsTup s.heap q vs) (hx : vs[n]? = none)
    (k : ∀ g e, Heap.ExtBut j s.heap g → (∃ o, g.get? e = some o ∧ o.cls = .type "StopIteration") → E (.ref e) { s with heap := g }) : wpAny (model prog w) A (Builtin.SmallTypes.nextOf (.ref j)) Q E s := by
  obtain ⟨o, ho, hc, hd⟩ := id hj; obtain ⟨ol, hol, _, nl, hdl⟩ := hq
  unfold Builtin.SmallTypes.nextOf
  refine wpAny_bind (wpAny_callSpecial?_slot (name := Str.ofString "__next__") hj.typeIs slot_tupleiter_next (wpAny_call_entry slot_tupleiter_next hj.typeIs entry_tupleiter_next ?_ (args_tupleiter_next _)))
  show wpAny _ _ (field (.ref j) 0 >>= _) _ _ s
  refine wpAny_bind (wpAny_field ho hd (x := .ref q) rfl ?_)
  show wpAny _ _ (if (Value.ref q == Value.none) = true then _ else _) _ _ s
  rw [if_neg (show ¬ ((Value.ref q == Value.none) = true) from Bool.false_ne_true)]
  show wpAny _ _ (field (.ref j) 1 >>= _) _ _ s
  refine wpAny_bind (wpAny_field ho hd (x := .int n 0) rfl ?_)
  show wpAny _ _ (seqItems? (.ref q) >>= _) _ _ s
  refine wpAny_bind (wpAny_seqItems hol hdl ?_); simp only [Int.toNat_natCast, hx]
  refine wpAny_bind (wpAny_rule (wpAny_bind (wpAny_setField ho hd (by simp) ?_))); show wpAny _ _ (newExc (.type "StopIteration") [] >>= _) _ _ _
  refine wpAny_bind ?_; simp only [newExc, newTuple]
  refine wpAny_bind (wpAny_newObj_type ?_ (by size_fits)); refine wpAny_bind (m := firstArgMember _ _) (wpAny_of_eq (a := Value.none) (by first | rfl | (simp only [firstArgMember]; rfl)) ?_)
  refine wpAny_newObj_type ?_ (by size_fits); simp only [raiseNew]; refine wpAny_bind (wpAny_handled ?_)
  first | rw [show A.in1.handled = none from hh] | rw [hh]
  refine wpAny_bind (wpAny_pure (wpAny_throw ?_)); exact k _ _ (((Heap.SameBut.update ..).extBut.push _).push _) ⟨_, Heap.get?_push_size _ rfl, rfl⟩
end
end L2
namespace L2
open PySem PySem.Spec PyProof.Rows
section
variable {prog : Program} {w : World} {A : Around} {E : Value → Shared → Prop} {s : Shared}
end
end L2
end
section
set_option Elab.async false
set_option linter.all false
set_option maxRecDepth 100000
namespace L2
open PySem PySem.Spec PyProof.Rows
section
variable {prog : Program} {w : World} {A : Around} {E : Value → Shared → Prop} {s : Shared}
end
section
variable {X : Cx} {pins : List (Addr × Obj)} {σ : St} {H : Hp} {s : Shared} {a : Addr} {xs ys : List V} {d : Kd}
end
end L2
end
section
set_option Elab.async false
set_option linter.all false
set_option maxRecDepth 100000
/-! max(list of ints, default=d) -/
namespace L2
open PySem PySem.Spec PyProof.Rows
open Sem (wp)
section
variable {prog : Program} {w : World} {A : Around} {R : Result → Shared → Prop} {I : Addr} {fp wr : List Addr} {n : Nat} {P : Nat → Value → Prop} {St : Nat → Heap → Prop}
end
section
variable {prog : Program} {w : World} {A : Around} {E : Value → Shared → Prop} {s : Shared}
end
section
variable {prog : Program} {w : World} {A : Around} {E : Value → Shared → Prop} {s : Shared} {l : Addr} {its : List Value} {ns : List Int} {Q : Value → Shared → Prop} {d : Value}
end
def tMaxD (ta tb : TE) : TE := fun σ H Q => ta σ H fun x H1 => tb σ H1 fun y H2 => ∃ (a : Addr) (ns : List Int), x = .ref a ∧ H2 a = some (.lst (ns.map V.int)) ∧ (ns = [] → Q y H2) ∧ ∀ m, m ∈ ns → (∀ z, z ∈ ns → z ≤ m) → Q (.int m) H2
end L2
end
section
set_option Elab.async false
set_option linter.all false
set_option maxRecDepth 100000
/-! data that stands in the heap -/
namespace L2
open PySem PySem.Spec PyProof.Rows
inductive D where | non | bl (b : Bool) | int (i : Int) | str (x : Str) | lst (xs : List D) | tup (xs : List D)
mutual
inductive Rp (H : Hp) : V → D → Prop
  | non : Rp H .non .non
  | bl (b : Bool) : Rp H (.bl b) (.bl b)
  | int (i : Int) : Rp H (.int i) (.int i)
  | str (x : Str) : Rp H (.str x) (.str x)
  | lst {a : Addr} {xs : List V} {ds : List D} (h : H a = some (.lst xs)) (r : RpL H xs ds) : Rp H (.ref a) (.lst ds)
  | tup {a : Addr} {xs : List V} {ds : List D} (h : H a = some (.tup xs)) (r : RpL H xs ds) : Rp H (.ref a) (.tup ds)
inductive RpL (H : Hp) : List V → List D → Prop
  | nil : RpL H [] []
  | cons {x : V} {d : D} {xs : List V} {ds : List D} (h : Rp H x d) (r : RpL H xs ds) : RpL H (x :: xs) (d :: ds)
end
theorem RpL.len {H : Hp} : ∀ {xs : List V} {ds : List D}, RpL H xs ds → xs.length = ds.length
  | _, _, .nil => rfl
  | _, _, .cons _ r => by rw [List.length_cons, List.length_cons, r.len]
theorem RpL.at {H : Hp} : ∀ {xs : List V} {ds : List D} {i : Nat} {x : V}, RpL H xs ds → xs[i]? = some x → ∃ d, ds[i]? = some d ∧ Rp H x d
  | _, _, _, _, .nil, e => by simp at e
  | _, _, 0, _, .cons h _, e => by simp at e; subst e; exact ⟨_, rfl, h⟩
  | _, _, i + 1, x, .cons _ r, e => by
    obtain ⟨d, h1, h2⟩ := RpL.at (i := i) r (by simpa using e)
    exact ⟨d, by simpa using h1, h2⟩
mutual
theorem Rp.same {H H' : Hp} (e : Same H H') : ∀ {x : V} {d : D}, Rp H x d → Rp H' x d
  | _, _, .non => .non
  | _, _, .bl b => .bl b
  | _, _, .int i => .int i
  | _, _, .str s => .str s
  | _, _, .lst h r => .lst (e _ _ h) (RpL.same e r)
  | _, _, .tup h r => .tup (e _ _ h) (RpL.same e r)
theorem RpL.same {H H' : Hp} (e : Same H H') : ∀ {xs : List V} {ds : List D}, RpL H xs ds → RpL H' xs ds
  | _, _, .nil => .nil
  | _, _, .cons h r => .cons (Rp.same e h) (RpL.same e r)
end
theorem small_line {n : Nat} (h : n ≤ 100000) : n < sizeLine := Nat.lt_of_le_of_lt h (by decide)
section
variable {X : Cx}
/-- all of a tracked list of Trues -/
def rAllT : List V → Hp → VK → Prop := fun vs H Q => ∃ (a : Addr) (n : Nat), vs = [V.ref a] ∧ H a = some (.lst (List.replicate n (V.bl true))) ∧ Q (.bl true) H
end
section
variable {prog : Program} {w : World} {A : Around} {E : Value → Shared → Prop}
end
/-- a, b = a tracked list of that length -/
def gTupL (n : Nat) (t : TGs) : TG := fun v σ H Q => ∃ a xs, v = .ref a ∧ H a = some (.lst xs) ∧ xs.length = n ∧ t xs σ H Q
/-- a, b = a tracked tuple of that length -/
def gTupH (n : Nat) (t : TGs) : TG := fun v σ H Q => ∃ a xs, v = .ref a ∧ H a = some (.tup xs) ∧ xs.length = n ∧ t xs σ H Q
section
variable {X : Cx} {pos : Pos}
theorem pg_tupH {es : List Expr} {k : Nat} {t : TGs} {n : Nat} (hc : X.calm = true) (h : PGs X es t)
    (hn : (assignEach es X.env).length = n := by rfl) (hst : (assignEach es X.env).findIdx? (·.1) = none := by rfl) : PG X (.Tuple es k pos) (gTupH n t) := by
  intro pins s σ H v u Q I r hw
  obtain ⟨a, xs, e1, hq, hl, hw⟩ := hw
  exact pg_tup hc h hn hst pins s σ H v u Q I r ⟨a, xs, e1, .inl (.inl hq), hl, hw⟩
end
theorem vals_of : ∀ {xs : List V} {us : List Value}, xs.length = us.length → (∀ (i : Nat) (x : V) (u : Value), xs[i]? = some x → us[i]? = some u → RelV x u) → Vals xs us
  | [], [], _, _ => .nil
  | x :: xs, u :: us, hl, h => .cons (h 0 x u rfl rfl) (vals_of (by simpa using hl) fun i y v a b => h (i + 1) y v (by simpa using a) (by simpa using b))
  | [], _ :: _, hl, _ => by simp at hl
  | _ :: _, [], hl, _ => by simp at hl
def rngL (i : Int) (n : Nat) : List V := (List.range n).map fun (k : Nat) => V.int (i + k)
section
variable {X : Cx}
theorem call_listR (hc : X.calm = true) : CallR X (.type "list") (fun xs H Q => ∃ (p : Addr) (i j : Int), xs = [.ref p] ∧ H p = some (.rng i j) ∧ -(2 ^ 62) ≤ i ∧ i < 2 ^ 62 ∧ -(2 ^ 62) ≤ j ∧ j < 2 ^ 62 ∧ (j - i).toNat ≤ 100000 ∧ ∀ l, H l = none → Q (.ref l) (upd H l (.lst (rngL i (j - i).toNat)))) := by
  intro pins s σ H xs us Q I r h
  obtain ⟨p, i, j, rfl, hp, h1, h2, h3, h4, hz, q⟩ := h
  cases r with
  | cons r rr =>
    cases rr; cases r
    obtain ⟨t, u, v, hr⟩ := I.hok p _ hp
    refine call_list_range (I.ok.hd hc) hr (small_one h1 h2 h3 h4) (n := (j - i).toNat) (by rw [rangeSize_one]; split <;> omega) (Nat.le_trans hz (by decide)) fun g tk acc c hk hS hacc => ?_
    have hf : H s.heap.objs.size = none := I.hok.fresh (Nat.le_refl _)
    refine ⟨.ref s.heap.objs.size, upd H s.heap.objs.size (.lst (rngL i (j - i).toNat)), I.laid (t' := tk) (fun b u e => hk b u e) (Nat.le_refl _) ?_, rfl, q _ hf⟩
    refine ⟨by unfold rngL; rw [List.length_map, List.length_range]; exact Nat.le_of_lt (small_line hz), acc.toList, c, vals_of ?_ fun k x w e1 e2 => ?_, ?_⟩
    · unfold rngL; rw [List.length_map, List.length_range, Array.length_toList, hacc.1]
    · obtain ⟨tt, rfl⟩ := hacc.2 k w (by simpa using e2)
      unfold rngL at e1
      rw [List.getElem?_map] at e1
      obtain ⟨k', hk', rfl⟩ := Option.map_eq_some_iff.mp e1
      have : k' = k := by
        rw [List.getElem?_range] at hk'
        · exact (Option.some.inj hk').symm
        · by_cases hlt : k < (j - i).toNat
          · exact hlt
          · rw [List.getElem?_eq_none (by simpa using hlt)] at hk'; cases hk'
      subst this
      exact ⟨tt, by rw [Int.mul_one]⟩
    · simpa using hS
end
/-! ### things -/
abbrev Th := Addr × Int × Int
def ThOk (H : Hp) (x : Th) : Prop := H x.1 = some (.tup [.int x.2.1, .int x.2.2]) ∧ 1 ≤ x.2.1 ∧ x.2.1 ≤ 1000000000 ∧ 1 ≤ x.2.2 ∧ x.2.2 ≤ 64
def ThL (H : Hp) (tl : List Th) : Prop := ∀ x ∈ tl, ThOk H x
theorem ThOk.kpt {H H' : Hp} {x : Th} (h : ThOk H x) (k : KpT H H') : ThOk H' x := ⟨k _ _ h.1, h.2⟩
theorem ThL.kpt {H H' : Hp} {tl : List Th} (h : ThL H tl) (k : KpT H H') : ThL H' tl := fun x hx => (h x hx).kpt k
def thRefs (tl : List Th) : List V := tl.map fun x => V.ref x.1
/-- the tuple of things at t -/
structure ThsAt (H : Hp) (t : Addr) (tl : List Th) : Prop where
  at' : H t = some (.tup (thRefs tl))
  all : ThL H tl
theorem ThsAt.kpt {H H' : Hp} {t : Addr} {tl : List Th} (h : ThsAt H t tl) (k : KpT H H') : ThsAt H' t tl := ⟨k _ _ h.at', h.all.kpt k⟩
def spThings : Sp := fun vs H Q _ => ∃ (p : Addr) (n : Int) (m : Nat), vs = [.ref p, .int m] ∧ Tape H p n ∧ 0 ≤ n ∧ n < 1000000000 ∧ m ≤ 1000 ∧
  ∀ (t : Addr) (tl : List Th) (H' : Hp), Tape H' p (n + 1 + 6 * m) → Ext p H H' → ThsAt H' t tl → tl.length = m → Q (.ref t) H'
/-! ### in, not in, of tracked lists and tuples -/
def rInH (neg : Bool) : R2 := fun x y H Q => ∃ p xs, y = .ref p ∧ (H p = some (.lst xs) ∨ H p = some (.tup xs)) ∧ flatV x = true ∧ xs.all flatV = true ∧ Q (.bl (if neg then !inV x xs else inV x xs)) H
section
variable {X : Cx}
def rAnyH : List V → Hp → VK → Prop := fun vs H Q => ∃ (a : Addr) (bs : List Bool), vs = [V.ref a] ∧ H a = some (.lst (bs.map V.bl)) ∧ Q (.bl (bs.any id)) H
def rAllH : List V → Hp → VK → Prop := fun vs H Q => ∃ (a : Addr) (bs : List Bool), vs = [V.ref a] ∧ H a = some (.lst (bs.map V.bl)) ∧ Q (.bl (bs.all id)) H
end
def rMaxH : List V → Hp → VK → Prop := fun vs H Q => ∃ (a : Addr) (ns : List Int), vs = [V.ref a] ∧ H a = some (.lst (ns.map V.int)) ∧ 0 < ns.length ∧ ∀ m, m ∈ ns → (∀ y, y ∈ ns → y ≤ m) → Q (.int m) H
theorem cr_maxH {X : Cx} (hc : X.calm = true) : CallR X (.builtin "max") rMaxH := by
  intro pins s σ H vs us Q I r h
  obtain ⟨a, ns, e, ha, hl, q⟩ := h
  exact cr_max hc pins s σ H vs us Q I r ⟨a, ns, e, .inl (.inl ha), hl, q⟩
end L2
end
section
set_option Elab.async false
set_option linter.all false
set_option maxRecDepth 100000
/-! str(data) -/
namespace L2
open PySem PySem.Spec PyProof.Rows
mutual
def toPy : D → PyData
  | .non => .none
  | .bl b => .bool b
  | .int i => .int i
  | .str x => .str x
  | .lst xs => .list (toPyL xs)
  | .tup xs => .tuple (toPyL xs)
def toPyL : List D → List PyData
  | [] => []
  | d :: ds => toPy d :: toPyL ds
end
mutual
theorem toPy_dict : ∀ d : D, (toPy d).hasDict = false
  | .non => by simp only [toPy, PyData.hasDict]
  | .bl b => by simp only [toPy, PyData.hasDict]
  | .int i => by simp only [toPy, PyData.hasDict]
  | .str x => by simp only [toPy, PyData.hasDict]
  | .lst xs => by simp only [toPy, PyData.hasDict]; exact toPyL_dict xs
  | .tup xs => by simp only [toPy, PyData.hasDict]; exact toPyL_dict xs
theorem toPyL_dict : ∀ ds : List D, PyData.hasDictAll (toPyL ds) = false
  | [] => by simp only [toPyL, PyData.hasDictAll]
  | d :: ds => by simp only [toPyL, PyData.hasDictAll, toPy_dict d, toPyL_dict ds, Bool.or_self]
end
section
variable {X : Cx} {pins : List (Addr × Obj)} {σ : St} {H : Hp} {s : Shared}
mutual
theorem Rp.reads (I : Inv X pins σ H s) : ∀ {x : V} {d : D} {v : Value}, Rp H x d → RelV x v → ∃ as, Reads s.heap v (toPy d) as
  | _, _, _, .non, r => by cases r; exact ⟨[], by simp only [toPy]; exact .none⟩
  | _, _, _, .bl b, r => by cases r; exact ⟨[], by simp only [toPy]; exact .bool b⟩
  | _, _, _, .int i, r => by obtain ⟨t, rfl⟩ := r; exact ⟨[], by simp only [toPy]; exact .int i t⟩
  | _, _, _, .str i, r => by obtain ⟨t, rfl⟩ := r; exact ⟨[], by simp only [toPy]; exact .str i t⟩
  | _, _, _, @Rp.lst _ a xs ds h rl, r => by
    cases r
    obtain ⟨z, its, n, rv, e⟩ := I.hok a _ h
    obtain ⟨as, ha⟩ := RpL.reads I rl rv
    exact ⟨a :: as, by simp only [toPy]; exact .list e rfl rfl (by simpa using ha)⟩
  | _, _, _, @Rp.tup _ a xs ds h rl, r => by
    cases r
    obtain ⟨z, its, rv, o, e, c, n, dd⟩ := I.hok a _ h
    obtain ⟨as, ha⟩ := RpL.reads I rl rv
    exact ⟨as, by simp only [toPy]; exact .tuple e c dd (by simpa using ha)⟩
theorem RpL.reads (I : Inv X pins σ H s) : ∀ {xs : List V} {ds : List D} {vs : List Value}, RpL H xs ds → Vals xs vs → ∃ as, ReadsAll s.heap vs (toPyL ds) as
  | _, _, _, .nil, r => by cases r; exact ⟨[], by simp only [toPyL]; exact .nil⟩
  | _, _, _, .cons h rl, r => by
    cases r with
    | cons r1 r2 =>
      obtain ⟨as, ha⟩ := Rp.reads I h r1
      obtain ⟨bs, hb⟩ := RpL.reads I rl r2
      exact ⟨as ++ bs, by simp only [toPyL]; exact .cons ha hb⟩
end
end
/-- the text of data -/
def txt (d : D) : Str := (toPy d).shown
section
variable {X : Cx} {k : Nat}
/-- str(x) of a list or a tuple -/
theorem call_strD (hr : Room k X.A) : CallR X (.type "str") (fun xs H Q => ∃ a d, xs = [.ref a] ∧ Rp H (.ref a) d ∧ (toPy d).showable = true ∧ (toPy d).depth ≤ 50 ∧ (txt d).length ≤ sizeLine ∧ Q (.str (txt d)) H) := by
  intro pins s σ H xs us Q I r h
  obtain ⟨a, d, rfl, ra, hs, hd, hl, q⟩ := h
  cases r with
  | cons r1 r2 =>
    cases r2; cases r1
    obtain ⟨as, rd⟩ := ra.reads I (v := .ref a) rfl
    refine PySem.str_of_reads rd hs (fun z => absurd z (by rw [toPy_dict]; exact Bool.false_ne_true)) hr.gd (by have := hr.units; omega) (fun b o e => e) (fun g u tk hk => ⟨.str (txt d), H, I.kept hk, ⟨u, rfl⟩, q⟩) hl
end
end L2
end
section
set_option Elab.async false
set_option linter.all false
set_option maxRecDepth 100000
namespace L2
open PySem PySem.Spec PyProof.Rows
/-! ### a list's method of one argument; of none -/
def tLm (r : V → V → Hp → VK → Prop) (to te : TE) : TE := fun σ H Q => to σ H fun x H1 => (∃ p xs, x = .ref p ∧ H1 p = some (.lst xs)) ∧ te σ H1 fun y H2 => r x y H2 Q
def tLm0 (r : V → Hp → VK → Prop) (to : TE) : TE := fun σ H Q => to σ H fun x H1 => (∃ p xs, x = .ref p ∧ H1 p = some (.lst xs)) ∧ r x H1 Q
section
variable {X : Cx}
def rPopI : V → V → Hp → VK → Prop := fun x y H Q => ∃ l xs i v, x = .ref l ∧ y = .int i ∧ H l = some (.lst xs) ∧ 0 ≤ i ∧ i < xs.length ∧ xs[i.toNat]? = some v ∧ Q v (upd H l (.lst (xs.eraseIdx i.toNat)))
end
/-! ### a dict by written texts -/
def tDGs (td ty : TE) : TE := fun σ H Q => td σ H fun x H1 => ty σ H1 fun y H2 => ∃ a kvs z v, x = .ref a ∧ y = .str z ∧ H2 a = some (.dK kvs) ∧ valV kvs (Sum.inr z : Key) = some v ∧ Q v H2
def sDPs (td ty tv : TE) : TS := fun D σ H => tv σ H fun v H1 => td σ H1 fun x H2 => ty σ H2 fun y H3 => ∃ a kvs z, x = .ref a ∧ y = .str z ∧ H3 a = some (.dK kvs) ∧ kvs.length < 1000 ∧ D.nx σ (upd H3 a (.dK (putK kvs (Sum.inr z : Key) v)))
def rSetDs : V → V → V → Hp → (Hp → Prop) → Prop := fun o i v H Q => ∃ a kvs z, o = .ref a ∧ i = .str z ∧ H a = some (.dK kvs) ∧ kvs.length < 1000 ∧ Q (upd H a (.dK (putK kvs (Sum.inr z : Key) v)))
section
variable {X : Cx}
end
section
variable {X : Cx}
def rPopL : V → Hp → VK → Prop := fun x H Q => ∃ l xs y, x = .ref l ∧ H l = some (.lst xs) ∧ xs[xs.length - 1]? = some y ∧ Q y (upd H l (.lst xs.dropLast))
theorem dpAll_ints {K : PySem.W.Frag} {H : Hp} : ∀ ns : List Int, DpAll K H (ns.map V.int) (ns.map PyData.int)
  | [] => .nil
  | n :: ns => .cons (.int n) (dpAll_ints ns)
theorem eqv_ints : ∀ {ns ms : List Int}, PyData.eqvAll (ns.map PyData.int) (ms.map PyData.int) = decide (ns = ms)
  | [], [] => by simp [PyData.eqvAll]
  | [], _ :: _ => by simp [PyData.eqvAll]
  | _ :: _, [] => by simp [PyData.eqvAll]
  | n :: ns, m :: ms => by
    simp only [List.map_cons, PyData.eqvAll, eqv_ints (ns := ns) (ms := ms), PyData.eqv]
    by_cases h : n = m <;> by_cases h2 : ns = ms <;> simp [h, h2]
end
theorem lay_ints : ∀ ns : List Int, PyData.canLayAll0 (ns.map PyData.int) = true
  | [] => by simp [PyData.canLayAll0]
  | n :: ns => by simp [PyData.canLayAll0, PyData.canLay0, lay_ints ns]
theorem depth_ints : ∀ ns : List Int, PyData.depthAll (ns.map PyData.int) ≤ 1
  | [] => by simp [PyData.depthAll]
  | n :: ns => by
    have := depth_ints ns
    simp only [List.map_cons, PyData.depthAll, PyData.depth]
    omega
theorem shaped_ints (ns : List Int) : SeqAt.shaped (.list (ns.map PyData.int)) = true := by
  have h1 := lay_ints ns
  have h2 := depth_ints ns
  unfold SeqAt.shaped
  rw [Bool.and_eq_true]
  refine ⟨by simpa [PyData.canLay0] using h1, decide_eq_true ?_⟩
  simp only [PyData.depth]
  omega
def rNeI : R2 := fun x y H Q => ∃ (a b : Addr) (ns ms : List Int), x = .ref a ∧ y = .ref b ∧ H a = some (.lst (ns.map V.int)) ∧ H b = some (.lst (ms.map V.int)) ∧ Q (.bl (!decide (ns = ms))) H
def rEqI : R2 := fun x y H Q => ∃ (a b : Addr) (ns ms : List Int), x = .ref a ∧ y = .ref b ∧ H a = some (.lst (ns.map V.int)) ∧ H b = some (.lst (ms.map V.int)) ∧ Q (.bl (decide (ns = ms))) H
theorem op_eqI {X : Cx} {k : Nat} (hr : Room k X.A) : OpR X (compareOp .Eq) rEqI := by
  intro pins s σ H x y v u Q I rx ry h
  obtain ⟨a, b, ns, ms, rfl, rfl, ha, hb, q⟩ := h
  refine op_eqD hr.units pins s σ H _ _ v u Q I rx ry ⟨_, _, .lst (.inl (.inl ha)) (dpAll_ints ns), .lst (.inl (.inl hb)) (dpAll_ints ms), shaped_ints ns, shaped_ints ms, ?_⟩
  rw [PyData.eqv, eqv_ints]
  exact q
end L2
end
section
set_option Elab.async false
set_option linter.all false
set_option maxRecDepth 100000
structure L2.QE (X : L2.Cx) (e : PySem.Expr) (t : L2.TE) : Prop where run : L2.PE X e t
structure L2.QT (X : L2.Cx) (e : PySem.Expr) (t : L2.TT) : Prop where run : L2.PT X e t
structure L2.QW (X : L2.Cx) (e : PySem.Expr) (t : L2.TT) : Prop where run : L2.PW X e t
structure L2.QA (X : L2.Cx) (e : List PySem.Expr) (t : L2.TA) : Prop where run : L2.PA X e t
structure L2.QS (X : L2.Cx) (e : PySem.Stmt) (t : L2.TS) : Prop where run : L2.PS X e t
structure L2.QSs (X : L2.Cx) (e : List PySem.Stmt) (t : L2.TS) : Prop where run : L2.PSs X e t
structure L2.QG (X : L2.Cx) (e : PySem.Expr) (t : L2.TG) : Prop where run : L2.PG X e t
structure L2.QGs (X : L2.Cx) (e : List PySem.Expr) (t : L2.TGs) : Prop where run : L2.PGs X e t
structure L2.QI (X : L2.Cx) (tg e : PySem.Expr) (t : L2.TI) : Prop where run : L2.PI X tg e t
structure L2.QTs (X : L2.Cx) (e : List PySem.Expr) (t : L2.TT) : Prop where run : L2.PTs X e t
structure L2.QO (X : L2.Cx) (e : Option PySem.Expr) (t : L2.TO) : Prop where run : L2.PO X e t
theorem L2.qpe_bltn : ∀ {X : L2.Cx} {x : PySem.Str} {v : L2.V} {u : PySem.Value} {pos : PySem.Pos}, L2.Gl X x → L2.Cx.mg X x = Option.none → PySem.bootBuiltins x = Option.some u → L2.RelV v u → autoParam (x ≠ PySem.Str.ofString "__name__") L2.pe_bltn._auto_1 → autoParam ((x == PySem.Str.ofString "__debug__") = Bool.false) L2.pe_bltn._auto_2 → L2.QE X (PySem.Expr.Name x pos) (L2.tC v) := fun h1 h2 h3 h4 h5 h6 => ⟨L2.pe_bltn h1 h2 h3 h4 h5 h6⟩
theorem L2.qpe_int : ∀ {X : L2.Cx} {i : Int} {j : Nat} {pos : PySem.Pos}, L2.QE X (PySem.Expr.Constant (PySem.Const.int i) j pos) (L2.tC (L2.V.int i)) := ⟨L2.pe_int ⟩
theorem L2.qpe_bl : ∀ {X : L2.Cx} {b : Bool} {j : Nat} {pos : PySem.Pos}, L2.QE X (PySem.Expr.Constant (PySem.Const.bool b) j pos) (L2.tC (L2.V.bl b)) := ⟨L2.pe_bl ⟩
theorem L2.qpe_op : ∀ {X : L2.Cx} {a b : PySem.Expr} {ta tb : L2.TE} {pos : PySem.Pos} {op : PySem.Operator} {r : L2.R2}, L2.OpR X (PySem.binaryOp op) r → L2.QE X a ta → L2.QE X b tb → L2.QE X (PySem.Expr.BinOp a op b pos) (L2.tOp r ta tb) := fun h1 h2 h3 => ⟨L2.pe_op h1 h2.run h3.run⟩
theorem L2.qpe_un : ∀ {X : L2.Cx} {a : PySem.Expr} {ta : L2.TE} {pos : PySem.Pos} {op : PySem.UnaryOp} {r : L2.V → L2.Hp → L2.VK → Prop}, L2.UnR X (PySem.unaryOp op) r → L2.QE X a ta → L2.QE X (PySem.Expr.UnaryOp op a pos) (L2.tUn r ta) := fun h1 h2 => ⟨L2.pe_un h1 h2.run⟩
theorem L2.qpe_cmpR : ∀ {X : L2.Cx} {a b : PySem.Expr} {ta tb : L2.TE} {pos : PySem.Pos} {op : PySem.CmpOp} {r : L2.R2}, L2.OpR X (PySem.compareOp op) r → L2.QE X a ta → L2.QE X b tb → PySem.behindInMarks op b = Bool.false → L2.QE X (PySem.Expr.Compare a [op] [b] pos) (L2.tOp r ta tb) := fun h1 h2 h3 h4 => ⟨L2.pe_cmpR h1 h2.run h3.run h4⟩
theorem L2.qpe_ifExp : ∀ {X : L2.Cx} {a b : PySem.Expr} {ta tb : L2.TE} {pos : PySem.Pos} {tA : L2.TT} {c : PySem.Expr}, L2.QT X c tA → L2.QE X a ta → L2.QE X b tb → L2.QE X (PySem.Expr.IfExp c a b pos) (L2.tIf tA ta tb) := fun h1 h2 h3 => ⟨L2.pe_ifExp h1.run h2.run h3.run⟩
theorem L2.qpe_own : ∀ {X : L2.Cx} {j k : Nat} {x : PySem.Str} {ps : List PySem.Str} {sp : L2.Sp} {e : PySem.Expr} {es : List PySem.Expr} {t : L2.TA} {p pos : PySem.Pos}, L2.OwnOk (L2.Cx.prog X) (L2.Cx.w X) (L2.Cx.K X) (L2.Cx.mg X) (L2.Cx.base X) j x ps sp → L2.Room k (L2.Cx.A X) → L2.Gl X x → L2.QA X (e :: es) t → autoParam (j ≤ k) L2.pe_own._auto_1 → autoParam ((x == PySem.Str.ofString "__debug__") = Bool.false) L2.pe_own._auto_2 → autoParam (PySem.starEach (e :: es) (L2.Cx.env X) = (Bool.false, PySem.eval e (L2.Cx.env X)) :: PySem.starEach es (L2.Cx.env X)) L2.pe_own._auto_3 → autoParam ((List.any (PySem.backTo pos (PySem.starEach es (L2.Cx.env X))) fun (x : Bool × PySem.Sem PySem.Value) ↦ Prod.fst x) = Bool.false) L2.pe_own._auto_4 → L2.QE X (PySem.Expr.Call (PySem.Expr.Name x p) (e :: es) [] pos) (L2.tCall sp [] L2.E0 t) := fun h1 h2 h3 h4 h5 h6 h7 h8 => ⟨L2.pe_own h1 h2 h3 h4.run h5 h6 h7 h8⟩
theorem L2.qpe_callB : ∀ {X : L2.Cx} {x : PySem.Str} {p pos : PySem.Pos} {e : PySem.Expr} {es : List PySem.Expr} {t : L2.TA} {id : String} {r : List L2.V → L2.Hp → L2.VK → Prop}, L2.CallR X (PySem.Value.builtin id) r → L2.Gl X x → L2.Cx.mg X x = Option.none → PySem.bootBuiltins x = Option.some (PySem.Value.builtin id) → L2.QA X (e :: es) t → autoParam (x ≠ PySem.Str.ofString "__name__") L2.pe_callB._auto_1 → autoParam ((x == PySem.Str.ofString "__debug__") = Bool.false) L2.pe_callB._auto_2 → autoParam (PySem.starEach (e :: es) (L2.Cx.env X) = (Bool.false, PySem.eval e (L2.Cx.env X)) :: PySem.starEach es (L2.Cx.env X)) L2.pe_callB._auto_3 → autoParam ((List.any (PySem.backTo pos (PySem.starEach es (L2.Cx.env X))) fun (x : Bool × PySem.Sem PySem.Value) ↦ Prod.fst x) = Bool.false) L2.pe_callB._auto_4 → L2.QE X (PySem.Expr.Call (PySem.Expr.Name x p) (e :: es) [] pos) (L2.tCB r t) := fun h1 h2 h3 h4 h5 h6 h7 h8 h9 => ⟨L2.pe_callB h1 h2 h3 h4 h5.run h6 h7 h8 h9⟩
theorem L2.qpe_callTy : ∀ {X : L2.Cx} {x : PySem.Str} {p pos : PySem.Pos} {e : PySem.Expr} {es : List PySem.Expr} {t : L2.TA} {T : String} {r : List L2.V → L2.Hp → L2.VK → Prop}, L2.CallR X (PySem.Value.type T) r → L2.Gl X x → L2.Cx.mg X x = Option.none → PySem.bootBuiltins x = Option.some (PySem.Value.type T) → L2.QA X (e :: es) t → autoParam (x ≠ PySem.Str.ofString "__name__") L2.pe_callTy._auto_1 → autoParam ((x == PySem.Str.ofString "__debug__") = Bool.false) L2.pe_callTy._auto_2 → autoParam (PySem.starEach (e :: es) (L2.Cx.env X) = (Bool.false, PySem.eval e (L2.Cx.env X)) :: PySem.starEach es (L2.Cx.env X)) L2.pe_callTy._auto_3 → autoParam ((List.any (PySem.backTo pos (PySem.starEach es (L2.Cx.env X))) fun (x : Bool × PySem.Sem PySem.Value) ↦ Prod.fst x) = Bool.false) L2.pe_callTy._auto_4 → L2.QE X (PySem.Expr.Call (PySem.Expr.Name x p) (e :: es) [] pos) (L2.tCB r t) := fun h1 h2 h3 h4 h5 h6 h7 h8 h9 => ⟨L2.pe_callTy h1 h2 h3 h4 h5.run h6 h7 h8 h9⟩
theorem L2.qpe_slice : ∀ {X : L2.Cx} {e : PySem.Expr} {te : L2.TE} {lo hi : Option PySem.Expr} {tl th : L2.TO} {pos p2 : PySem.Pos} {r : L2.V → Option Int → Option Int → L2.Hp → L2.VK → Prop}, L2.SlR X r → L2.QE X e te → L2.QO X lo tl → L2.QO X hi th → L2.QE X (PySem.Expr.Subscript e (PySem.Expr.Slice lo hi Option.none p2) pos) (L2.tSl r te tl th) := fun h1 h2 h3 h4 => ⟨L2.pe_slice h1 h2.run h3.run h4.run⟩
theorem L2.qpe_ix : ∀ {X : L2.Cx} {a b : PySem.Expr} {ta tb : L2.TE} {pos : PySem.Pos} {r : L2.R2}, L2.IxR X r → L2.QE X a ta → L2.QE X b tb → L2.PlainIx b → L2.QE X (PySem.Expr.Subscript a b pos) (L2.tOp r ta tb) := fun h1 h2 h3 h4 => ⟨L2.pe_ix h1 h2.run h3.run h4⟩
theorem L2.qpe_lst : ∀ {X : L2.Cx} {es : List PySem.Expr} {t : L2.TA} {pos : PySem.Pos}, L2.QA X es t → L2.QE X (PySem.Expr.List es pos) (L2.tLst t) := fun h1 => ⟨L2.pe_lst h1.run⟩
theorem L2.qpe_tup : ∀ {X : L2.Cx} {es : List PySem.Expr} {t : L2.TA} {pos : PySem.Pos} {x1 : Nat}, L2.QA X es t → L2.QE X (PySem.Expr.Tuple es x1 pos) (L2.tTup t) := fun h1 => ⟨L2.pe_tup h1.run⟩
theorem L2.qpe_lc : ∀ {X : L2.Cx} {elt tg iter : PySem.Expr} {ifs : List PySem.Expr} {scope : PySem.Scope} {own : List (PySem.Str × Nat)} {pos : PySem.Pos} {wi : L2.TI} {g : L2.TG} {tt : L2.TT} {te : L2.TE}, L2.Cx.calm X = Bool.true → List.Nodup (L2.Cx.N X) → L2.QI X tg iter wi → L2.BlkOk (L2.Cx.N X) (PySem.Env.scope (L2.Cx.env X)) scope own → (∀ (s : PySem.Shared) (H : L2.Hp) (C : PySem.Addr) (cl : List (PySem.Str × PySem.Addr)) (fp : List PySem.Addr), L2.QG (L2.Cx.blk X s H scope (PySem.compEnvC scope cl C (L2.Cx.env X)) fp) tg g) → (∀ (s : PySem.Shared) (H : L2.Hp) (C : PySem.Addr) (cl : List (PySem.Str × PySem.Addr)) (fp : List PySem.Addr), L2.QTs (L2.Cx.blk X s H scope (PySem.compEnvC scope cl C (L2.Cx.env X)) fp) ifs tt) → (∀ (s : PySem.Shared) (H : L2.Hp) (C : PySem.Addr) (cl : List (PySem.Str × PySem.Addr)) (fp : List PySem.Addr), L2.QE (L2.Cx.blk X s H scope (PySem.compEnvC scope cl C (L2.Cx.env X)) fp) elt te) → autoParam (∀ (x : PySem.Value), PySem.foldedSetIterable iter (L2.Cx.env X) x = Pure.pure x) L2.pe_lc._auto_1 → L2.QE X (PySem.Expr.ListComp elt [PySem.Comprehension.mk tg iter ifs (0 : Int)] scope pos) (L2.tLc wi g tt te (List.map (fun (x : PySem.Str × Nat) ↦ Prod.snd x) own)) := fun h1 h2 h3 h4 h5 h6 h7 h8 => ⟨L2.pe_lc h1 h2 h3.run h4 (fun _ _ _ _ _ => (h5 _ _ _ _ _).run) (fun _ _ _ _ _ => (h6 _ _ _ _ _).run) (fun _ _ _ _ _ => (h7 _ _ _ _ _).run) h8⟩
theorem L2.qpe_app : ∀ {X : L2.Cx} {o e : PySem.Expr} {to te : L2.TE} {apos cpos : PySem.Pos}, L2.QE X o to → L2.QE X e te → PySem.starEach [e] (L2.Cx.env X) = (Bool.false, PySem.eval e (L2.Cx.env X)) :: PySem.starEach [] (L2.Cx.env X) → autoParam (PySem.attributeBase o (PySem.Str.ofString "append") (L2.Cx.env X) (PySem.eval o (L2.Cx.env X)) = PySem.eval o (L2.Cx.env X)) L2.pe_app._auto_1 → autoParam ((PySem.Pos.endLine apos == PySem.Pos.line cpos) = Bool.true) L2.pe_app._auto_2 → L2.QE X (PySem.Expr.Call (PySem.Expr.Attribute o (PySem.Str.ofString "append") apos) [e] [] cpos) (L2.tApp to te) := fun h1 h2 h3 h4 h5 => ⟨L2.pe_app h1.run h2.run h3 h4 h5⟩
theorem L2.qpt_cmpR : ∀ {X : L2.Cx} {a b : PySem.Expr} {ta tb : L2.TE} {pos : PySem.Pos} {op : PySem.CmpOp} {r : L2.R2}, L2.OpR X (PySem.compareOp op) r → L2.QE X a ta → L2.QE X b tb → PySem.behindInMarks op b = Bool.false → L2.QT X (PySem.Expr.Compare a [op] [b] pos) (L2.tTest (L2.tOp r ta tb)) := fun h1 h2 h3 h4 => ⟨L2.pt_cmpR h1 h2.run h3.run h4⟩
theorem L2.qpw_and : ∀ {X : L2.Cx} {a b : PySem.Expr} {pos : PySem.Pos} {tA tB' : L2.TT} {rest : List PySem.Expr}, L2.QT X a tA → L2.QW X (PySem.Expr.BoolOp PySem.BoolOp.And (b :: rest) pos) tB' → L2.QW X (PySem.Expr.BoolOp PySem.BoolOp.And (a :: b :: rest) pos) (L2.tAnd tA tB') := fun h1 h2 => ⟨L2.pw_and h1.run h2.run⟩
theorem L2.qpw_or : ∀ {X : L2.Cx} {a b : PySem.Expr} {pos : PySem.Pos} {tA tB' : L2.TT} {rest : List PySem.Expr}, L2.QT X a tA → L2.QW X (PySem.Expr.BoolOp PySem.BoolOp.Or (b :: rest) pos) tB' → L2.QW X (PySem.Expr.BoolOp PySem.BoolOp.Or (a :: b :: rest) pos) (L2.tOr tA tB') := fun h1 h2 => ⟨L2.pw_or h1.run h2.run⟩
theorem L2.qpw_and1 : ∀ {X : L2.Cx} {a : PySem.Expr} {pos : PySem.Pos} {tA : L2.TT}, L2.QT X a tA → L2.QW X (PySem.Expr.BoolOp PySem.BoolOp.And [a] pos) tA := fun h1 => ⟨L2.pw_and1 h1.run⟩
theorem L2.qpw_or1 : ∀ {X : L2.Cx} {a : PySem.Expr} {pos : PySem.Pos} {tA : L2.TT}, L2.QT X a tA → L2.QW X (PySem.Expr.BoolOp PySem.BoolOp.Or [a] pos) tA := fun h1 => ⟨L2.pw_or1 h1.run⟩
theorem L2.qpt : ∀ {X : L2.Cx} {e : PySem.Expr} {t : L2.TT}, L2.QW X e t → L2.QT X e t := fun h1 => ⟨L2.PW.pt h1.run⟩
theorem L2.qpt_not : ∀ {X : L2.Cx} {a : PySem.Expr} {pos : PySem.Pos} {tA : L2.TT}, L2.QT X a tA → L2.QT X (PySem.Expr.UnaryOp PySem.UnaryOp.Not a pos) (L2.tNot tA) := fun h1 => ⟨L2.pt_not h1.run⟩
theorem L2.qpa_nil : ∀ {X : L2.Cx}, L2.QA X [] L2.tNil := ⟨L2.pa_nil ⟩
theorem L2.qpa_cons : ∀ {X : L2.Cx} {e : PySem.Expr} {es : List PySem.Expr} {te : L2.TE} {t : L2.TA}, L2.QE X e te → L2.QA X es t → autoParam (PySem.starEach (e :: es) (L2.Cx.env X) = (Bool.false, PySem.eval e (L2.Cx.env X)) :: PySem.starEach es (L2.Cx.env X)) L2.pa_cons._auto_1 → L2.QA X (e :: es) (L2.tCons te t) := fun h1 h2 h3 => ⟨L2.pa_cons h1.run h2.run h3⟩
theorem L2.qpo_none : ∀ {X : L2.Cx}, L2.QO X Option.none L2.tNoPart := ⟨L2.po_none ⟩
theorem L2.qpo_some : ∀ {X : L2.Cx} {e : PySem.Expr} {te : L2.TE}, L2.QE X e te → L2.QO X (Option.some e) (L2.tPart te) := fun h1 => ⟨L2.po_some h1.run⟩
theorem L2.qpg_name : ∀ {X : L2.Cx} {pos : PySem.Pos} {i : Nat} {x : PySem.Str}, List.Nodup (L2.Cx.N X) → (L2.Cx.N X)[i]? = Option.some x → L2.Loc (PySem.Env.scope (L2.Cx.env X)) x → autoParam (L2.Cx.fn X x = Bool.true ∨ List.lookup x (PySem.Scope.names (PySem.Env.scope (L2.Cx.env X))) = Option.some PySem.NameKind.local) L2.pg_name._auto_1 → L2.QG X (PySem.Expr.Name x pos) (L2.gName i) := fun h1 h2 h3 h4 => ⟨L2.pg_name h1 h2 h3 h4⟩
theorem L2.qpgs_cons : ∀ {X : L2.Cx} {e : PySem.Expr} {es : List PySem.Expr} {t : L2.TG} {u : L2.TGs}, L2.QG X e t → L2.QGs X es u → autoParam (List.map (fun (x : Bool × (PySem.Value → PySem.Sem Unit)) ↦ Prod.snd x) (PySem.assignEach (e :: es) (L2.Cx.env X)) = PySem.assign e (L2.Cx.env X) :: List.map (fun (x : Bool × (PySem.Value → PySem.Sem Unit)) ↦ Prod.snd x) (PySem.assignEach es (L2.Cx.env X))) L2.pgs_cons._auto_1 → L2.QGs X (e :: es) (L2.gCons t u) := fun h1 h2 h3 => ⟨L2.pgs_cons h1.run h2.run h3⟩
theorem L2.qpgs_nil : ∀ {X : L2.Cx}, L2.QGs X [] L2.gNil := ⟨L2.pgs_nil ⟩
theorem L2.qpi_range1 : ∀ {X : L2.Cx} {tg a : PySem.Expr} {ta : L2.TA} {p pos : PySem.Pos}, L2.Gl X (PySem.Str.ofString "range") → L2.Cx.mg X (PySem.Str.ofString "range") = Option.none → L2.QA X [a] ta → autoParam (PySem.starEach [a] (L2.Cx.env X) = [(Bool.false, PySem.eval a (L2.Cx.env X))]) L2.pi_range1._auto_1 → L2.QI X tg (PySem.Expr.Call (PySem.Expr.Name (PySem.Str.ofString "range") p) [a] [] pos) (L2.iRng1 ta) := fun h1 h2 h3 h4 => ⟨L2.pi_range1 h1 h2 h3.run h4⟩
theorem L2.qpi_range2 : ∀ {X : L2.Cx} {tg a b : PySem.Expr} {ta : L2.TA} {p pos : PySem.Pos}, L2.Gl X (PySem.Str.ofString "range") → L2.Cx.mg X (PySem.Str.ofString "range") = Option.none → L2.QA X [a, b] ta → autoParam (PySem.starEach [a, b] (L2.Cx.env X) = [(Bool.false, PySem.eval a (L2.Cx.env X)), (Bool.false, PySem.eval b (L2.Cx.env X))]) L2.pi_range2._auto_1 → autoParam (PySem.starEach [b] (L2.Cx.env X) = [(Bool.false, PySem.eval b (L2.Cx.env X))]) L2.pi_range2._auto_2 → L2.QI X tg (PySem.Expr.Call (PySem.Expr.Name (PySem.Str.ofString "range") p) [a, b] [] pos) (L2.iRng2 ta) := fun h1 h2 h3 h4 h5 => ⟨L2.pi_range2 h1 h2 h3.run h4 h5⟩
theorem L2.qpi_list : ∀ {X : L2.Cx} {tg l : PySem.Expr} {tl : L2.TE}, L2.QE X l tl → L2.QI X tg l (L2.iList (L2.Cx.K X) tl) := fun h1 => ⟨L2.pi_list h1.run⟩
theorem L2.qpts_nil : ∀ {X : L2.Cx}, L2.QTs X [] L2.tYes := ⟨L2.pts_nil ⟩
theorem L2.qpts_one : ∀ {X : L2.Cx} {c : PySem.Expr} {t : L2.TT}, L2.QT X c t → L2.QTs X [c] t := fun h1 => ⟨L2.pts_one h1.run⟩
theorem L2.qps_set : ∀ {X : L2.Cx} {pos : PySem.Pos} {i : Nat} {x : PySem.Str} {e : PySem.Expr} {te : L2.TE} {pos' : PySem.Pos}, List.Nodup (L2.Cx.N X) → (L2.Cx.N X)[i]? = Option.some x → L2.Loc (PySem.Env.scope (L2.Cx.env X)) x → L2.QE X e te → autoParam (PySem.swapsWith e (Option.some (PySem.Expr.Name x pos')) (PySem.Pos.line pos) (L2.Cx.env X) = Pure.pure Bool.false) L2.ps_set._auto_1 → autoParam (L2.Cx.fn X x = Bool.true ∨ List.lookup x (PySem.Scope.names (PySem.Env.scope (L2.Cx.env X))) = Option.some PySem.NameKind.local) L2.ps_set._auto_2 → L2.QS X (PySem.Stmt.Assign [PySem.Expr.Name x pos'] e pos) (L2.tAsg te (L2.gName i)) := fun h1 h2 h3 h4 h5 h6 => ⟨L2.ps_set h1 h2 h3 h4.run h5 h6⟩
theorem L2.qps_par : ∀ {X : L2.Cx} {pos : PySem.Pos} {i j : Nat} {x y : PySem.Str} {a b : PySem.Expr} {ta : L2.TA} {px py pt : PySem.Pos} {kt k2 : Nat} {pt2 : PySem.Pos}, L2.Cx.calm X = Bool.true → List.Nodup (L2.Cx.N X) → (L2.Cx.N X)[i]? = Option.some x → (L2.Cx.N X)[j]? = Option.some y → i ≠ j → List.lookup x (PySem.Scope.names (PySem.Env.scope (L2.Cx.env X))) = Option.some PySem.NameKind.local → List.lookup y (PySem.Scope.names (PySem.Env.scope (L2.Cx.env X))) = Option.some PySem.NameKind.local → L2.QA X [a, b] ta → PySem.swappedStores [PySem.Expr.Tuple [PySem.Expr.Name x px, PySem.Expr.Name y py] kt pt] (PySem.Expr.Tuple [a, b] k2 pt2) (L2.Cx.env X) = Pure.pure (Option.some [x, y]) → autoParam (PySem.swapsWithSole [PySem.Expr.Tuple [PySem.Expr.Name x px, PySem.Expr.Name y py] kt pt] (PySem.Expr.Tuple [a, b] k2 pt2) (PySem.Pos.line pos) (L2.Cx.env X) = Pure.pure Bool.false) L2.ps_par._auto_1 → L2.QS X (PySem.Stmt.Assign [PySem.Expr.Tuple [PySem.Expr.Name x px, PySem.Expr.Name y py] kt pt] (PySem.Expr.Tuple [a, b] k2 pt2) pos) (L2.tPar i j ta) := fun h1 h2 h3 h4 h5 h6 h7 h8 h9 h10 => ⟨L2.ps_par h1 h2 h3 h4 h5 h6 h7 h8.run h9 h10⟩
theorem L2.qps_asg : ∀ {X : L2.Cx} {pos : PySem.Pos} {tg e : PySem.Expr} {te : L2.TE} {g : L2.TG}, L2.QE X e te → L2.QG X tg g → autoParam (PySem.swapsWithSole [tg] e (PySem.Pos.line pos) (L2.Cx.env X) = Pure.pure Bool.false) L2.ps_asg._auto_1 → autoParam (PySem.swappedStores [tg] e (L2.Cx.env X) = Pure.pure Option.none) L2.ps_asg._auto_2 → autoParam (List.map (fun (x : Bool × (PySem.Value → PySem.Sem Unit)) ↦ Prod.snd x) (PySem.assignEach [tg] (L2.Cx.env X)) = [PySem.assign tg (L2.Cx.env X)]) L2.ps_asg._auto_3 → L2.QS X (PySem.Stmt.Assign [tg] e pos) (L2.tAsg te g) := fun h1 h2 h3 h4 h5 => ⟨L2.ps_asg h1.run h2.run h3 h4 h5⟩
theorem L2.qps_ret : ∀ {X : L2.Cx} {e : PySem.Expr} {te : L2.TE} {pos : PySem.Pos}, L2.QE X e te → L2.QS X (PySem.Stmt.Return (Option.some e) pos) (L2.tRet te) := fun h1 => ⟨L2.ps_ret h1.run⟩
theorem L2.qps_expr : ∀ {X : L2.Cx} {e : PySem.Expr} {te : L2.TE} {pos : PySem.Pos}, L2.QE X e te → autoParam (PySem.swapsWith e Option.none (PySem.Pos.line pos) (L2.Cx.env X) = Pure.pure Bool.false) L2.ps_expr._auto_1 → L2.QS X (PySem.Stmt.Expr e pos) (L2.tDrop te) := fun h1 h2 => ⟨L2.ps_expr h1.run h2⟩
theorem L2.qps_if : ∀ {X : L2.Cx} {t u : L2.TS} {pos : PySem.Pos} {c : PySem.Expr} {a b : List PySem.Stmt} {tc : L2.TT}, L2.QT X c tc → L2.QSs X a t → L2.QSs X b u → L2.QS X (PySem.Stmt.If c a b pos) (L2.tIfS tc t u) := fun h1 h2 h3 => ⟨L2.ps_if h1.run h2.run h3.run⟩
theorem L2.qps_while : ∀ {X : L2.Cx} {pos : PySem.Pos} {c : PySem.Expr} {body : List PySem.Stmt} {tc : L2.TT} {tb : L2.TS}, PySem.PassesOwn (PySem.model (L2.Cx.prog X) (L2.Cx.w X)) (L2.Cx.A X) (L2.Cx.env X) (L2.Cx.xe X) → L2.QT X c tc → L2.QSs X body tb → L2.QS X (PySem.Stmt.While c body [] pos) (L2.tWhile tc tb) := fun h1 h2 h3 => ⟨L2.ps_while h1 h2.run h3.run⟩
theorem L2.qps_for : ∀ {X : L2.Cx} {tg iter : PySem.Expr} {body : List PySem.Stmt} {wi : L2.TI} {g : L2.TG} {tb : L2.TS} {pos : PySem.Pos}, PySem.PassesOwn (PySem.model (L2.Cx.prog X) (L2.Cx.w X)) (L2.Cx.A X) (L2.Cx.env X) (L2.Cx.xe X) → L2.Cx.calm X = Bool.true → L2.QI X tg iter wi → L2.QG X tg g → L2.QSs X body tb → autoParam (∀ (x : PySem.Value), PySem.foldedSetIterable iter (L2.Cx.env X) x = Pure.pure x) L2.ps_for._auto_1 → L2.QS X (PySem.Stmt.For tg iter body [] pos) (L2.tFor wi g tb) := fun h1 h2 h3 h4 h5 h6 => ⟨L2.ps_for h1 h2 h3.run h4.run h5.run h6⟩
theorem L2.qpss_cons : ∀ {X : L2.Cx} {st : PySem.Stmt} {rest : List PySem.Stmt} {t u : L2.TS}, L2.QS X st t → L2.QSs X rest u → L2.QSs X (st :: rest) (L2.tSeq t u) := fun h1 h2 => ⟨L2.pss_cons h1.run h2.run⟩
theorem L2.qpss_one : ∀ {X : L2.Cx} {st : PySem.Stmt} {t : L2.TS}, L2.QS X st t → L2.QSs X [st] t := fun h1 => ⟨L2.pss_one h1.run⟩
theorem L2.qpss_nil : ∀ {X : L2.Cx}, L2.QSs X [] L2.tNext := ⟨L2.pss_nil ⟩
namespace L2
open PySem PySem.Spec PyProof.Rows
theorem qpvN {X : Cx} {sc : Scope} {N : List Str} (i : Nat) {x : Str} {pos : Pos} (hN : N[i]? = some x) (hv : Vis sc x) (hd : (x == ("__debug__" : Str)) = false) (hcd : (x == ("__classdict__" : Str)) = false) (eN : X.N = N := by rfl) (eS : X.env.scope = sc := by rfl) : QE X (.Name x pos) (tVar i) :=
  ⟨pvN i hN hv hd hcd eN eS⟩
theorem qpv {X : Cx} (i : Nat) {x : Str} {pos : Pos} (hN : X.N[i]? = some x := by rfl) (hv : Vis X.env.scope x := by first | exact Or.inl rfl | exact Or.inr (Or.inl rfl) | exact Or.inr (Or.inr rfl)) (hd : (x == ("__debug__" : Str)) = false := by decide)
    (hcd : (x == ("__classdict__" : Str)) = false := by decide) : QE X (.Name x pos) (tVar i) := ⟨pe_var hN hv hd hcd⟩
theorem qpt_val {X : Cx} {e : Expr} {t : TE} (h : QE X e t) (he : ∀ whole, isTrue e X.env whole = (do let v ← whole; standAt e.pos; holding [v] (truthy v)) := by intro _; rfl) : QT X e (tB t) := ⟨pt_val h.run he⟩
theorem qpg_sub {X : Cx} {pos : Pos} {o i : Expr} {to ti : TE} {t : TSet} (ho : QE X o to) (hi : QE X i ti) (hs : PSet X t)
    (ha : ∀ v, assign (.Subscript o i pos) X.env v = (do
      let ov ← holding [v] (eval o X.env)
      let iv ← holding [v, ov] (eval i X.env)
      standAt pos
      holding [v, ov, iv] (setItem ov iv v)
      release [v, ov, iv] []) := by intro _; rfl) : QG X (.Subscript o i pos) (gSub to ti t) := ⟨pg_sub ho.run hi.run hs ha⟩
theorem qpg_tupH {X : Cx} {pos : Pos} {es : List Expr} {k : Nat} {t : TGs} {n : Nat} (hc : X.calm = true) (h : QGs X es t)
    (hn : (assignEach es X.env).length = n := by rfl) (hst : (assignEach es X.env).findIdx? (·.1) = none := by rfl) : QG X (.Tuple es k pos) (gTupH n t) := ⟨pg_tupH hc h.run hn hst⟩
theorem qpi_listK {X : Cx} {tg l : Expr} {tl : TE} (K : PySem.W.Frag) (h : QE X l tl) (hK : X.K = K := by rfl) : QI X tg l (iList K tl) := by
  subst hK
  exact qpi_list h
end L2
end
section
set_option Elab.async false
set_option linter.all false
set_option maxRecDepth 100000
/-! drawn programs: items, what they write and hand out, the state of the drawing -/
namespace L2
open PySem PySem.Spec PyProof.Rows
inductive Itm where
  | row (rs : List Int) (w : Option Int) | give (t : Int) | back (t : Int) | either (a b : List Itm) | round (a : List Itm)
def oD : Option Int → D
  | none => .non
  | some t => .int t
mutual
def itD : Itm → D
  | .row rs w => .tup [.str "row", .tup (rs.map D.int), oD w]
  | .give t => .tup [.str "give", .int t]
  | .back t => .tup [.str "back", .int t]
  | .either a b => .tup [.str "either", .tup (itsD a), .tup (itsD b)]
  | .round a => .tup [.str "round", .tup (itsD a)]
def itsD : List Itm → List D
  | [] => []
  | i :: r => itD i :: itsD r
end
theorem itsD_app : ∀ {a b : List Itm}, itsD (a ++ b) = itsD a ++ itsD b
  | [], b => by simp only [List.nil_append, itsD]
  | x :: a, b => by simp only [List.cons_append, itsD, itsD_app]
def addW (wr : List Int) : Option Int → List Int
  | none => wr
  | some t => if t ∈ wr then wr else wr ++ [t]
/-- the same numbers, in whatever order -/
def sameL (a b : List Int) : Bool := a.all (fun t => decide (t ∈ b)) && b.all (fun t => decide (t ∈ a))
/-! what is written on all ways and what is handed out behind the items; none where they aren't right -/
mutual
def goI (m : Int) : Itm → List Int → List Int → Option (List Int × List Int)
  | .row rs w, wr, gv => if (∀ t ∈ rs, t ∈ wr) ∧ rs.Nodup ∧ (∀ t ∈ w, 0 ≤ t ∧ t < m) then some (addW wr w, gv) else none
  | .give t, wr, gv => if t ∈ wr ∧ t ∉ gv then some (wr, gv ++ [t]) else none
  | .back t, wr, gv => if t ∈ gv then some (wr, gv.erase t) else none
  | .either a b, wr, gv => match goL m a wr gv with
    | some (w1, g1) => match goL m b wr gv with
      | some (w2, g2) => if sameL g1 gv = true ∧ sameL g2 gv = true then some (w1.filter fun t => decide (t ∈ w2), gv) else none
      | none => none
    | none => none
  | .round a, wr, gv => match goL m a wr gv with
    | some (w1, g1) => if sameL g1 gv = true then some (wr, gv) else none
    | none => none
def goL (m : Int) : List Itm → List Int → List Int → Option (List Int × List Int)
  | [], wr, gv => some (wr, gv)
  | i :: r, wr, gv => match goI m i wr gv with
    | some (w1, g1) => goL m r w1 g1
    | none => none
end
theorem goL_snoc {m : Int} : ∀ {its : List Itm} {i : Itm} {wr gv w1 g1 : List Int} {o : Option (List Int × List Int)}, goL m its wr gv = some (w1, g1) → goI m i w1 g1 = o → goL m (its ++ [i]) wr gv = o
  | [], i, wr, gv, w1, g1, o, h, h2 => by
    simp only [goL] at h
    cases h
    simp only [List.nil_append, goL, h2]
    cases o with
    | none => rfl
    | some p => rfl
  | x :: its, i, wr, gv, w1, g1, o, h, h2 => by
    simp only [goL] at h
    simp only [List.cons_append, goL]
    cases e : goI m x wr gv with
    | none => rw [e] at h; cases h
    | some p =>
      rw [e] at h
      exact goL_snoc h h2
mutual
def cntI : Itm → Nat
  | .either a b => 1 + cntL a + cntL b
  | .round a => 1 + cntL a
  | _ => 1
def cntL : List Itm → Nat
  | [] => 0
  | i :: r => cntI i + cntL r
end
theorem cntL_app : ∀ {a b : List Itm}, cntL (a ++ b) = cntL a + cntL b
  | [], b => by simp only [List.nil_append, cntL, Nat.zero_add]
  | x :: a, b => by simp only [List.cons_append, cntL, cntL_app, Nat.add_assoc]
mutual
def depI : Itm → Nat
  | .either a b => 1 + max (depL a) (depL b)
  | .round a => 1 + depL a
  | _ => 0
def depL : List Itm → Nat
  | [] => 0
  | i :: r => max (depI i) (depL r)
end
theorem depL_app : ∀ {a b : List Itm}, depL (a ++ b) = max (depL a) (depL b)
  | [], b => by simp only [List.nil_append, depL, Nat.zero_max]
  | x :: a, b => by simp only [List.cons_append, depL, depL_app, Nat.max_assoc]
/-! ### the state of the drawing -/
def stD (m : Int) (W G : Addr) (dp : Int) (tp : Bool) (lf : Int) : List (Key × V) :=
  [(Sum.inr "many", .int m), (Sum.inr "written", .ref W), (Sum.inr "given", .ref G), (Sum.inr "depth", .int dp), (Sum.inr "top", .bl tp), (Sum.inr "left", .int lf)]
section
variable {m dp lf x : Int} {W G a : Addr} {tp : Bool}
end
structure StAt (H : Hp) (p S W G : Addr) (m dp lf : Int) (tp : Bool) (wr gv : List Int) : Prop where
  ds : H S = some (.dK (stD m W G dp tp lf))
  ws : H W = some (.lst (wr.map V.int))
  gs : H G = some (.lst (gv.map V.int))
  wg : W ≠ G
  wp : W ≠ p
  gp : G ≠ p
  wb : ∀ t ∈ wr, 0 ≤ t ∧ t < m
  wn : wr.Nodup
  gn : gv.Nodup
  ml : m ≤ 100
  gb : ∀ t ∈ gv, 0 ≤ t ∧ t < m
  dl : dp ≤ 100
/-- all but some addresses stands as it was, none goes -/
structure Fx (L : List Addr) (H H' : Hp) : Prop where
  eq : ∀ b o, H b = some o → b ∉ L → H' b = some o
  dom : ∀ b, H' b = none → H b = none
theorem Fx.refl {L : List Addr} {H : Hp} : Fx L H H := ⟨fun _ _ h _ => h, fun _ h => h⟩
theorem Fx.trans {L : List Addr} {H H1 H2 : Hp} (a : Fx L H H1) (b : Fx L H1 H2) : Fx L H H2 := ⟨fun c o h n => b.eq c o (a.eq c o h n) n, fun c h => a.dom c (b.dom c h)⟩
theorem Fx.mono {L L' : List Addr} {H H' : Hp} (a : Fx L H H') (h : ∀ b ∈ L, b ∈ L') : Fx L' H H' := ⟨fun c o z n => a.eq c o z fun q => n (h c q), a.dom⟩
theorem Same.fx {L : List Addr} {H H' : Hp} (h : Same H H') : Fx L H H' := ⟨fun b o e _ => h b o e, fun b e => h.free e⟩
theorem Ext.fx {p : Addr} {L : List Addr} {H H' : Hp} {n : Int} (h : Ext p H H') (t : Tape H' p n) (hp : p ∈ L) : Fx L H H' := ⟨fun b o e n => h b o e fun z => n (z ▸ hp), fun b e => by
  obtain ⟨xs, ht⟩ := t.some
  exact h.free ht e⟩
theorem Fx.at {L : List Addr} {H : Hp} {a : Addr} {o : HO} (h : a ∈ L) : Fx L H (upd H a o) := ⟨fun b u e n => by
  have hb : b ≠ a := fun z => n (by rw [z]; exact h)
  rw [upd_ne hb]
  exact e, fun b e => by
  by_cases z : b = a
  · rw [z, upd_same] at e; cases e
  · rw [upd_ne z] at e; exact e⟩
/-- a call whose own list was laid new, or is the one that stood -/
theorem Fx.over {H H1 H2 : Hp} {p S W G W1 : Addr} (a : Fx [p, S, W, G] H H1) (h : W1 = W ∨ H W1 = none) (b : Fx [p, S, W1, G] H1 H2) : Fx [p, S, W, G] H H2 := ⟨fun c o e n => by
  have hc : c ≠ W1 := by
    rcases h with rfl | h
    · intro z; exact n (by simp [z])
    · exact ne_of_none e h
  refine b.eq c o (a.eq c o e n) fun z => n ?_
  simp only [List.mem_cons, List.not_mem_nil, or_false] at z ⊢
  rcases z with z | z | z | z
  · exact .inl z
  · exact .inr (.inl z)
  · exact absurd z hc
  · exact .inr (.inr (.inr z)), fun c e => a.dom c (b.dom c e)⟩
theorem StAt.ext {H H' : Hp} {p S W G : Addr} {n m dp lf : Int} {tp : Bool} {wr gv : List Int} (s : StAt H p S W G m dp lf tp wr gv) (t : Tape H p n) (e : Ext p H H') : StAt H' p S W G m dp lf tp wr gv := by
  have hs : S ≠ p := by
    obtain ⟨xs, h⟩ := t.some
    exact ne_of s.ds h (by intro z; cases z)
  exact ⟨e _ _ s.ds hs, e _ _ s.ws s.wp, e _ _ s.gs s.gp, s.wg, s.wp, s.gp, s.wb, s.wn, s.gn, s.ml, s.gb, s.dl⟩
theorem nodup_lenN : ∀ (n : Nat) (xs : List Int), (∀ t ∈ xs, 0 ≤ t ∧ t < n) → xs.Nodup → xs.length ≤ n
  | 0, [], _, _ => Nat.le_refl 0
  | 0, x :: r, h, _ => by
    have := h x (List.mem_cons_self ..)
    omega
  | n + 1, xs, h, nd => by
    have h1 := nodup_lenN n (xs.erase (n : Int)) (fun t ht => by
      obtain ⟨h1, h2⟩ := (List.Nodup.mem_erase_iff nd).mp ht
      have := h t h2
      omega) (nd.erase _)
    rw [List.length_erase] at h1
    split at h1 <;> omega
theorem nodup_len {m : Int} {xs : List Int} (h : ∀ t ∈ xs, 0 ≤ t ∧ t < m) (n : xs.Nodup) : xs.length ≤ m.toNat :=
  nodup_lenN _ xs (fun t ht => by have := h t ht; omega) n
/-! a loop over range(e), the loop itself kept shut -/
def FR (n : Nat) (g : TG) (tb : TS) (D : Ends) (σ : St) (H : Hp) : Prop := ∃ W : Nat → Nat → St → Hp → Prop, (∃ m, W 0 m σ H) ∧ ∀ i m σ H, W i m σ H →
  ((Itr 0 n).stop i H ∧ D.nx σ H) ∨ ((Itr 0 n).go i H ∧ ∃ N : St → Hp → Prop, (∀ σ' H', N σ' H' → ∃ m', m' < m ∧ W (i + 1) m' σ' H') ∧ ∀ x H', (Itr 0 n).yld i H x H' → g x σ H' fun σ2 H2 => tb { D with nx := N, ct := N, bk := D.nx } σ2 H2)
theorem FR.of {n : Nat} {g : TG} {tb : TS} {D : Ends} {σ : St} {H : Hp} (Pv : Nat → St → Hp → Prop) (h0 : Pv 0 σ H)
    (hs : ∀ (i : Nat) σ H, i < n → Pv i σ H → g (.int i) σ H fun σ2 H2 => tb { D with nx := Pv (i + 1), ct := Pv (i + 1), bk := D.nx } σ2 H2) (hd : ∀ σ H, Pv n σ H → D.nx σ H) : FR n g tb D σ H :=
  for_range (lo := 0) (n := n) Pv h0 (fun i σ H h p => by rw [Int.zero_add]; exact hs i σ H h p) hd
theorem pop_perm {α : Type} : ∀ {l : List α} {i : Nat} {x : α}, l[i]? = some x → (x :: l.eraseIdx i).Perm l
  | [], i, x, h => by simp at h
  | y :: r, 0, x, h => by simp at h; subst h; exact List.Perm.refl _
  | y :: r, i + 1, x, h => by
    rw [List.getElem?_cons_succ] at h
    rw [List.eraseIdx_cons_succ]
    exact (List.Perm.swap y x _).trans ((pop_perm h).cons y)
theorem StAt.putG {H : Hp} {p S W G : Addr} {m dp lf : Int} {tp : Bool} {wr gv : List Int} (s : StAt H p S W G m dp lf tp wr gv) {gv' : List Int} (gb : ∀ t ∈ gv', 0 ≤ t ∧ t < m) (gn : gv'.Nodup) : StAt (upd H G (.lst (gv'.map V.int))) p S W G m dp lf tp wr gv' :=
  ⟨by rw [upd_ne (ne_of s.ds s.gs (by intro z; cases z))]; exact s.ds, by rw [upd_ne s.wg]; exact s.ws, upd_same, s.wg, s.wp, s.gp, s.wb, s.wn, gn, s.ml, gb, s.dl⟩
theorem StAt.putL {H : Hp} {p S W G : Addr} {m dp lf lf' : Int} {tp : Bool} {wr gv : List Int} (s : StAt H p S W G m dp lf tp wr gv) : StAt (upd H S (.dK (stD m W G dp tp lf'))) p S W G m dp lf' tp wr gv :=
  ⟨upd_same, by rw [upd_ne (ne_of s.ws s.ds (by intro z; cases z))]; exact s.ws, by rw [upd_ne (ne_of s.gs s.ds (by intro z; cases z))]; exact s.gs, s.wg, s.wp, s.gp, s.wb, s.wn, s.gn, s.ml, s.gb, s.dl⟩
/-! data without lists stays where tuples stay -/
mutual
def noL : D → Bool
  | .lst _ => false
  | .tup ds => noLs ds
  | _ => true
def noLs : List D → Bool
  | [] => true
  | d :: r => noL d && noLs r
end
mutual
theorem Rp.kpt {H H' : Hp} (e : KpT H H') : ∀ {x : V} {d : D}, noL d = true → Rp H x d → Rp H' x d
  | _, _, _, .non => .non
  | _, _, _, .bl b => .bl b
  | _, _, _, .int i => .int i
  | _, _, _, .str x => .str x
  | _, _, n, .lst h r => by simp [noL] at n
  | _, _, n, .tup h r => .tup (e _ _ h) (RpL.kpt e (by simpa [noL] using n) r)
theorem RpL.kpt {H H' : Hp} (e : KpT H H') : ∀ {xs : List V} {ds : List D}, noLs ds = true → RpL H xs ds → RpL H' xs ds
  | _, _, _, .nil => .nil
  | _, _, n, .cons h r => by
    rw [noLs, Bool.and_eq_true] at n
    exact .cons (Rp.kpt e n.1 h) (RpL.kpt e n.2 r)
end
theorem noL_ints : ∀ {xs : List Int}, noLs (xs.map D.int) = true
  | [] => rfl
  | x :: r => by rw [List.map_cons, noLs, noL_ints]; rfl
mutual
theorem noL_it : ∀ {i : Itm}, noL (itD i) = true
  | .row rs w => by
    cases w <;> simp [itD, noL, noLs, oD, noL_ints]
  | .give t => by simp [itD, noL, noLs]
  | .back t => by simp [itD, noL, noLs]
  | .either a b => by simp [itD, noL, noLs, noL_its (l := a), noL_its (l := b)]
  | .round a => by simp [itD, noL, noLs, noL_its (l := a)]
theorem noL_its : ∀ {l : List Itm}, noLs (itsD l) = true
  | [] => by simp [itsD, noLs]
  | i :: r => by simp [itsD, noLs, noL_it (i := i), noL_its (l := r)]
end
theorem Fx.kpt {L : List Addr} {H H' : Hp} (f : Fx L H H') (h : ∀ b ∈ L, ∀ xs, H b ≠ some (.tup xs)) : KpT H H' := fun a xs e => f.eq a _ e fun z => h a z xs e
theorem StAt.kpt {H H' : Hp} {p S W G : Addr} {n m dp lf : Int} {tp : Bool} {wr gv : List Int} (s : StAt H p S W G m dp lf tp wr gv) (t : Tape H p n) (f : Fx [p, S, W, G] H H') : KpT H H' := f.kpt fun b hb xs => by
  obtain ⟨ys, h⟩ := t.some
  simp only [List.mem_cons, List.not_mem_nil, or_false] at hb
  rcases hb with rfl | rfl | rfl | rfl
  · rw [h]; intro z; cases z
  · rw [s.ds]; intro z; cases z
  · rw [s.ws]; intro z; cases z
  · rw [s.gs]; intro z; cases z
theorem KpT.updD {H : Hp} {S : Addr} {kv : List (Key × V)} {o : HO} (h : H S = some (.dK kv)) : KpT H (L2.upd H S o) := fun a xs e => by
  rw [upd_ne (ne_of e h (by intro z; cases z))]
  exact e
end L2
end
section
set_option Elab.async false
set_option linter.all false
set_option maxRecDepth 100000
namespace L2
open PySem
theorem Fx.upd {K : List Addr} {H Hc : Hp} {a : Addr} {o : HO} (f : Fx K H Hc) (h : H a = none) : Fx K H (L2.upd Hc a o) := ⟨fun b u e n => by
  rw [upd_ne (ne_of_none e h)]
  exact f.eq b u e n, fun b e => by
  by_cases z : b = a
  · rw [z]; exact h
  · rw [upd_ne z] at e; exact f.dom b e⟩
theorem StAt.upd {H : Hp} {p S W G a : Addr} {m dp lf : Int} {tp : Bool} {wr gv : List Int} {o : HO} (s : StAt H p S W G m dp lf tp wr gv) (h1 : a ≠ S) (h2 : a ≠ W) (h3 : a ≠ G) : StAt (L2.upd H a o) p S W G m dp lf tp wr gv :=
  ⟨by rw [upd_ne h1.symm]; exact s.ds, by rw [upd_ne h2.symm]; exact s.ws, by rw [upd_ne h3.symm]; exact s.gs, s.wg, s.wp, s.gp, s.wb, s.wn, s.gn, s.ml, s.gb, s.dl⟩
theorem StAt.Sp {H : Hp} {p S W G : Addr} {n m dp lf : Int} {tp : Bool} {wr gv : List Int} (s : StAt H p S W G m dp lf tp wr gv) (t : Tape H p n) : S ≠ p := fun z => by obtain ⟨xs, h⟩ := t.some; rw [← z, s.ds] at h; cases h
theorem RpL.snoc {H : Hp} : ∀ {xs : List V} {ds : List D} {x : V} {d : D}, RpL H xs ds → Rp H x d → RpL H (xs ++ [x]) (ds ++ [d])
  | _, _, _, _, .nil, h => .cons h .nil
  | _, _, _, _, .cons a r, h => .cons a (RpL.snoc r h)
/-- the drawing of items, under way -/
structure ItI (H Hc : Hp) (p S W G I L : Addr) (m dp lf : Int) (tp : Bool) (wr gv : List Int) (d : Nat) (c q : Int) (its : List Itm) (vs : List V) (W' : Addr) (wr' held : List Int) (lf' : Int) : Prop where
  t : Tape Hc p c
  fx : Fx [p, S, W, G] H Hc
  hW : W' = W ∨ H W' = none
  st : StAt Hc p S W' G m dp lf' tp wr' (gv ++ held)
  go : goL m its wr gv = some (wr', gv ++ held)
  hI : Hc I = some (.lst vs)
  hL : Hc L = some (.lst (held.map V.int))
  rp : RpL Hc vs (itsD its)
  dep : depL its ≤ d
  cnt : (cntL its : Int) + held.length + q ≤ lf - lf'
  nI : H I = none
  nL : H L = none
  IL : I ≠ L
  IW : I ≠ W'
  LW : L ≠ W'
  Ip : I ≠ p
  IS : I ≠ S
  IG : I ≠ G
  Lp : L ≠ p
  LS : L ≠ S
  LG : L ≠ G
section
variable {H Hc : Hp} {p S W G I L : Addr} {m dp lf : Int} {tp : Bool} {wr gv : List Int} {d : Nat} {c q : Int} {its : List Itm} {vs : List V} {W' : Addr} {wr' held : List Int} {lf' : Int}
theorem ItI.ext (x : ItI H Hc p S W G I L m dp lf tp wr gv d c q its vs W' wr' held lf') {Hd : Hp} {c' : Int} (e : Ext p Hc Hd) (t : Tape Hd p c') : ItI H Hd p S W G I L m dp lf tp wr gv d c' q its vs W' wr' held lf' :=
  { x with t := t, fx := x.fx.trans (e.fx t (by simp)), st := x.st.ext x.t e, hI := e _ _ x.hI x.Ip, hL := e _ _ x.hL x.Lp, rp := RpL.kpt (e.kpt x.t) noL_its x.rp }
theorem ItI.new (x : ItI H Hc p S W G I L m dp lf tp wr gv d c q its vs W' wr' held lf') {a : Addr} {o : HO} (h : Hc a = none) : ItI H (upd Hc a o) p S W G I L m dp lf tp wr gv d c q its vs W' wr' held lf' := x.ext (Ext.new h) (x.t.new h)
theorem ItI.left (x : ItI H Hc p S W G I L m dp lf tp wr gv d c 0 its vs W' wr' held lf') : ItI H (upd Hc S (.dK (stD m W' G dp tp (lf' - 1)))) p S W G I L m dp lf tp wr gv d c 1 its vs W' wr' held (lf' - 1) :=
  { x with t := x.t.upd (x.st.Sp x.t), fx := x.fx.trans (Fx.at (by simp)), st := x.st.putL, hI := by rw [upd_ne x.IS]; exact x.hI, hL := by rw [upd_ne x.LS]; exact x.hL, rp := RpL.kpt (KpT.updD x.st.ds) noL_its x.rp, cnt := by have := x.cnt; omega }
theorem ItI.weak (x : ItI H Hc p S W G I L m dp lf tp wr gv d c q its vs W' wr' held lf') {c' q' : Int} (h : q' ≤ q) (hc : c ≤ c') : ItI H Hc p S W G I L m dp lf tp wr gv d c' q' its vs W' wr' held lf' :=
  { x with t := x.t.mono hc, cnt := by have := x.cnt; omega }
theorem ItI.sub (x : ItI H Hc p S W G I L m dp lf tp wr gv d c 1 its vs W' wr' held lf') {H' : Hp} {c' lf'' : Int} {W'' : Addr} {wr'' : List Int} {it : Itm} {v : V} (t : Tape H' p c') (f : Fx [p, S, W', G] Hc H') (hW : W'' = W' ∨ Hc W'' = none)
    (s : StAt H' p S W'' G m dp lf'' tp wr'' (gv ++ held)) (g : goI m it wr' (gv ++ held) = some (wr'', gv ++ held)) (dp' : depI it ≤ d) (ct : (cntI it : Int) ≤ 1 + lf' - lf'') (r : Rp H' v (itD it)) :
    ItI H (upd H' I (.lst (vs ++ [v]))) p S W G I L m dp lf tp wr gv d c' 0 (its ++ [it]) (vs ++ [v]) W'' wr'' held lf'' ∧ H' I = some (.lst vs) := by
  have hI' : H' I = some (.lst vs) := f.eq _ _ x.hI (by simp [x.Ip, x.IS, x.IW, x.IG])
  have hL' : H' L = some (.lst (held.map V.int)) := f.eq _ _ x.hL (by simp [x.Lp, x.LS, x.LW, x.LG])
  have IW' : I ≠ W'' := by
    rcases hW with rfl | h
    · exact x.IW
    · exact ne_of_none x.hI h
  have LW' : L ≠ W'' := by
    rcases hW with rfl | h
    · exact x.LW
    · exact ne_of_none x.hL h
  have k1 : KpT H' (upd H' I (.lst (vs ++ [v]))) := KpT.upd hI'
  refine ⟨{ x with
    t := t.upd x.Ip, fx := (x.fx.over x.hW f).upd x.nI
    hW := ?_
    st := s.upd x.IS IW' x.IG
    go := goL_snoc x.go g, hI := upd_same, hL := by rw [upd_ne x.IL.symm]; exact hL'
    rp := ?_
    dep := ?_, cnt := ?_, IW := IW', LW := LW' }, hI'⟩
  · rcases hW with rfl | h
    · exact x.hW
    · exact .inr (x.fx.dom _ h)
  · rw [itsD_app]
    have e : itsD [it] = [itD it] := by simp [itsD]
    rw [e]
    exact RpL.snoc (RpL.kpt ((x.st.kpt x.t f).trans k1) noL_its x.rp) (Rp.kpt k1 noL_it r)
  · rw [depL_app]
    simp only [depL]
    have := x.dep
    omega
  · rw [cntL_app]
    simp only [cntL]
    have := x.cnt
    omega
theorem ItI.give (x : ItI H Hc p S W G I L m dp lf tp wr gv d c 1 its vs W' wr' held lf') {t : Int} (ht : t ∈ wr') (hg : t ∉ gv ++ held) {T : Addr}
    (hT : upd (upd (upd Hc L (.lst (held.map V.int ++ [.int t]))) S (.dK (stD m W' G dp tp (lf' - 1)))) G (.lst ((gv ++ held).map V.int ++ [.int t])) T = none) :
    ItI H (upd (upd (upd (upd (upd Hc L (.lst (held.map V.int ++ [.int t]))) S (.dK (stD m W' G dp tp (lf' - 1)))) G (.lst ((gv ++ held).map V.int ++ [.int t]))) T (.tup [.str "give", .int t])) I (.lst (vs ++ [.ref T]))) p S W G I L m dp lf tp wr gv d c 0 (its ++ [.give t]) (vs ++ [.ref T]) W' wr' (held ++ [t]) (lf' - 1) := by
  have e1 : held.map V.int ++ [.int t] = (held ++ [t]).map V.int := by simp
  have e2 : (gv ++ held).map V.int ++ [.int t] = (gv ++ (held ++ [t])).map V.int := by simp
  have e3 : gv ++ (held ++ [t]) = (gv ++ held) ++ [t] := by simp
  rw [e1, e2] at hT ⊢
  have s1 := x.st.upd (o := .lst ((held ++ [t]).map V.int)) x.LS x.LW x.LG
  have s2 := s1.putL (lf' := lf' - 1)
  have s3 := s2.putG (gv' := gv ++ (held ++ [t])) (fun u hu => by
    rw [e3] at hu
    rcases List.mem_append.mp hu with h | h
    · exact x.st.gb u h
    · cases List.mem_singleton.mp h
      exact x.st.wb t ht) (by
    rw [e3, List.nodup_append]
    refine ⟨x.st.gn, List.nodup_cons.mpr ⟨by simp, List.nodup_nil⟩, fun a ha b hb z => ?_⟩
    cases List.mem_singleton.mp hb
    exact hg (z ▸ ha))
  have t1 := ((x.t.upd (o := .lst ((held ++ [t]).map V.int)) x.Lp).upd (q := S) (o := .dK (stD m W' G dp tp (lf' - 1))) (x.st.Sp x.t)).upd (q := G) (o := .lst ((gv ++ (held ++ [t])).map V.int)) x.st.gp
  have f1 := ((x.fx.upd (o := .lst ((held ++ [t]).map V.int)) x.nL).trans (Fx.at (a := S) (o := .dK (stD m W' G dp tp (lf' - 1))) (by simp))).trans (Fx.at (a := G) (o := .lst ((gv ++ (held ++ [t])).map V.int)) (by simp))
  have k1 := ((KpT.upd (o := .lst ((held ++ [t]).map V.int)) x.hL).trans (KpT.updD (o := .dK (stD m W' G dp tp (lf' - 1))) s1.ds)).trans (KpT.upd (o := .lst ((gv ++ (held ++ [t])).map V.int)) s2.gs)
  have hI1 : (upd (upd (upd Hc L (.lst ((held ++ [t]).map V.int))) S (.dK (stD m W' G dp tp (lf' - 1)))) G (.lst ((gv ++ (held ++ [t])).map V.int))) I = some (.lst vs) := by rw [upd_ne x.IG, upd_ne x.IS, upd_ne x.IL]; exact x.hI
  have hL1 : (upd (upd (upd Hc L (.lst ((held ++ [t]).map V.int))) S (.dK (stD m W' G dp tp (lf' - 1)))) G (.lst ((gv ++ (held ++ [t])).map V.int))) L = some (.lst ((held ++ [t]).map V.int)) := by rw [upd_ne x.LG, upd_ne x.LS, upd_same]
  generalize (upd (upd (upd Hc L (.lst ((held ++ [t]).map V.int))) S (.dK (stD m W' G dp tp (lf' - 1)))) G (.lst ((gv ++ (held ++ [t])).map V.int))) = H1 at *
  have n1 := Same.new (o := .tup [.str "give", .int t]) hT
  have k2 : KpT (upd H1 T (.tup [.str "give", .int t])) (upd (upd H1 T (.tup [.str "give", .int t])) I (.lst (vs ++ [.ref T]))) := KpT.upd (n1 _ _ hI1)
  exact { x with
    t := (t1.new hT).upd x.Ip, fx := (f1.trans n1.fx).upd x.nI
    st := (s3.ext t1 (Ext.new hT)).upd x.IS x.IW x.IG
    go := goL_snoc x.go (by rw [goI, if_pos ⟨ht, hg⟩, e3])
    hI := upd_same, hL := by rw [upd_ne x.IL.symm]; exact n1 _ _ hL1
    rp := by
      rw [itsD_app]
      have e : itsD [.give t] = [.tup [.str "give", .int t]] := by simp [itsD, itD]
      rw [e]
      exact RpL.snoc (RpL.kpt (k1.trans (n1.kpt.trans k2)) noL_its x.rp) (.tup (k2 _ _ upd_same) (.cons (.str _) (.cons (.int _) .nil)))
    dep := by
      rw [depL_app]
      simp only [depL, depI]
      have := x.dep
      omega
    cnt := by
      rw [cntL_app]
      simp only [cntL, cntI, List.length_append, List.length_cons, List.length_nil]
      have := x.cnt
      omega }
theorem ItI.back (x : ItI H Hc p S W G I L m dp lf tp wr gv d c q its vs W' wr' held lf') {t : Int} {held' : List Int} (ht : t ∈ gv ++ held) (he : (gv ++ held).erase t = gv ++ held') (hl : held'.length + 1 = held.length) {T : Addr}
    (hT : upd Hc L (.lst (held'.map V.int)) T = none) :
    ItI H (upd (upd (upd (upd Hc L (.lst (held'.map V.int))) T (.tup [.str "back", .int t])) I (.lst (vs ++ [.ref T]))) G (.lst ((gv ++ held').map V.int))) p S W G I L m dp lf tp wr gv d c q (its ++ [.back t]) (vs ++ [.ref T]) W' wr' held' lf' := by
  have s1 := x.st.upd (o := .lst (held'.map V.int)) x.LS x.LW x.LG
  have t1 := x.t.upd (o := .lst (held'.map V.int)) x.Lp
  have n1 := Same.new (o := .tup [.str "back", .int t]) hT
  have s2 := (s1.ext t1 (Ext.new (o := .tup [.str "back", .int t]) hT)).upd (o := .lst (vs ++ [.ref T])) x.IS x.IW x.IG
  have s3 := s2.putG (gv' := gv ++ held') (fun u hu => x.st.gb u (List.mem_of_mem_erase (by rw [he]; exact hu))) (by rw [← he]; exact x.st.gn.erase _)
  have hI1 : upd (upd Hc L (.lst (held'.map V.int))) T (.tup [.str "back", .int t]) I = some (.lst vs) := n1 _ _ (by rw [upd_ne x.IL]; exact x.hI)
  have k2 : KpT (upd (upd Hc L (.lst (held'.map V.int))) T (.tup [.str "back", .int t])) (upd (upd (upd (upd Hc L (.lst (held'.map V.int))) T (.tup [.str "back", .int t])) I (.lst (vs ++ [.ref T]))) G (.lst ((gv ++ held').map V.int))) := (KpT.upd hI1).trans (KpT.upd s2.gs)
  exact { x with
    t := ((t1.new hT).upd x.Ip).upd x.st.gp, fx := (((x.fx.upd x.nL).trans n1.fx).upd x.nI).trans (Fx.at (by simp))
    st := s3
    go := goL_snoc x.go (by rw [goI, if_pos ht, he])
    hI := by rw [upd_ne x.IG, upd_same]
    hL := by rw [upd_ne x.LG, upd_ne x.IL.symm]; exact n1 _ _ upd_same
    rp := by
      rw [itsD_app]
      have e : itsD [.back t] = [.tup [.str "back", .int t]] := by simp [itsD, itD]
      rw [e]
      exact RpL.snoc (RpL.kpt ((KpT.upd x.hL).trans (n1.kpt.trans k2)) noL_its x.rp) (.tup (k2 _ _ upd_same) (.cons (.str _) (.cons (.int _) .nil)))
    dep := by
      rw [depL_app]
      simp only [depL, depI]
      have := x.dep
      omega
    cnt := by
      rw [cntL_app]
      simp only [cntL, cntI]
      have := x.cnt
      omega }
end
theorem at_get {α : Type} {xs : List α} {e : Int} {v : α} (h0 : 0 ≤ e) (h : xs[e.toNat]? = some v) : atI xs e = some v := by
  have hl : e.toNat < xs.length := by
    rcases Nat.lt_or_ge e.toNat xs.length with z | z
    · exact z
    · rw [List.getElem?_eq_none z] at h; cases h
  unfold atI ixN
  rw [if_pos h0, if_pos (by omega)]
  exact h
end L2
end
section
set_option Elab.async false
set_option linter.all false
set_option maxRecDepth 100000
namespace L2
open PySem
section
variable {X : Cx} {pos : Pos}
end
end L2
end
section
set_option Elab.async false
set_option linter.all false
set_option maxRecDepth 100000
/-! tuple.count over data -/
namespace L2
open PySem PySem.Spec PyProof.Rows
mutual
theorem Rp.uniq {H : Hp} : ∀ {x : V} {d e : D}, Rp H x d → Rp H x e → d = e
  | _, _, _, .non, h => by cases h; rfl
  | _, _, _, .bl b, h => by cases h; rfl
  | _, _, _, .int i, h => by cases h; rfl
  | _, _, _, .str s, h => by cases h; rfl
  | _, _, _, .lst h r, q => by
    cases q with
    | lst h' r' =>
      rw [h] at h'
      cases h'
      rw [RpL.uniq r r']
    | tup h' r' => rw [h] at h'; cases h'
  | _, _, _, .tup h r, q => by
    cases q with
    | lst h' r' => rw [h] at h'; cases h'
    | tup h' r' =>
      rw [h] at h'
      cases h'
      rw [RpL.uniq r r']
theorem RpL.uniq {H : Hp} : ∀ {xs : List V} {ds es : List D}, RpL H xs ds → RpL H xs es → ds = es
  | _, _, _, .nil, h => by cases h; rfl
  | _, _, _, .cons a r, h => by
    cases h with
    | cons a' r' => rw [Rp.uniq a a', RpL.uniq r r']
end
def tTm (r : V → V → Hp → VK → Prop) (to te : TE) : TE := fun σ H Q => to σ H fun x H1 => (∃ p xs, x = .ref p ∧ H1 p = some (.tup xs)) ∧ te σ H1 fun y H2 => r x y H2 Q
section
variable {X : Cx}
/-- t + u of tuples, empty ones too: a tuple of both -/
def rCatE : R2 := fun x y H Q => ∃ a b xs ys, x = .ref a ∧ y = .ref b ∧ H a = some (.tup xs) ∧ H b = some (.tup ys) ∧ xs.length + ys.length ≤ sizeLine ∧ ∀ c H', H' c = some (.tup (xs ++ ys)) → Same H H' → Q (.ref c) H'
end
end L2
end
section
set_option Elab.async false
set_option linter.all false
set_option maxRecDepth 100000
/-! programs put together: more things, items behind one another, what is handed out -/
namespace L2
open PySem
end L2
end
section
set_option Elab.async false
set_option linter.all false
set_option maxRecDepth 100000
/-! what the parts of the drawing promise -/
namespace L2
open PySem
/-- a program at a, as it's drawn -/
structure PgAt (H : Hp) (a t : Addr) (v : V) (tl : List Th) (its : List Itm) (wr gv : List Int) : Prop where
  at' : H a = some (.tup [.ref t, v])
  th : ThsAt H t tl
  rp : Rp H v (.tup (itsD its))
  go : goL tl.length its [] [] = some (wr, gv)
  gb : ∀ t ∈ gv, 0 ≤ t ∧ t < tl.length
  gn : gv.Nodup
theorem PgAt.kpt {H H' : Hp} {a t : Addr} {v : V} {tl : List Th} {its : List Itm} {wr gv : List Int} (p : PgAt H a t v tl its wr gv) (k : KpT H H') : PgAt H' a t v tl its wr gv :=
  ⟨k _ _ p.at', p.th.kpt k, p.rp.kpt k (by simp [noL, noL_its]), p.go, p.gb, p.gn⟩
end L2
end
section
set_option Elab.async false
set_option linter.all false
set_option maxRecDepth 100000
namespace L2
open PySem PySem.Spec PyProof.Rows
/-! ### a, b, c = x, y, z; range(j) as a value -/
def tPar3 (i j k : Nat) (ta : TA) : TS := fun D σ H => ta σ H fun vs H1 => ∃ u v w, vs = [u, v, w] ∧ D.nx (((σ.set i (some u)).set j (some v)).set k (some w)) H1
section
variable {X : Cx} {pos : Pos}
theorem call_rng1 : CallR X (.type "range") (fun xs H Q => ∃ j : Int, xs = [.int j] ∧ ∀ r, H r = none → Q (.ref r) (upd H r (.rng 0 j))) := by
  intro pins s σ H xs us Q I r h
  obtain ⟨j, rfl, q⟩ := h
  cases r with
  | cons r rr =>
    cases rr
    obtain ⟨t, rfl⟩ := r
    refine call_range_1 ?_
    have hf : H s.heap.objs.size = none := I.hok.fresh (Nat.le_refl _)
    refine ⟨.ref s.heap.objs.size, upd H s.heap.objs.size (.rng 0 j), I.laid (t' := s.toks + 1 + 1) (fun b u e => Heap.get?_push_of_some _ e) (by omega) ?_, rfl, q _ hf⟩
    exact ⟨_, _, _, Heap.get?_push_size _ rfl⟩
end
end L2
end
section
set_option Elab.async false
set_option linter.all false
set_option maxRecDepth 100000
namespace L2
open PySem PySem.Spec PyProof.Rows
/-! ### data whose text is short enough -/
mutual
def ShD : D → Prop
  | .non => True
  | .bl _ => True
  | .int i => i.natAbs < 1000000000000
  | .str x => PyData.leavesShort 13 (.str x) = true
  | .lst xs => ShL xs
  | .tup xs => ShL xs
def ShL : List D → Prop
  | [] => True
  | d :: ds => ShD d ∧ ShL ds
end
theorem log2_12 {i : Int} (h : i.natAbs < 1000000000000) : i.natAbs.log2 < 1920 := by
  by_cases z : i.natAbs = 0
  · rw [z]; decide
  · exact (Nat.log2_lt z).mpr (Nat.lt_of_lt_of_le h (Nat.le_trans (show 1000000000000 ≤ 2 ^ 40 by decide) (Nat.pow_le_pow_right (by decide) (by decide))))
mutual
theorem ShD.ok : ∀ {d : D}, ShD d → (toPy d).showable = true ∧ (toPy d).leavesShort 13 = true
  | .non, _ => ⟨rfl, rfl⟩
  | .bl _, _ => ⟨rfl, rfl⟩
  | .int i, h => by
    simp only [ShD] at h
    refine ⟨by simp only [toPy, PyData.showable]; exact decide_eq_true (log2_12 h), ?_⟩
    simp only [toPy, PyData.leavesShort]
    exact decide_eq_true (PyData.shown_int_le h)
  | .str x, h => ⟨rfl, by simpa only [toPy, ShD] using h⟩
  | .lst xs, h => by
    simp only [ShD] at h
    simp only [toPy, PyData.showable, PyData.leavesShort]
    exact ShL.ok h
  | .tup xs, h => by
    simp only [ShD] at h
    simp only [toPy, PyData.showable, PyData.leavesShort]
    exact ShL.ok h
theorem ShL.ok : ∀ {ds : List D}, ShL ds → PyData.showableAll (toPyL ds) = true ∧ PyData.leavesShortAll 13 (toPyL ds) = true
  | [], _ => ⟨rfl, rfl⟩
  | d :: ds, h => by
    simp only [ShL] at h
    have a := ShD.ok h.1
    have b := ShL.ok h.2
    simp only [toPyL, PyData.showableAll, PyData.leavesShortAll, a.1, a.2, b.1, b.2, Bool.and_self, and_self]
end
theorem str_fit {d : D} (h : ShD d) (hb : (toPy d).bulk ≤ 1000000) (hd : (toPy d).depth ≤ 50) : (toPy d).showable = true ∧ (toPy d).depth ≤ 50 ∧ (txt d).length ≤ sizeLine :=
  ⟨h.ok.1, hd, PyData.shown_fits_bulk (B := 13) (by decide) (by decide) h.ok.2 (Nat.le_trans hb (by decide))⟩
/-- things as data -/
def thD (x : Th) : D := .tup [.int x.2.1, .int x.2.2]
theorem sh_ths {H : Hp} : ∀ {tl : List Th}, ThL H tl → ShL (tl.map thD)
  | [], _ => by simp only [List.map_nil, ShL]
  | x :: xs, h => by
    obtain ⟨_, a, b, c, d⟩ := h x (by simp)
    simp only [List.map_cons, thD, ShL, ShD, and_true]
    refine ⟨⟨by omega, by omega⟩, ?_⟩
    exact sh_ths (H := H) fun y hy => h y (by simp [hy])
theorem bulk_ths : ∀ {tl : List Th}, PyData.bulkAll (toPyL (tl.map thD)) = 3 * tl.length
  | [] => by simp only [List.map_nil, toPyL, PyData.bulkAll, List.length_nil]
  | x :: xs => by simp only [List.map_cons, thD, toPyL, toPy, PyData.bulkAll, PyData.bulk, List.length_cons]; rw [bulk_ths (tl := xs)]; omega
theorem depth_ths : ∀ {tl : List Th}, PyData.depthAll (toPyL (tl.map thD)) ≤ 1
  | [] => by simp only [List.map_nil, toPyL, PyData.depthAll]; omega
  | x :: xs => by
    have := depth_ths (tl := xs)
    simp only [List.map_cons, toPyL, PyData.depthAll]
    have e : (toPy (thD x)).depth ≤ 1 := by simp only [thD, toPy, toPyL, PyData.depth, PyData.depthAll]; omega
    omega
theorem rp_ths {H : Hp} : ∀ {tl : List Th}, ThL H tl → RpL H (thRefs tl) (tl.map thD)
  | [], _ => .nil
  | x :: xs, h => .cons (.tup (h x (by simp)).1 (.cons (.int _) (.cons (.int _) .nil))) (rp_ths fun y hy => h y (by simp [hy]))
theorem ThsAt.rp {H : Hp} {t : Addr} {tl : List Th} (h : ThsAt H t tl) : Rp H (.ref t) (.tup (tl.map thD)) := .tup h.at' (rp_ths h.all)
end L2
end
section
set_option Elab.async false
set_option linter.all false
set_option maxRecDepth 100000
namespace L2
open PySem PySem.Spec PyProof.Rows
/-! ### pairs of things, places; == and != of tracked data -/
theorem tSeq_by {A B : TS} {D : Ends} {σ : St} {H : Hp} (Z : St → Hp → Prop) (h : ∀ N : St → Hp → Prop, (∀ σ H, Z σ H → N σ H) → A { D with nx := N } σ H) (hB : ∀ σ H, Z σ H → B D σ H) : tSeq A B D σ H := h _ hB
theorem cut_take {xs : List V} {d : Int} (h : 0 ≤ d) : cutV xs none (some d) = xs.take d.toNat := by
  unfold cutV
  have e : HT.sIx xs.length xs.length (some d) = min d.toNat xs.length := by
    have := HT.sIx_nat xs.length xs.length d.toNat
    rw [Int.toNat_of_nonneg h] at this
    exact this
  rw [e, HT.sIx_none, List.drop_zero, Nat.sub_zero]
  by_cases z : d.toNat ≤ xs.length
  · rw [Nat.min_eq_left z]
  · rw [Nat.min_eq_right (by omega), List.take_length, List.take_of_length_le (by omega)]
theorem cut_drop {xs : List V} {d : Int} (h : 0 ≤ d) : cutV xs (some d) none = xs.drop d.toNat := by
  unfold cutV
  have e : HT.sIx xs.length 0 (some d) = min d.toNat xs.length := by
    have := HT.sIx_nat xs.length 0 d.toNat
    rw [Int.toNat_of_nonneg h] at this
    exact this
  rw [e, HT.sIx_none]
  by_cases z : d.toNat ≤ xs.length
  · rw [Nat.min_eq_left z]
    exact List.take_of_length_le (by rw [List.length_drop]; exact Nat.le_refl _)
  · rw [Nat.min_eq_right (by omega), Nat.sub_self, List.take_zero, List.drop_eq_nil_of_le (by omega)]
theorem th_at {H : Hp} {t : Addr} {tl : List Th} {i : Int} (hT : ThsAt H t tl) (h0 : 0 ≤ i) (h1 : i < tl.length) : ∃ x, tl[i.toNat]? = some x ∧ atI (thRefs tl) i = some (V.ref x.1) ∧ ThOk H x := by
  have hx : tl[i.toNat]? = some (tl[i.toNat]'(by omega)) := List.getElem?_eq_getElem (by omega)
  refine ⟨_, hx, at_get h0 ?_, hT.all _ (List.mem_of_getElem? hx)⟩
  unfold thRefs
  rw [List.getElem?_map, hx]
  rfl
def PrOk (H : Hp) (m : Int) (x : Th) : Prop := H x.1 = some (.tup [.int x.2.1, .int x.2.2]) ∧ 0 ≤ x.2.1 ∧ x.2.1 < x.2.2 ∧ x.2.2 < m
structure PrsAt (H : Hp) (a : Addr) (pl : List Th) (m : Int) : Prop where
  at' : H a = some (.lst (thRefs pl))
  all : ∀ x ∈ pl, PrOk H m x
theorem PrOk.kpt {H H' : Hp} {m : Int} {x : Th} (h : PrOk H m x) (k : KpT H H') : PrOk H' m x := ⟨k _ _ h.1, h.2⟩
theorem PrsAt.same {H H' : Hp} {a : Addr} {pl : List Th} {m : Int} (h : PrsAt H a pl m) (s : Same H H') : PrsAt H' a pl m := ⟨s _ _ h.at', fun x hx => (h.all x hx).kpt s.kpt⟩
theorem PrsAt.ext {H H' : Hp} {a p : Addr} {pl : List Th} {m n : Int} (h : PrsAt H a pl m) (t : Tape H p n) (e : Ext p H H') (hp : a ≠ p) : PrsAt H' a pl m := ⟨e _ _ h.at' hp, fun x hx => (h.all x hx).kpt (e.kpt t)⟩
theorem PrsAt.upd {H : Hp} {a q : Addr} {pl : List Th} {m : Int} {xs : List V} {o : HO} (h : PrsAt H a pl m) (hq : H q = some (.lst xs)) (hn : q ≠ a) : PrsAt (L2.upd H q o) a pl m := ⟨by rw [upd_ne hn.symm]; exact h.at', fun x hx => (h.all x hx).kpt (KpT.upd hq)⟩
theorem rp_refs {H : Hp} : ∀ {pl : List Th}, (∀ x ∈ pl, H x.1 = some (.tup [.int x.2.1, .int x.2.2])) → RpL H (thRefs pl) (pl.map thD)
  | [], _ => .nil
  | x :: xs, h => .cons (.tup (h x (by simp)) (.cons (.int _) (.cons (.int _) .nil))) (rp_refs fun y hy => h y (by simp [hy]))
theorem PrsAt.rp {H : Hp} {a : Addr} {pl : List Th} {m : Int} (h : PrsAt H a pl m) : Rp H (.ref a) (.lst (pl.map thD)) := .lst h.at' (rp_refs fun x hx => (h.all x hx).1)
def plc (ps : List Int) (i : Int) : Int := ps.getD i.toNat 0
def siz (tl : List Th) (i : Int) : Int := (tl.getD i.toNat (0, 1, 1)).2.1
def ov (tl : List Th) (ps : List Int) (i j : Int) : Bool := decide (plc ps i < plc ps j + siz tl j ∧ plc ps j < plc ps i + siz tl i)
theorem siz_at {tl : List Th} {i : Int} {x : Th} (h : tl[i.toNat]? = some x) : siz tl i = x.2.1 := by
  unfold siz
  rw [List.getD_eq_getElem?_getD, h]
  rfl
/-- things, pairs and numbers as data -/
def d3 (tl pl : List Th) (ps : List Int) : D := .lst [.tup (tl.map thD), .lst (pl.map thD), .lst (ps.map D.int)]
/-! == and != of data, tracked -/
mutual
theorem Rp.dp {K : PySem.W.Frag} {H : Hp} : ∀ {x : V} {d : D}, Rp H x d → Dp K H x (toPy d)
  | _, _, .non => by simp only [toPy]; exact .non
  | _, _, .bl b => by simp only [toPy]; exact .bl b
  | _, _, .int i => by simp only [toPy]; exact .int i
  | _, _, .str i => by simp only [toPy]; exact .str i
  | _, _, .lst h r => by simp only [toPy]; exact .lst (.inl (.inl h)) r.dp
  | _, _, .tup h r => by simp only [toPy]; exact .tup (.inl (.inl h)) r.dp
theorem RpL.dp {K : PySem.W.Frag} {H : Hp} : ∀ {xs : List V} {ds : List D}, RpL H xs ds → DpAll K H xs (toPyL ds)
  | _, _, .nil => by simp only [toPyL]; exact .nil
  | _, _, .cons a r => by simp only [toPyL]; exact .cons a.dp r.dp
end
def shp (d : D) : Prop := SeqAt.shaped (toPy d) = true
def eqD (d e : D) : Bool := PyData.eqv (toPy d) (toPy e)
theorem eqD_refl {d : D} (h : shp d) : eqD d d = true := SeqAt.eqv_refl _ (SeqAt.canLay_of_shaped h)
def rNeR : R2 := fun x y H Q => ∃ d e : D, Rp H x d ∧ Rp H y e ∧ shp d ∧ shp e ∧ Q (.bl (!eqD d e)) H
def rEqR : R2 := fun x y H Q => ∃ d e : D, Rp H x d ∧ Rp H y e ∧ shp d ∧ shp e ∧ Q (.bl (eqD d e)) H
theorem op_neR {X : Cx} {k : Nat} (hr : Room k X.A) : OpR X (compareOp .NotEq) rNeR := by
  intro pins s σ H x y v u Q I rx ry h
  obtain ⟨d, e, hd, he, sd, se, q⟩ := h
  exact op_neD hr.units pins s σ H _ _ v u Q I rx ry ⟨_, _, hd.dp, he.dp, sd, se, q⟩
end L2
namespace L2
open PySem PySem.Spec PyProof.Rows
end L2
namespace L2
open PySem PySem.Spec PyProof.Rows
end L2
namespace L2
open PySem PySem.Spec PyProof.Rows
def vi : V → Int
  | .int n => n
  | _ => 0
end L2
end
section
set_option Elab.async false
set_option linter.all false
set_option maxRecDepth 100000
namespace PySem
open Sem (wp)
section
variable {prog : Program} {w : World} {K : Type} [DecidableEq K] {knd : HeapKind prog w K} {A : Around} {E : Value → Shared → Prop} {s : Shared}
end
end PySem
namespace L2
open PySem PySem.Spec PyProof.Rows
section
variable {X : Cx} {pins : List (Addr × Obj)} {σ : St} {H : Hp} {s : Shared} {a b : Addr} {z : V} {u r : Value} {A : Around} {E : Value → Shared → Prop} {kvs : List (List Key × V)} {k : List Key}
end
section
variable {X : Cx} {o e f : Expr} {apos cpos : Pos} {td ty tx : TE}
end
end L2
end
section
set_option Elab.async false
set_option linter.all false
set_option maxRecDepth 100000
namespace L2
open PySem PySem.Spec PyProof.Rows
/-! ### d.get(k), k in d, k not in d -/
section
variable {X : Cx}
theorem M1.of {o e : Expr} {m : Str} {apos cpos : Pos} (hs : starEach [e] X.env = (false, eval e X.env) :: starEach [] X.env) (hb : attributeBase o m X.env (eval o X.env) = eval o X.env) (hl : (apos.endLine == cpos.line) = true) : M1 X o m apos e cpos :=
  ⟨hb, by rw [hs]; rfl, hl, by rw [hs]; rfl⟩
end
end L2
end
section
set_option Elab.async false
set_option linter.all false
set_option maxRecDepth 100000
namespace L2
open PySem PySem.Spec PyProof.Rows
/-! ### i.bit_length(), groups as bits -/
def btl (i : Int) : Nat := Builtin.Int.intBits i
def tBitL (te : TE) : TE := fun σ H Q => te σ H fun x H1 => ∃ i, x = .int i ∧ Q (.int (btl i : Nat)) H1
section
variable {X : Cx} {o : Expr} {to : TE}
theorem pe_bitL {apos pos : Pos} (ho : PE X o to) (hbase : attributeBase o "bit_length" X.env (eval o X.env) = eval o X.env := by rfl) (hline : (apos.endLine == pos.line) = true := by rfl) : PE X (.Call (.Attribute o "bit_length" apos) [] [] pos) (tBitL to) := by
  intro pins s σ H Q I h
  refine PySem.Call_method0 hbase hline (thn (ho pins s σ H _ I h) fun v s1 ⟨x, H1, I1, r1, q1⟩ => ?_)
  obtain ⟨i, rfl, q1⟩ := q1
  obtain ⟨t, rfl⟩ := _root_.id r1
  refine ⟨"int", _, F.plainAttrs_int, PyProof.Rows.slot_int_bit_length, PyProof.Rows.type_int_bit_length, typeIs_int _ _ _, (fun _ e => nomatch e), Calls.callWith_builtin rfl (PySem.evalArgs_none ?_)⟩
  exact PyProof.Rows.call_int_bit_length ⟨.int (btl i : Nat), H1, I1.tok _, ⟨_, rfl⟩, q1⟩
theorem qpe_bitL {apos pos : Pos} (ho : QE X o to) (hbase : attributeBase o "bit_length" X.env (eval o X.env) = eval o X.env := by rfl) (hline : (apos.endLine == pos.line) = true := by rfl) : QE X (.Call (.Attribute o "bit_length" apos) [] [] pos) (tBitL to) := ⟨pe_bitL ho.run hbase hline⟩
end
/-- a group: the numbers whose bits stand -/
def hasB (g : Nat) (t : Nat) : Bool := g.testBit t
def memB (g : Nat) : List Nat := (List.range (btl (g : Int))).filter (hasB g)
theorem btl_lt {g t : Nat} (h : g.testBit t = true) : t < btl (g : Int) := by
  have h1 := Nat.ge_two_pow_of_testBit h
  unfold btl Builtin.Int.intBits
  have hg : g ≠ 0 := fun z => by rw [z] at h; simp at h
  have e : ((g : Int) == 0) = false := by simp; exact hg
  rw [e]
  simp only [Bool.false_eq_true, if_false, Int.natAbs_natCast]
  have := (Nat.le_log2 hg).mpr h1
  omega
theorem mem_memB {g t : Nat} : t ∈ memB g ↔ g.testBit t = true := by
  unfold memB
  rw [List.mem_filter, List.mem_range]
  exact ⟨fun h => h.2, fun h => ⟨btl_lt h, h⟩⟩
theorem btl_le {g n : Nat} (h : g < 2 ^ n) : btl (g : Int) ≤ n := by
  unfold btl Builtin.Int.intBits
  by_cases z : g = 0
  · subst z; simp
  · have e : ((g : Int) == 0) = false := by simp; exact z
    rw [e]
    simp only [Bool.false_eq_true, if_false, Int.natAbs_natCast]
    have := (Nat.log2_lt z).mpr h
    omega
theorem bit_and {g t : Nat} : Builtin.bitAnd ((g : Int) / 2 ^ t) 1 = if g.testBit t = true then 1 else 0 := by
  have e : (g : Int) / 2 ^ t = ((g / 2 ^ t : Nat) : Int) := by rw [Int.natCast_ediv, Int.natCast_pow]; rfl
  rw [e]
  unfold Builtin.bitAnd
  rw [decide_eq_true (Int.natCast_nonneg _), decide_eq_true (by decide : (0 : Int) ≤ 1)]
  simp only [Int.toNat_natCast]
  show (((g / 2 ^ t) &&& 1 : Nat) : Int) = _
  rw [Nat.and_one_is_mod, Nat.testBit_eq_decide_div_mod_eq]
  by_cases h : g / 2 ^ t % 2 = 1
  · rw [h]
    rfl
  · have h0 : g / 2 ^ t % 2 = 0 := by omega
    rw [h0]
    rfl
theorem without_test {g t u : Nat} (h : g.testBit t = true) : (g - 2 ^ t).testBit u = (g.testBit u && !decide (u = t)) := by
  have hp : 0 < 2 ^ t := Nat.pow_pos (by decide)
  rw [Nat.testBit_eq_decide_div_mod_eq, decide_eq_true_eq] at h
  have e1 : 2 ^ t * (g / 2 ^ t) + g % 2 ^ t = g := Nat.div_add_mod g (2 ^ t)
  have hr : g % 2 ^ t < 2 ^ t := Nat.mod_lt _ hp
  generalize g / 2 ^ t = a at *
  generalize g % 2 ^ t = r at *
  obtain ⟨k, rfl⟩ : ∃ k, a = 2 * k + 1 := ⟨a / 2, by omega⟩
  have e2 : g - 2 ^ t = 2 ^ t * (2 * k) + r := by
    rw [← e1, Nat.mul_add, Nat.mul_one]
    omega
  rw [e2, ← e1, Nat.testBit_two_pow_mul_add _ hr, Nat.testBit_two_pow_mul_add _ hr]
  by_cases z : u < t
  · rw [if_pos z, if_pos z, decide_eq_false (by omega)]
    simp
  · rw [if_neg z, if_neg z]
    by_cases y : u = t
    · subst y
      rw [decide_eq_true rfl, Nat.sub_self]
      simp
    · obtain ⟨j, hj⟩ : ∃ j, u - t = j + 1 := ⟨u - t - 1, by omega⟩
      rw [hj, Nat.testBit_succ, Nat.testBit_succ, decide_eq_false y, show (2 * k + 1) / 2 = k by omega, show 2 * k / 2 = k by omega]
      simp
theorem without_lt {g t : Nat} (h : g.testBit t = true) : g - 2 ^ t < g ∧ 2 ^ t ≤ g := by
  have h1 := Nat.ge_two_pow_of_testBit h
  have hp : 0 < 2 ^ t := Nat.pow_pos (by decide)
  omega
def rMinH : List V → Hp → VK → Prop := fun vs H Q => ∃ (a : Addr) (ns : List Int), vs = [V.ref a] ∧ H a = some (.lst (ns.map V.int)) ∧ 0 < ns.length ∧ ∀ m, m ∈ ns → (∀ y, y ∈ ns → m ≤ y) → Q (.int m) H
theorem cr_minH {X : Cx} (hc : X.calm = true) : CallR X (.builtin "min") rMinH := by
  intro pins s σ H vs us Q I r h
  obtain ⟨a, ns, e, ha, hl, q⟩ := h
  exact cr_min hc pins s σ H vs us Q I r ⟨a, ns, e, .inl (.inl ha), hl, q⟩
end L2
end
section
set_option Elab.async false
set_option linter.all false
set_option maxRecDepth 100000
namespace L2
open PySem PySem.Spec PyProof.Rows PyProof.Rows.G
section
variable {X : Cx}
end
end L2
end
section
set_option Elab.async false
set_option linter.all false
set_option maxRecDepth 100000
namespace L2
open PySem PySem.Spec PyProof.Rows
/-! ### dicts by whole numbers, enumerate, range by a step, a pair in a list of pairs -/
section
variable {X : Cx}
theorem qpi_enumK {e : Expr} {ta : TA} {p pos tpos : Pos} {elts : List Expr} {kk : Nat} (K : PySem.W.Frag) (hg : Gl X "enumerate") (hm : X.mg "enumerate" = none) (ha : QA X [e] ta) (hs : starEach [e] X.env = [(false, eval e X.env)] := by rfl) (hK : X.K = K := by rfl) :
    QI X (.Tuple elts kk tpos) (.Call (.Name "enumerate" p) [e] [] pos) (iEnum K ta) := by
  subst hK
  exact ⟨pi_enum hg hm ha.run hs⟩
end
/-- the loop over enumerate -/
theorem for_enum {K : PySem.W.Frag} {a : Addr} {xs : List V} {g : TG} {tb : TS} {D : Ends} {σ : St} {H : Hp} (Pv : Nat → St → Hp → Prop) (h0 : Pv 0 σ H) (hl : ∀ i σ H, i ≤ xs.length → Pv i σ H → H a = some (.lst xs))
    (hs : ∀ i x T σ H, xs[i]? = some x → Pv i σ H → H T = none → g (.ref T) σ (upd H T (.tup [.int (i : Nat), x])) fun σ2 H2 => tb { D with nx := Pv (i + 1), ct := Pv (i + 1), bk := D.nx } σ2 H2) (hd : ∀ σ H, Pv xs.length σ H → D.nx σ H) :
    ∃ W : Nat → Nat → St → Hp → Prop, (∃ m, W 0 m σ H) ∧ ∀ i m σ H, W i m σ H →
      ((Ite K a).stop i H ∧ D.nx σ H) ∨ ((Ite K a).go i H ∧ ∃ N : St → Hp → Prop, (∀ σ' H', N σ' H' → ∃ m', m' < m ∧ W (i + 1) m' σ' H') ∧ ∀ x H', (Ite K a).yld i H x H' → g x σ H' fun σ2 H2 => tb { D with nx := N, ct := N, bk := D.nx } σ2 H2) := by
  refine ⟨fun i m σ H => m = xs.length - i ∧ i ≤ xs.length ∧ Pv i σ H, ⟨xs.length, by simp, Nat.zero_le _, h0⟩, ?_⟩
  rintro i m σ H ⟨rfl, hi, hp⟩
  have hq : SqL K H a xs := .inl (.inl (hl i σ H hi hp))
  by_cases z : i = xs.length
  · subst z
    exact .inl ⟨⟨xs, hq, Nat.le_refl _⟩, hd σ H hp⟩
  · have hlt : i < xs.length := by omega
    have hx : xs[i]? = some xs[i] := List.getElem?_eq_getElem hlt
    refine .inr ⟨⟨xs, _, hq, hx⟩, fun σ' H' => Pv (i + 1) σ' H', fun σ' H' h => ⟨xs.length - (i + 1), by omega, rfl, by omega, h⟩, ?_⟩
    rintro x H' ⟨T, y, rfl, hT, rfl, hy⟩
    have e := hy xs hq
    exact hs i y T σ H e hp hT
end L2
end
section
set_option Elab.async false
set_option linter.all false
set_option maxRecDepth 100000
namespace L2
/-! ### the least place: plain mathematics -/
def rdv (n b : Int) : Int := -((-n) / b) * b
theorem rdv_ge {n b : Int} (hb : 0 < b) : n ≤ rdv n b := by
  unfold rdv
  have := Int.ediv_mul_le (-n) (show b ≠ 0 by omega)
  rw [Int.neg_mul]
  omega
theorem rdv_dvd {n b : Int} : rdv n b % b = 0 := by
  unfold rdv
  exact Int.mul_emod_left _ _
theorem rdv_least {n b m : Int} (hb : 0 < b) (h : n ≤ m) (hm : m % b = 0) : rdv n b ≤ m := by
  unfold rdv
  obtain ⟨k, rfl⟩ := Int.dvd_of_emod_eq_zero hm
  have h1 : -k ≤ (-n) / b := by
    rw [Int.le_ediv_iff_mul_le hb, Int.neg_mul, Int.mul_comm k b]
    omega
  rw [Int.mul_comm b k]
  exact Int.mul_le_mul_of_nonneg_right (by omega) (by omega)
def upv (n b : Int) : Int := n + (0 - n) % b
theorem upv_ge {n b : Int} (hb : 0 < b) : n ≤ upv n b := by
  have := Int.emod_nonneg (0 - n) (show b ≠ 0 by omega)
  unfold upv
  omega
theorem upv_lt {n b : Int} (hb : 0 < b) : upv n b < n + b := by
  have := Int.emod_lt_of_pos (0 - n) hb
  unfold upv
  omega
theorem upv_dvd {n b : Int} : upv n b % b = 0 := by
  unfold upv
  rw [Int.add_emod, Int.emod_emod, ← Int.add_emod]
  have : n + (0 - n) = 0 := by omega
  rw [this]
  simp
theorem dvd_gap {x y b : Int} (hb : 0 < b) (hx : x % b = 0) (hy : y % b = 0) (h : x < y) : x + b ≤ y := by
  obtain ⟨k, rfl⟩ := Int.dvd_of_emod_eq_zero hx
  obtain ⟨l, rfl⟩ := Int.dvd_of_emod_eq_zero hy
  have h1 : k < l := Int.lt_of_mul_lt_mul_left h (by omega)
  have h2 : b * (k + 1) ≤ b * l := Int.mul_le_mul_of_nonneg_left (by omega) (by omega)
  rw [Int.mul_add, Int.mul_one] at h2
  exact h2
theorem upv_eq {n b : Int} (hb : 0 < b) : upv n b = rdv n b := by
  have h1 := rdv_least hb (upv_ge (n := n) hb) upv_dvd
  have h2 := rdv_ge (n := n) hb
  have h3 := upv_lt (n := n) hb
  rcases Int.lt_or_eq_of_le h1 with h | h
  · have := dvd_gap hb rdv_dvd upv_dvd h
    omega
  · exact h.symm
def Free (s : Int) (R : Int × Int → Prop) (p : Int) : Prop := ∀ r, R r → ¬ (r.1 < p + s ∧ p < r.2)
structure LeastP (s b : Int) (R : Int × Int → Prop) (p : Int) : Prop where
  nn : 0 ≤ p
  dv : p % b = 0
  fr : Free s R p
  le : ∀ q, 0 ≤ q → q % b = 0 → Free s R q → p ≤ q
theorem LeastP.uniq {s b : Int} {R : Int × Int → Prop} {p q : Int} (h : LeastP s b R p) (k : LeastP s b R q) : p = q := Int.le_antisymm (h.le q k.nn k.dv k.fr) (k.le p h.nn h.dv h.fr)
theorem LeastP.congr {s b : Int} {R R' : Int × Int → Prop} {p : Int} (h : LeastP s b R p) (e : ∀ r, R r ↔ R' r) : LeastP s b R' p := by
  have : R = R' := funext fun r => propext (e r)
  exact this ▸ h
open Classical in
noncomputable def lpv (s b : Int) (R : Int × Int → Prop) : Int := if h : ∃ p, LeastP s b R p then h.choose else 0
theorem LeastP.eq {s b : Int} {R : Int × Int → Prop} {p : Int} (h : LeastP s b R p) : lpv s b R = p := by
  unfold lpv
  rw [dif_pos ⟨p, h⟩]
  exact (Exists.choose_spec (⟨p, h⟩ : ∃ p, LeastP s b R p)).uniq h
/-! things put one by one -/
def bor (tl : List Th) (i : Int) : Int := (tl.getD i.toNat (0, 1, 1)).2.2
theorem bor_at {tl : List Th} {i : Int} {x : Th} (h : tl[i.toNat]? = some x) : bor tl i = x.2.2 := by
  unfold bor
  rw [List.getD_eq_getElem?_getD, h]
  rfl
section
open PySem
end
end L2
end
section
set_option Elab.async false
set_option linter.all false
set_option maxRecDepth 100000
namespace L2
open PySem PySem.Spec PyProof.Rows
open AutoSeq1 (wpAny_loadPart')
/-! ### enumerate over a tuple -/
set_option maxHeartbeats 2000000 in
section
variable {prog : Program} {w : World} {A : Around} {E : Value → Shared → Prop} {s : Shared}
end
theorem Draws.tup {prog : Program} {w : World} {A : Around} (hh : A.handled = none) (it l : Addr) (hne : l ≠ it) (items : Array Value) :
    Draws prog w A it [it, l] items.size (fun i v => items[i]? = some v) (fun i h => IsTupIter h it l i ∧ IsTup h l items) where
  live := fun _ _ st => let ⟨o, ho, _⟩ := st.1; ⟨o, ho⟩
  frame := fun _ _ _ st hk => ⟨let ⟨o, ho, r⟩ := st.1; ⟨o, hk it (by simp) o ho, r⟩, let ⟨o, ho, r⟩ := st.2; ⟨o, hk l (by simp) o ho, r⟩⟩
  item := fun i s Q E hi st hQ => by
    refine nextT_item st.1 st.2 (x := items[i]) (by simp [hi]) fun h' hit' hs' => ?_
    exact hQ _ h' s.toks (by simp [hi]) ⟨hit', st.2.extBut hs'.extBut hne⟩ hs'
  done := fun s Q E st hE => nextT_end hh st.1 st.2 (by simp) hE
end L2
end
section
set_option Elab.async false
set_option linter.all false
set_option maxRecDepth 100000
namespace L2
/-! ### moves that lose nothing: plain mathematics -/
def ovr (tl : List Th) (t u p q : Int) : Bool := decide (p < q + siz tl u ∧ q < p + siz tl t)
def inR (tl : List Th) (t : Int) : Prop := 0 ≤ t ∧ t < tl.length
def nums (n : Nat) : List Int := (List.range n).map fun (k : Nat) => (k : Int)
theorem mem_nums {n : Nat} {t : Int} : t ∈ nums n ↔ 0 ≤ t ∧ t < n := by
  unfold nums
  rw [List.mem_map]
  constructor
  · rintro ⟨k, hk, rfl⟩
    have := List.mem_range.mp hk
    omega
  · rintro ⟨h0, h1⟩
    exact ⟨t.toNat, List.mem_range.mpr (by omega), by omega⟩
def inW (tl : List Th) (ps : List Int) (t p : Int) : Option Int := (nums tl.length).find? fun u => decide (u ≠ t) && ovr tl t u p (plc ps u)
theorem inW_none {tl : List Th} {ps : List Int} {t p : Int} : inW tl ps t p = none ↔ ∀ u, inR tl u → u ≠ t → ovr tl t u p (plc ps u) = false := by
  unfold inW
  rw [List.find?_eq_none]
  constructor
  · intro h u hu hn
    have := h u (mem_nums.mpr hu)
    simpa [hn] using this
  · intro h u hu
    have hu := mem_nums.mp hu
    by_cases z : u = t
    · simp [z]
    · simp [z, h u hu z]
theorem inW_some {tl : List Th} {ps : List Int} {t p u : Int} (h : inW tl ps t p = some u) : inR tl u ∧ u ≠ t ∧ ovr tl t u p (plc ps u) = true := by
  unfold inW at h
  have h1 := List.find?_some h
  have h2 := mem_nums.mp (List.mem_of_find?_eq_some h)
  simp only [Bool.and_eq_true, decide_eq_true_eq] at h1
  exact ⟨h2, h1.1, h1.2⟩
theorem ovr_comm {tl : List Th} {t u p q : Int} : ovr tl t u p q = ovr tl u t q p := by
  unfold ovr
  exact decide_eq_decide.mpr ⟨fun h => ⟨h.2, h.1⟩, fun h => ⟨h.2, h.1⟩⟩
def setP (ps : List Int) (t p : Int) : List Int := ps.set t.toNat p
theorem setP_len {ps : List Int} {t p : Int} : (setP ps t p).length = ps.length := List.length_set
theorem plc_set {ps : List Int} {t p u : Int} (h0 : 0 ≤ t) (h1 : t < ps.length) (hu : 0 ≤ u) : plc (setP ps t p) u = if u = t then p else plc ps u := by
  unfold plc setP
  rw [List.getD_eq_getElem?_getD, List.getD_eq_getElem?_getD, List.getElem?_set]
  by_cases z : u = t
  · subst z
    rw [if_pos rfl, if_pos rfl, if_pos (by omega)]
    rfl
  · rw [if_neg z, if_neg (by omega)]
def Apt (tl : List Th) (ps : List Int) : Prop := ∀ u v, inR tl u → inR tl v → u ≠ v → ovr tl u v (plc ps u) (plc ps v) = false
theorem Apt.set {tl : List Th} {ps : List Int} {t p : Int} (h : Apt tl ps) (hl : ps.length = tl.length) (ht : inR tl t) (hw : inW tl ps t p = none) : Apt tl (setP ps t p) := by
  intro u v hu hv hn
  have hw := inW_none.mp hw
  rw [plc_set ht.1 (by rw [hl]; exact ht.2) hu.1, plc_set ht.1 (by rw [hl]; exact ht.2) hv.1]
  by_cases zu : u = t
  · subst zu
    rw [if_pos rfl, if_neg (fun e => hn e.symm)]
    exact hw v hv (fun e => hn e.symm)
  · rw [if_neg zu]
    by_cases zv : v = t
    · subst zv
      rw [if_pos rfl, ovr_comm]
      exact hw u hu zu
    · rw [if_neg zv]
      exact h u v hu hv hn
def legal (tl : List Th) (ps : List Int) (m : Int × Int) : Prop := inR tl m.1 ∧ 0 ≤ m.2 ∧ m.2 % bor tl m.1 = 0 ∧ inW tl ps m.1 m.2 = none
open Classical in
noncomputable def play (tl : List Th) : List Int → List (Int × Int) → Option (List Int)
  | ps, [] => some ps
  | ps, m :: ms => if legal tl ps m then play tl (setP ps m.1 m.2) ms else none
theorem play_snoc {tl : List Th} {m : Int × Int} : ∀ {ms : List (Int × Int)} {ps qs : List Int}, play tl ps ms = some qs → legal tl qs m → play tl ps (ms ++ [m]) = some (setP qs m.1 m.2)
  | [], ps, qs, h, hl => by
    simp only [play] at h
    cases h
    simp only [List.nil_append, play, if_pos hl]
  | x :: ms, ps, qs, h, hl => by
    simp only [play] at h
    split at h
    · rename_i c
      simp only [List.cons_append, play, if_pos c]
      exact play_snoc h hl
    · cases h
def cntM (tm : List (Int × Int)) (t : Int) : Nat := tm.countP fun m => decide (m.1 = t)
theorem cntM_snoc {tm : List (Int × Int)} {m : Int × Int} {t : Int} : cntM (tm ++ [m]) t = cntM tm t + (if m.1 = t then 1 else 0) := by
  unfold cntM
  rw [List.countP_append]
  congr 1
  by_cases z : m.1 = t <;> simp [z]
/-- what holds while things are moved -/
structure MvI (tl : List Th) (olds news ps : List Int) (tm : List (Int × Int)) (pk : List Int) (top0 top : Int) : Prop where
  len : ps.length = tl.length
  ap : Apt tl ps
  pl : play tl olds tm = some ps
  dv : ∀ t, inR tl t → 0 ≤ plc ps t ∧ plc ps t % bor tl t = 0
  un : ∀ t, inR tl t → t ∉ pk → (plc ps t = plc olds t ∧ cntM tm t = 0) ∨ (plc ps t = plc news t ∧ cntM tm t = 1 ∧ plc olds t ≠ plc news t)
  pa : ∀ t, t ∈ pk → inR tl t ∧ plc olds t ≠ plc news t ∧ ((plc ps t ≠ plc news t ∧ top0 ≤ plc ps t ∧ cntM tm t = 1) ∨ (plc ps t = plc news t ∧ cntM tm t = 2))
  nd : pk.Nodup
  tp : ∀ t, inR tl t → plc ps t + siz tl t ≤ top
  t0 : top0 ≤ top
  tm : ∀ m ∈ tm, inR tl m.1
/-- what is handed in -/
structure MvH (tl : List Th) (olds news : List Int) (top0 : Int) : Prop where
  lo : olds.length = tl.length
  ln : news.length = tl.length
  ao : Apt tl olds
  an : Apt tl news
  po : ∀ t, inR tl t → 0 ≤ plc olds t ∧ plc olds t % bor tl t = 0
  pn : ∀ t, inR tl t → 0 ≤ plc news t ∧ plc news t % bor tl t = 0
  so : ∀ t, inR tl t → plc olds t + siz tl t ≤ top0
  sn : ∀ t, inR tl t → plc news t + siz tl t ≤ top0
  b0 : ∀ t, inR tl t → 0 < bor tl t
  s0 : ∀ t, inR tl t → 0 < siz tl t
theorem MvI.park {tl : List Th} {olds news ps : List Int} {tm : List (Int × Int)} {pk : List Int} {top0 top t : Int} (hh : MvH tl olds news top0) (h : MvI tl olds news ps tm pk top0 top) (ht : inR tl t) (hw : plc ps t ≠ plc news t) (hp : t ∉ pk) :
    MvI tl olds news (setP ps t (rdv top (bor tl t))) (tm ++ [(t, rdv top (bor tl t))]) (t :: pk) top0 (rdv top (bor tl t) + siz tl t) := by
  have g1 := rdv_ge (n := top) (hh.b0 t ht)
  have hs : ∀ u, 0 ≤ u → plc (setP ps t (rdv top (bor tl t))) u = if u = t then rdv top (bor tl t) else plc ps u := fun u hu => plc_set ht.1 (by rw [h.len]; exact ht.2) hu
  have st := hh.s0 t ht
  have hf : inW tl ps t (rdv top (bor tl t)) = none := inW_none.mpr fun u hu hn => by
    have := h.tp u hu
    unfold ovr
    exact decide_eq_false fun c => by omega
  have hp0 : 0 ≤ rdv top (bor tl t) := by
    have := h.tp t ht
    have := (h.dv t ht).1
    omega
  have hun := h.un t ht hp
  have hnn := (hh.sn t ht)
  have ht0 := h.t0
  refine ⟨by rw [setP_len]; exact h.len, h.ap.set h.len ht hf, play_snoc h.pl ⟨ht, hp0, rdv_dvd, hf⟩, fun u hu => ?_, fun u hu hpu => ?_, fun u hu => ?_, List.nodup_cons.mpr ⟨hp, h.nd⟩, fun u hu => ?_, by omega, fun m hm => ?_⟩
  · rw [hs u hu.1]
    split
    · rename_i e; rw [e]; exact ⟨hp0, rdv_dvd⟩
    · exact h.dv u hu
  · have e : u ≠ t := fun e => hpu (by rw [e]; exact List.mem_cons_self ..)
    rw [hs u hu.1, cntM_snoc, if_neg e, if_neg (fun x => e x.symm)]
    exact h.un u hu fun x => hpu (List.mem_cons_of_mem _ x)
  · by_cases e : u = t
    · subst e
      rw [hs u ht.1, cntM_snoc, if_pos rfl, if_pos rfl]
      rcases hun with ⟨a, b⟩ | ⟨a, _⟩
      · exact ⟨ht, by rw [← a]; exact hw, .inl ⟨by omega, by omega, by omega⟩⟩
      · exact absurd a hw
    · obtain ⟨a, b, c⟩ := h.pa u (by rcases List.mem_cons.mp hu with x | x; exact absurd x e; exact x)
      refine ⟨a, b, ?_⟩
      rw [hs u a.1, cntM_snoc, if_neg e, if_neg (fun x => e x.symm)]
      exact c
  · rw [hs u hu.1]
    split
    · rename_i e; rw [e]; exact Int.le_refl _
    · have := h.tp u hu
      omega
  · rcases List.mem_append.mp hm with x | x
    · exact h.tm m x
    · cases List.mem_singleton.mp x
      exact ht
/-- what is in the way of a waiting one waits too, and wasn't put out of the way -/
theorem MvI.way {tl : List Th} {olds news ps : List Int} {tm : List (Int × Int)} {pk : List Int} {top0 top t u : Int} (hh : MvH tl olds news top0) (h : MvI tl olds news ps tm pk top0 top) (ht : inR tl t) (hu : inW tl ps t (plc news t) = some u) :
    inR tl u ∧ plc ps u ≠ plc news u ∧ u ∉ pk := by
  obtain ⟨h1, h2, h3⟩ := inW_some hu
  have hw : plc ps u ≠ plc news u := fun e => by
    rw [e, hh.an t u ht h1 (Ne.symm h2)] at h3
    cases h3
  refine ⟨h1, hw, fun hp => ?_⟩
  obtain ⟨_, _, c⟩ := h.pa u hp
  rcases c with ⟨_, c, _⟩ | ⟨c, _⟩
  · have := of_decide_eq_true h3
    have := hh.sn t ht
    omega
  · exact hw c
theorem nums_nodup {n : Nat} : (nums n).Nodup := by
  unfold nums
  rw [List.Nodup, List.pairwise_map]
  exact List.nodup_range.imp fun h => by omega
def Sett (tl : List Th) (news ps : List Int) : Prop := ∀ t, inR tl t → plc ps t ≠ plc news t → ∃ u, inW tl ps t (plc news t) = some u
def waits (tl : List Th) (news ps : List Int) : List Int := (nums tl.length).filter fun t => decide (plc ps t ≠ plc news t)
theorem mem_waits {tl : List Th} {news ps : List Int} {t : Int} : t ∈ waits tl news ps ↔ inR tl t ∧ plc ps t ≠ plc news t := by
  unfold waits
  rw [List.mem_filter, mem_nums]
  simp [inR]
theorem nodup_leM : ∀ {l l2 : List Int}, l.Nodup → (∀ x ∈ l, x ∈ l2) → l.length ≤ l2.length
  | [], _, _, _ => Nat.zero_le _
  | x :: l, l2, hn, hs => by
    have hn' := List.nodup_cons.mp hn
    have hx := hs x (by simp)
    have := nodup_leM (l := l) (l2 := l2.erase x) hn'.2 fun y hy => (List.mem_erase_of_ne (fun (e : y = x) => hn'.1 (by rw [← e]; exact hy))).mpr (hs y (by simp [hy]))
    rw [List.length_erase_of_mem hx] at this
    have h0 := List.length_pos_of_mem hx
    rw [List.length_cons]
    omega
/-- all alike, at places that their size divides -/
structure Slots (tl : List Th) (olds news : List Int) : Prop where
  ex : ∃ s : Int, 0 < s ∧ (∀ t, inR tl t → siz tl t = s) ∧ (∀ t, inR tl t → plc olds t % s = 0) ∧ ∀ t, inR tl t → plc news t % s = 0
theorem slots_same {s p q : Int} (hs : 0 < s) (hp : p % s = 0) (hq : q % s = 0) (h1 : p < q + s) (h2 : q < p + s) : p = q := by
  rcases Int.lt_trichotomy p q with h | h | h
  · have := dvd_gap hs hp hq h
    omega
  · exact h
  · have := dvd_gap hs hq hp h
    omega
/-- in a settled state of slots none that was put out of the way waits -/
theorem MvI.slots {tl : List Th} {olds news ps : List Int} {tm : List (Int × Int)} {pk : List Int} {top0 top : Int} (hh : MvH tl olds news top0) (h : MvI tl olds news ps tm pk top0 top) (hs : Slots tl olds news) (hst : Sett tl news ps) : ∀ t ∈ pk, plc ps t = plc news t := by
  obtain ⟨s, s0, ssz, so, sn⟩ := hs.ex
  intro t htp
  apply Classical.byContradiction
  intro hw
  have htR := (h.pa t htp).1
  let f : Int → Int := fun t => (inW tl ps t (plc news t)).getD 0
  have hf : ∀ x ∈ waits tl news ps, inW tl ps x (plc news x) = some (f x) := fun x hx => by
    obtain ⟨a, b⟩ := mem_waits.mp hx
    obtain ⟨u, hu⟩ := hst x a b
    show _ = some ((inW tl ps x (plc news x)).getD 0)
    rw [hu]
    rfl
  have hold : ∀ x ∈ waits tl news ps, f x ∈ (waits tl news ps).filter (fun y => decide (y ∉ pk)) ∧ plc news x = plc olds (f x) := fun x hx => by
    obtain ⟨a, b⟩ := mem_waits.mp hx
    obtain ⟨c1, c2, c3⟩ := h.way hh a (hf x hx)
    obtain ⟨_, d2, d3⟩ := inW_some (hf x hx)
    refine ⟨List.mem_filter.mpr ⟨mem_waits.mpr ⟨c1, c2⟩, by simp [c3]⟩, ?_⟩
    have e : plc ps (f x) = plc olds (f x) := by
      rcases h.un (f x) c1 c3 with ⟨e, _⟩ | ⟨e, _⟩
      · exact e
      · exact absurd e c2
    rw [e] at d3
    have d := of_decide_eq_true d3
    rw [ssz _ a, ssz _ c1] at d
    exact slots_same s0 (sn x a) (so _ c1) d.1 d.2
  have hnd : ((waits tl news ps).map f).Nodup := by
    rw [List.Nodup, List.pairwise_map]
    have hn : (waits tl news ps).Nodup := nums_nodup.filter _
    refine hn.imp_of_mem fun {a b} ha hb hab e => ?_
    have e1 := (hold a ha).2
    have e2 := (hold b hb).2
    rw [e] at e1
    have := hh.an a b (mem_waits.mp ha).1 (mem_waits.mp hb).1 hab
    have e3 := of_decide_eq_false this
    rw [e1, e2, ssz _ (mem_waits.mp ha).1, ssz _ (mem_waits.mp hb).1] at e3
    omega
  have hle := nodup_leM hnd (l2 := (waits tl news ps).filter (fun y => decide (y ∉ pk))) fun y hy => by
    obtain ⟨x, hx, rfl⟩ := List.mem_map.mp hy
    exact (hold x hx).1
  rw [List.length_map] at hle
  have hlt : ((waits tl news ps).filter (fun y => decide (y ∉ pk))).length < (waits tl news ps).length := by
    apply List.length_filter_lt_length_iff_exists.mpr
    exact ⟨t, mem_waits.mpr ⟨htR, hw⟩, by simp [htp]⟩
  omega
def fin (tl : List Th) (olds news ps : List Int) : Nat := (nums tl.length).countP fun t => decide (plc olds t ≠ plc news t) && decide (plc ps t = plc news t)
end L2
end
section
set_option Elab.async false
set_option linter.all false
set_option maxRecDepth 100000
/-! list.count of whole numbers -/
namespace L2
open PySem PySem.Spec PyProof.Rows
section
variable {X : Cx}
end
end L2
end
section
set_option Elab.async false
set_option linter.all false
set_option maxRecDepth 100000
/-! moves: one outcome only -/
namespace L2
abbrev MS := List Int × List (Int × Int)
def it {α : Type} (f : α → α) : Nat → α → α
  | 0, a => a
  | n + 1, a => it f n (f a)
theorem it_fix {α : Type} {f : α → α} {a : α} (h : f a = a) : ∀ n, it f n a = a
  | 0 => rfl
  | n + 1 => by rw [it, h, it_fix h n]
theorem it_add {α : Type} {f : α → α} : ∀ (n m : Nat) (a : α), it f (n + m) a = it f m (it f n a)
  | 0, m, a => by rw [Nat.zero_add]; rfl
  | n + 1, m, a => by rw [Nat.add_right_comm]; exact it_add n m (f a)
theorem it_one {α : Type} {f : α → α} {a b c : α} {n m : Nat} (hb : b = it f n a) (hc : c = it f m a) (fb : f b = b) (fc : f c = c) : b = c := by
  rcases Nat.le_total n m with h | h
  · obtain ⟨k, rfl⟩ := Nat.exists_eq_add_of_le h
    rw [it_add, ← hb, it_fix fb] at hc
    exact hc.symm
  · obtain ⟨k, rfl⟩ := Nat.exists_eq_add_of_le h
    rw [it_add, ← hc, it_fix fc] at hb
    exact hb
/-- one thing of a pass -/
def stp (tl : List Th) (news : List Int) (s : MS) (t : Int) : MS :=
  if plc s.1 t ≠ plc news t ∧ inW tl s.1 t (plc news t) = none then (setP s.1 t (plc news t), s.2 ++ [(t, plc news t)]) else s
/-- one pass over all -/
def pas (tl : List Th) (news : List Int) (s : MS) : MS := (nums tl.length).foldl (stp tl news) s
theorem fold_fix {α β : Type} {f : α → β → α} {a : α} : ∀ {l : List β}, (∀ b ∈ l, f a b = a) → l.foldl f a = a
  | [], _ => rfl
  | b :: l, h => by
    rw [List.foldl_cons, h b (List.mem_cons_self ..)]
    exact fold_fix fun c hc => h c (List.mem_cons_of_mem _ hc)
theorem pas_fix {tl : List Th} {news : List Int} {s : MS} (h : Sett tl news s.1) : pas tl news s = s := by
  refine fold_fix fun t ht => ?_
  unfold stp
  refine if_neg fun ⟨c1, c2⟩ => ?_
  obtain ⟨u, hu⟩ := h t (mem_nums.mp ht) c1
  rw [hu] at c2
  cases c2
/-- settled, as the passes leave it -/
def SetR (tl : List Th) (news : List Int) (s s' : MS) : Prop := (∃ n, s' = it (pas tl news) n s) ∧ Sett tl news s'.1
theorem SetR.one {tl : List Th} {news : List Int} {s a b : MS} (ha : SetR tl news s a) (hb : SetR tl news s b) : a = b := by
  obtain ⟨⟨n, en⟩, fa⟩ := ha
  obtain ⟨⟨m, em⟩, fb⟩ := hb
  exact it_one en em (pas_fix fa) (pas_fix fb)
def rng1 (tl : List Th) (news ps : List Int) : Int := it (fun t => (inW tl ps t (plc news t)).getD 0) (waits tl news ps).length ((waits tl news ps).headD 0)
def IsH (xs : List Int) (h : Int) : Prop := (xs = [] ∧ h = 0) ∨ (h ∈ xs ∧ ∀ z ∈ xs, z ≤ h)
theorem IsH.one {xs : List Int} {g h : Int} (a : IsH xs g) (b : IsH xs h) : g = h := by
  rcases a with ⟨a1, a2⟩ | ⟨a1, a2⟩ <;> rcases b with ⟨b1, b2⟩ | ⟨b1, b2⟩
  · rw [a2, b2]
  · rw [a1] at b1; cases b1
  · rw [b1] at a1; cases a1
  · have := a2 h b1
    have := b2 g a1
    omega
/-- a run of moves, after n things were parked -/
inductive Run (tl : List Th) (olds news : List Int) (top0 : Int) : Nat → MS → Int → Prop
  | start {s : MS} (h : SetR tl news (olds, []) s) : Run tl olds news top0 0 s top0
  | park {n : Nat} {s s' : MS} {top : Int} (r : Run tl olds news top0 n s top) (ne : s.1 ≠ news)
      (h : SetR tl news (setP s.1 (rng1 tl news s.1) (rdv top (bor tl (rng1 tl news s.1))), s.2 ++ [(rng1 tl news s.1, rdv top (bor tl (rng1 tl news s.1)))]) s') :
      Run tl olds news top0 (n + 1) s' (rdv top (bor tl (rng1 tl news s.1)) + siz tl (rng1 tl news s.1))
theorem Run.one {tl : List Th} {olds news : List Int} {top0 : Int} : ∀ {n : Nat} {s s' : MS} {t t' : Int}, Run tl olds news top0 n s t → Run tl olds news top0 n s' t' → s = s' ∧ t = t' := by
  intro n
  induction n with
  | zero =>
    intro s s' t t' a b
    cases a with
    | start ha =>
      cases b with
      | start hb => exact ⟨ha.one hb, rfl⟩
  | succ n ih =>
    intro s s' t t' a b
    cases a with
    | park ra na ha =>
      cases b with
      | park rb nb hb =>
        obtain ⟨e1, e2⟩ := ih ra rb
        subst e1 e2
        exact ⟨ha.one hb, rfl⟩
theorem Run.before {tl : List Th} {olds news : List Int} {top0 : Int} : ∀ {m n : Nat} {s : MS} {t : Int}, Run tl olds news top0 m s t → n < m → ∃ s' t', Run tl olds news top0 n s' t' ∧ s'.1 ≠ news := by
  intro m
  induction m with
  | zero => intro n s t _ h; omega
  | succ m ih =>
    intro n s t a h
    cases a with
    | park r ne hh =>
      by_cases c : n = m
      · subst c
        exact ⟨_, _, r, ne⟩
      · exact ih r (by omega)
theorem Run.end {tl : List Th} {olds news : List Int} {top0 : Int} {n m : Nat} {s s' : MS} {t t' : Int} (a : Run tl olds news top0 n s t) (b : Run tl olds news top0 m s' t') (ea : s.1 = news) (eb : s'.1 = news) : s = s' := by
  rcases Nat.lt_trichotomy n m with h | h | h
  · obtain ⟨s2, t2, r, ne⟩ := b.before h
    exact absurd ((r.one a).1 ▸ ea) ne
  · subst h
    exact (a.one b).1
  · obtain ⟨s2, t2, r, ne⟩ := a.before h
    exact absurd ((r.one b).1 ▸ eb) ne
end L2
end
section
set_option Elab.async false
set_option linter.all false
set_option maxRecDepth 100000
namespace L2
open PySem PySem.Spec PyProof.Rows
/-! ### xs[::-1] of a tracked list -/
def tRev (te : TE) : TE := fun σ H Q => te σ H fun x H1 => ∃ a xs, x = .ref a ∧ H1 a = some (.lst xs) ∧ ∀ p, H1 p = none → Q (.ref p) (upd H1 p (.lst xs.reverse))
section
variable {X : Cx} {e k : Expr} {te : TE} {pos p2 : Pos}
end
/-- a slice of a tracked list -/
def rSlLH : V → Option Int → Option Int → Hp → VK → Prop := fun x lo hi H Q => ∃ a xs, x = .ref a ∧ H a = some (.lst xs) ∧ ∀ p, H p = none → Q (.ref p) (upd H p (.lst (cutV xs lo hi)))
theorem sl_listH {X : Cx} : SlR X rSlLH := by
  intro pins s σ H x v vl vu lo hi sl Q I rx hs pl pu h
  obtain ⟨a, xs, e, ha, q⟩ := h
  exact sl_list pins s σ H x v vl vu lo hi sl Q I rx hs pl pu ⟨a, xs, e, SqL.of ha, q⟩
theorem cut_refs {tr : List Th} {lo hi : Option Int} : ∃ tr', cutV (thRefs tr) lo hi = thRefs tr' ∧ (∀ x ∈ tr', x ∈ tr) ∧ tr'.length ≤ tr.length := by
  refine ⟨(tr.drop (HT.sIx (thRefs tr).length 0 lo)).take (HT.sIx (thRefs tr).length (thRefs tr).length hi - HT.sIx (thRefs tr).length 0 lo), ?_, fun x hx => List.mem_of_mem_drop (List.mem_of_mem_take hx), ?_⟩
  · unfold cutV
    generalize HT.sIx (thRefs tr).length 0 lo = a
    generalize HT.sIx (thRefs tr).length (thRefs tr).length hi = b
    unfold thRefs
    rw [List.map_take, List.map_drop]
  · rw [List.length_take, List.length_drop]
    omega
/-! ### data that stays while numbers are drawn -/
def RpX (p : Addr) (H : Hp) (v : V) (d : D) : Prop := ∀ H2, Ext p H H2 → Rp H2 v d
def RpXL (p : Addr) (H : Hp) (xs : List V) (ds : List D) : Prop := ∀ H2, Ext p H H2 → RpL H2 xs ds
theorem RpX.rp {p : Addr} {H : Hp} {v : V} {d : D} (h : RpX p H v d) : Rp H v d := h H Ext.refl
theorem RpX.ext {p : Addr} {H H1 : Hp} {v : V} {d : D} (h : RpX p H v d) (e : Ext p H H1) : RpX p H1 v d := fun H2 e2 => h H2 (e.trans e2)
theorem RpXL.ext {p : Addr} {H H1 : Hp} {v : List V} {d : List D} (h : RpXL p H v d) (e : Ext p H H1) : RpXL p H1 v d := fun H2 e2 => h H2 (e.trans e2)
theorem RpX.lst {p a : Addr} {H : Hp} {xs : List V} {ds : List D} (h : H a = some (.lst xs)) (n : a ≠ p) (r : RpXL p H xs ds) : RpX p H (.ref a) (.lst ds) := fun H2 e => .lst (e _ _ h n) (r H2 e)
theorem RpX.tup {p a : Addr} {H : Hp} {n : Int} {xs : List V} {ds : List D} (t : Tape H p n) (h : H a = some (.tup xs)) (r : RpXL p H xs ds) : RpX p H (.ref a) (.tup ds) := fun H2 e => .tup (e.kpt t _ _ h) (r H2 e)
theorem RpX.non {p : Addr} {H : Hp} : RpX p H .non .non := fun _ _ => .non
theorem RpX.int {p : Addr} {H : Hp} {i : Int} : RpX p H (.int i) (.int i) := fun _ _ => .int _
theorem RpX.bl {p : Addr} {H : Hp} {i : Bool} : RpX p H (.bl i) (.bl i) := fun _ _ => .bl _
theorem RpX.str {p : Addr} {H : Hp} {i : Str} : RpX p H (.str i) (.str i) := fun _ _ => .str _
theorem RpXL.nil {p : Addr} {H : Hp} : RpXL p H [] [] := fun _ _ => .nil
theorem RpXL.cons {p : Addr} {H : Hp} {x : V} {d : D} {xs : List V} {ds : List D} (h : RpX p H x d) (r : RpXL p H xs ds) : RpXL p H (x :: xs) (d :: ds) := fun H2 e => .cons (h H2 e) (r H2 e)
theorem RpXL.at {p : Addr} {H : Hp} {xs : List V} {ds : List D} {i : Nat} {x : V} (h : RpXL p H xs ds) (e : xs[i]? = some x) : ∃ d, ds[i]? = some d ∧ RpX p H x d := by
  obtain ⟨d, h1, h2⟩ := (h H Ext.refl).at e
  refine ⟨d, h1, fun H2 e2 => ?_⟩
  obtain ⟨d', h3, h4⟩ := (h H2 e2).at e
  rw [h1] at h3
  cases h3
  exact h4
theorem RpXL.refs {p : Addr} {H : Hp} {n : Int} {tr : List Th} (t : Tape H p n) (h : ∀ x ∈ tr, H x.1 = some (.tup [.int x.2.1, .int x.2.2])) : RpXL p H (thRefs tr) (tr.map thD) := fun H2 e => rp_refs fun x hx => e.kpt t _ _ (h x hx)
/-! ### moves as data -/
def mvD : D → Option (Int × Int)
  | .tup [.int a, .int b] => some (a, b)
  | _ => none
theorem Rp.ty {H : Hp} {x : V} {d : D} (h : Rp H x d) : ∃ Ty, tyN H x = some Ty := by
  cases h with
  | non => exact ⟨_, tyN_non⟩
  | bl b => exact ⟨_, tyN_bl⟩
  | int i => exact ⟨_, tyN_int⟩
  | str i => exact ⟨_, tyN_str⟩
  | lst h r => exact ⟨"list", by rw [tyN_ref, h]; rfl⟩
  | tup h r => exact ⟨"tuple", by rw [tyN_ref, h]; rfl⟩
/-- what lies in a bent list -/
def ElOk (B : Nat) (d : D) : Prop := (∃ a b : Int, d = .tup [.int a, .int b] ∧ a.natAbs < B ∧ b.natAbs < B) ∨ (mvD d = none ∧ ShD d ∧ (toPy d).bulk ≤ 5 ∧ (toPy d).depth ≤ 2)
theorem ElOk.mono {B C : Nat} {d : D} (h : ElOk B d) (l : B ≤ C) : ElOk C d := by
  rcases h with ⟨a, b, e, h1, h2⟩ | h
  · exact .inl ⟨a, b, e, by omega, by omega⟩
  · exact .inr h
def GoodB (L B : Nat) (d : D) : Prop := ∃ ds, (d = .lst ds ∨ d = .tup ds) ∧ ds.length ≤ L ∧ ∀ e ∈ ds, ElOk B e
theorem tr_ok {B : Nat} {tr : List Th} (h : ∀ x ∈ tr, x.2.1.natAbs < B ∧ x.2.2.natAbs < B) : ∀ e ∈ tr.map thD, ElOk B e := fun e he => by
  obtain ⟨x, hx, rfl⟩ := List.mem_map.mp he
  exact .inl ⟨_, _, rfl, (h x hx).1, (h x hx).2⟩
end L2
end
section
set_option Elab.async false
set_option linter.all false
set_option maxRecDepth 100000
namespace L2
open PySem PySem.Spec PyProof.Rows
/-! ### terms that give lists of small data -/
def LV (p : Addr) (L B : Nat) (H : Hp) (x : V) : Prop := ∃ a xs ds, x = .ref a ∧ a ≠ p ∧ H a = some (.lst xs) ∧ RpXL p H xs ds ∧ ds.length ≤ L ∧ ∀ e ∈ ds, ElOk B e
theorem LV.same {p : Addr} {L B : Nat} {H H' : Hp} {x : V} (h : LV p L B H x) (s : Same H H') : LV p L B H' x := by
  obtain ⟨a, xs, ds, e, n, ha, r, l, o⟩ := h
  exact ⟨a, xs, ds, e, n, s _ _ ha, r.ext s.ext, l, o⟩
def MkB (p : Addr) (L B : Nat) (te : TE) (σ : St) (H0 : Hp) : Prop := ∀ H, Same H0 H → ∀ Q : VK, (∀ x H', Same H H' → LV p L B H' x → Q x H') → te σ H Q
def PPt (σ : St) (to : TO) : Prop := ∀ H (Q : Option Int → Hp → Prop), (∀ o, Q o H) → to σ H Q
section
variable {p : Addr} {L L1 L2 B : Nat} {te t1 t2 : TE} {σ : St} {H0 : Hp} {n : Int} {tr : List Th} {l : Addr} {i : Nat} {lo hi : TO}
theorem MkB.sl (hσ : σ[i]? = some (some (.ref l))) (tp : Tape H0 p n) (hl : H0 l = some (.lst (thRefs tr))) (htr : ∀ x ∈ tr, H0 x.1 = some (.tup [.int x.2.1, .int x.2.2])) (hbd : ∀ x ∈ tr, x.2.1.natAbs < B ∧ x.2.2.natAbs < B) (h1 : PPt σ lo) (h2 : PPt σ hi) : MkB p tr.length B (tSl rSlLH (tVar i) lo hi) σ H0 := by
  intro H s Q h
  refine ⟨_, hσ, h1 _ _ fun o1 => h2 _ _ fun o2 => ⟨l, _, rfl, s _ _ hl, fun q hq => ?_⟩⟩
  obtain ⟨tr', e, m, ln⟩ := cut_refs (tr := tr) (lo := o1) (hi := o2)
  rw [e]
  have sq := Same.new (o := .lst (thRefs tr')) hq
  exact h _ _ sq ⟨q, _, tr'.map thD, rfl, (tp.same s).ne hq, upd_same, RpXL.refs ((tp.same s).same sq) (fun x hx => sq _ _ (s _ _ (htr x (m x hx)))), by rw [List.length_map]; exact ln, tr_ok fun x hx => hbd x (m x hx)⟩
theorem MkB.one (tp : Tape H0 p n) (h1 : ∀ H, Same H0 H → ∀ Q : VK, (∀ x d H', Same H H' → RpX p H' x d → ElOk B d → Q x H') → te σ H Q) : MkB p 1 B (tLst (tCons te tNil)) σ H0 := by
  intro H s Q h
  refine h1 H s _ fun x d H1 s1 r1 o1 => ⟨show 1 ≤ sizeLine by decide, fun q hq => ?_⟩
  have sq := Same.new (o := .lst [x]) hq
  exact h _ _ (s1.trans sq) ⟨q, _, [d], rfl, (tp.same (s.trans s1)).ne hq, upd_same, RpXL.cons (r1.ext sq.ext) RpXL.nil, Nat.le_refl _, fun e he => by rw [List.mem_singleton.mp he]; exact o1⟩
/-! ### items that are good as bent lists -/
def Gd (p : Addr) (L B : Nat) (H : Hp) (x : V) : Prop := ∃ d, RpX p H x d ∧ GoodB L B d
theorem Gd.same {H H' : Hp} {x : V} (h : Gd p L B H x) (s : Same H H') : Gd p L B H' x := by
  obtain ⟨d, r, g⟩ := h
  exact ⟨d, r.ext s.ext, g⟩
theorem LV.gd {H : Hp} {x : V} {C : Nat} (h : LV p L1 B H x) (l : L1 ≤ L) (c : B ≤ C) : Gd p L C H x := by
  obtain ⟨a, xs, ds, rfl, na, ha, ra, la, oa⟩ := h
  exact ⟨.lst ds, RpX.lst ha na ra, ds, .inl rfl, by omega, fun e he => (oa e he).mono c⟩
def MkG (p : Addr) (L B : Nat) (te : TE) (σ : St) (H0 : Hp) : Prop := ∀ H, Same H0 H → ∀ Q : VK, (∀ x H', Same H H' → Gd p L B H' x → Q x H') → te σ H Q
theorem MkB.g {C : Nat} (h : MkB p L1 B te σ H0) (l : L1 ≤ L) (c : B ≤ C) : MkG p L C te σ H0 := fun H s Q k => h H s Q fun x H' s' v => k x H' s' (v.gd l c)
def MkGs (p : Addr) (L B k : Nat) (ta : TA) (σ : St) (H0 : Hp) : Prop := ∀ H, Same H0 H → ∀ Q : List V → Hp → Prop, (∀ xs H', Same H H' → xs.length = k → (∀ x ∈ xs, Gd p L B H' x) → Q xs H') → ta σ H Q
theorem MkGs.nil : MkGs p L B 0 tNil σ H0 := fun H s Q k => k [] H (Same.refl _) rfl fun x hx => by cases hx
theorem MkGs.cons {k : Nat} {ta : TA} (h1 : MkG p L B te σ H0) (h2 : MkGs p L B k ta σ H0) : MkGs p L B (k + 1) (tCons te ta) σ H0 := fun H s Q h =>
  h1 H s _ fun x H1 s1 g1 => h2 H1 (s.trans s1) _ fun xs H2 s2 l2 g2 => h (x :: xs) H2 (s1.trans s2) (by rw [List.length_cons, l2]) fun y hy => by
    rcases List.mem_cons.mp hy with rfl | hy
    · exact g1.same s2
    · exact g2 y hy
end
end L2
end
section
set_option Elab.async false
set_option linter.all false
set_option maxRecDepth 100000
/-! how far the told places of a run go -/
namespace L2
/-- each told place within a bound; no fewer are told -/
structure Bd (C : Int) (s s' : MS) : Prop where
  len : s.2.length ≤ s'.2.length
  all : (∀ m ∈ s.2, 0 ≤ m.2 ∧ m.2 ≤ C) → ∀ m ∈ s'.2, 0 ≤ m.2 ∧ m.2 ≤ C
theorem Bd.refl {C : Int} {s : MS} : Bd C s s := ⟨Nat.le_refl _, fun h => h⟩
theorem Bd.trans {C : Int} {a b c : MS} (h : Bd C a b) (g : Bd C b c) : Bd C a c := ⟨Nat.le_trans h.len g.len, fun z => g.all (h.all z)⟩
end L2
end
section
set_option Elab.async false
set_option linter.all false
set_option maxRecDepth 100000
namespace L2
open PySem
section
variable {prog : Program} {w : World} {A : Around} {E : Value → Shared → Prop} {s : Shared} {a : Addr} {o : Obj} {es : Array (Int × Value)} {ep : Nat} {t : SetTable}
end
end L2
end
section
set_option Elab.async false
set_option linter.all false
set_option maxRecDepth 100000
namespace L2
open PySem PySem.W PyProof.Rows
/-- the iterator at it of the set at a, i given out -/
def SetIt (h : Heap) (it a : Addr) (slot i n ep : Nat) : Prop := ∃ o, h.get? it = some o ∧ o.cls = .type "set_iterator" ∧ o.data = .fields #[.int slot 0, .int i 0, .ref a, .int n 0, .int ep 0]
section
variable {prog : Program} {w : World} {A : Around} {E : Value → Shared → Prop} {s : Shared} {a it : Addr} {o : Obj} {es : Array (Int × Value)} {ep slot i : Nat} {t : SetTable}
theorem SetIt.ty (x : SetIt s.heap it a slot i es.size ep) : s.TypeIs (.ref it) "set_iterator" := let ⟨u, hu, hc, _⟩ := x; ⟨u, hu, hc⟩
theorem SetIt.at' {h h' : Heap} {n : Nat} (x : SetIt h it a slot i n ep) (e : ∀ u, h.get? it = some u → h'.get? it = some u) : SetIt h' it a slot i n ep := let ⟨u, hu, r⟩ := x; ⟨u, e _ hu, r⟩
end
section
variable {prog : Program} {w : World} {a : Addr} {es : Array (Int × Value)} {ep : Nat} {t : SetTable}
end
end L2
end
section
set_option Elab.async false
set_option linter.all false
set_option maxRecDepth 100000
namespace L2
open PySem PySem.W PyProof.Rows
section
variable {prog : Program} {w : World} {A : Around} {E : Value → Shared → Prop} {s : Shared} {a : Addr} {es : Array (Int × Value)} {ep : Nat} {t : SetTable} {ns : List Int}
end
end L2
end
section
set_option Elab.async false
set_option linter.all false
set_option maxRecDepth 100000
namespace L2
open PySem PySem.W PyProof.Rows
section
variable {prog : Program} {w : World} {A : Around} {E : Value → Shared → Prop} {s : Shared}
end
end L2
end
section
set_option Elab.async false
set_option linter.all false
set_option maxRecDepth 100000
namespace L2
open PySem PySem.W PyProof.Rows
section
variable {prog : Program} {w : World} {A : Around} {E : Value → Shared → Prop} {s : Shared}
/-- the set at a -/
def SetIn (w : World) (h : Heap) (a : Addr) (ns : List Int) : Prop := ∃ o, h.get? a = some o ∧ SetObj w o ns
theorem SetIn.ty {a : Addr} {ns : List Int} (x : SetIn w s.heap a ns) : s.TypeIs (.ref a) "set" := let ⟨o, ho, hx, _⟩ := x; ⟨o, ho, hx.1⟩
theorem SetIn.lt {h : Heap} {a : Addr} {ns : List Int} (x : SetIn w h a ns) : a < h.objs.size := let ⟨_, ho, _⟩ := x; Heap.lt_size ho
theorem SetIn.keep {h h' : Heap} {a : Addr} {ns : List Int} (x : SetIn w h a ns) (k : ∀ u, h.get? a = some u → h'.get? a = some u) : SetIn w h' a ns := let ⟨o, ho, r⟩ := x; ⟨o, k _ ho, r⟩
end
end L2
end
section
set_option Elab.async false
set_option linter.all false
set_option maxRecDepth 100000
namespace L2
open PySem PySem.Spec PyProof.Rows
def rSetOf (c : List V → HO) : List V → Hp → VK → Prop := fun vs H Q => ∃ (a : Addr) (ns : List Int), vs = [V.ref a] ∧ H a = some (c (ns.map V.int)) ∧ ns.length < 4000 ∧
  ∀ (p : Addr) (S : Int → Bool) (n : Nat), H p = none → (∀ x, S x = true ↔ x ∈ ns) → (n = ns.length ↔ ns.Nodup) → n ≤ ns.length → Q (.ref p) (upd H p (.set S n))
def rSortedSet : List V → Hp → VK → Prop := fun vs H Q => ∃ (a : Addr) (S : Int → Bool) (n : Nat), vs = [V.ref a] ∧ H a = some (.set S n) ∧
  ∀ (ns : List Int) (p : Addr), (∀ x, x ∈ ns ↔ S x = true) → ns.Pairwise (· < ·) → ns.length = n → H p = none → Q (.ref p) (upd H p (.lst (ns.map V.int)))
def rSetAnd : R2 := fun x y H Q => ∃ (a b : Addr) (S T : Int → Bool) (n m : Nat), x = .ref a ∧ y = .ref b ∧ H a = some (.set S n) ∧ H b = some (.set T m) ∧ b ≠ a ∧
  ∀ (p : Addr) (k : Nat), H p = none → Q (.ref p) (upd H p (.set (fun x => S x && T x) k))
def rSetSub : R2 := fun x y H Q => ∃ (a b : Addr) (S T : Int → Bool) (n m : Nat), x = .ref a ∧ y = .ref b ∧ H a = some (.set S n) ∧ H b = some (.set T m) ∧ n / 4 ≤ m ∧
  ∀ (p : Addr) (k : Nat), H p = none → (k = 0 ↔ ∀ x, S x = true → T x = true) → Q (.ref p) (upd H p (.set (fun x => S x && !T x) k))
section
variable {X : Cx}
def rLenSet : List V → Hp → VK → Prop := fun vs H Q => ∃ (a : Addr) (S : Int → Bool) (n : Nat), vs = [V.ref a] ∧ H a = some (.set S n) ∧ Q (.int n) H
end
end L2
namespace L2
open PySem PySem.Spec PyProof.Rows
def rSortI : List V → Hp → VK → Prop := fun vs H Q => ∃ (a : Addr) (ns : List Int), vs = [V.ref a] ∧ H a = some (.lst (ns.map V.int)) ∧ ns.length < 64 ∧ ∀ (ns' : List Int) (p : Addr), ns'.Perm ns → ns'.Pairwise (· ≤ ·) → H p = none → Q (.ref p) (upd H p (.lst (ns'.map V.int)))
/-- a list of small numbers, however long -/
def rSetB : List V → Hp → VK → Prop := fun vs H Q => ∃ (a : Addr) (ns : List Int), vs = [V.ref a] ∧ H a = some (.lst (ns.map V.int)) ∧ (∀ x ∈ ns, 0 ≤ x ∧ x < 3000) ∧
  ∀ (p : Addr) (S : Int → Bool) (n : Nat), H p = none → (∀ x, S x = true ↔ x ∈ ns) → n ≤ 3000 → Q (.ref p) (upd H p (.set S n))
end L2
end
section
set_option Elab.async false
set_option linter.all false
set_option maxRecDepth 100000
namespace L2
open PySem PySem.W PyProof.Rows
section
variable {prog : Program} {w : World} {A : Around} {E : Value → Shared → Prop} {s : Shared}
end
end L2
end
section
set_option Elab.async false
set_option linter.all false
set_option maxRecDepth 100000
namespace L2
open PySem PySem.Spec PyProof.Rows
section
variable {X : Cx}
end
section
variable {prog : Program} {w : World} {A : Around} {R : Result → Shared → Prop} {s : Shared} {elt t0 i0 t1 i1 : Expr} {ifs0 ifs1 : List Expr} {scope : Scope} {pos : Pos} {it acc : Value} {env : Env}
end
section
variable {X : Cx}
end
end L2
end
section
set_option Elab.async false
set_option linter.all false
set_option maxRecDepth 100000
namespace L2
open PySem PySem.Spec PyProof.Rows
def rSetOr : R2 := fun x y H Q => ∃ (a b : Addr) (S T : Int → Bool) (n m : Nat), x = .ref a ∧ y = .ref b ∧ H a = some (.set S n) ∧ H b = some (.set T m) ∧ b ≠ a ∧ n + m < 4000 ∧
  ∀ (p : Addr) (k : Nat), H p = none → Q (.ref p) (upd H p (.set (fun x => S x || T x) k))
section
variable {X : Cx}
end
/-- S holds just those of xs, c in number -/
def SetIs (S : Int → Bool) (c : Nat) (xs : List Int) : Prop := ∃ ns : List Int, ns.Nodup ∧ (∀ x, S x = true ↔ x ∈ ns) ∧ ns.length = c ∧ ∀ x, x ∈ ns ↔ x ∈ xs
theorem SetIs.nil : SetIs (fun _ => false) 0 [] := ⟨[], List.nodup_nil, fun x => by simp, rfl, fun x => by simp⟩
theorem SetIs.le {S : Int → Bool} {c : Nat} {xs : List Int} (h : SetIs S c xs) (hb : ∀ t ∈ xs, 0 ≤ t ∧ t < 50) : c ≤ 50 := by
  obtain ⟨ns, h1, h2, h3, h4⟩ := h
  have := nodup_len (m := 50) (fun t ht => hb t ((h4 t).mp ht)) h1
  omega
/-- lists of whole numbers -/
structure LsAt (H : Hp) (vs : List V) (ts : List (List Int)) : Prop where
  len : vs.length = ts.length
  at' : ∀ (i : Nat) (v : V), vs[i]? = some v → ∃ a t, v = .ref a ∧ ts[i]? = some t ∧ H a = some (.lst (t.map V.int))
theorem LsAt.same {H H' : Hp} {vs : List V} {ts : List (List Int)} (h : LsAt H vs ts) (e : Same H H') : LsAt H' vs ts := ⟨h.len, fun i v hv => let ⟨a, t, h1, h2, h3⟩ := h.at' i v hv; ⟨a, t, h1, h2, e _ _ h3⟩⟩
/-- all that some of the lists hold -/
def uni (ts : List (List Int)) (rs : List Int) : List Int := (rs.map fun r => ts.getD r.toNat []).flatten
end L2
end
section
set_option Elab.async false
set_option linter.all false
set_option maxRecDepth 100000
namespace L2
open PySem PySem.Spec PyProof.Rows
section
variable {X : Cx}
end
end L2
end
section
set_option Elab.async false
set_option linter.all false
set_option maxRecDepth 100000
namespace L2
open PySem PySem.Spec PyProof.Rows
end L2
end
section
set_option Elab.async false
set_option linter.all false
set_option maxRecDepth 100000
namespace L2
open PySem
def isR : Itm → Bool
  | .either _ _ => false | .round _ => false | _ => true
/-! rising lists -/
def Ris (l : List Int) : Prop := l.Pairwise (· < ·)
theorem ris_ext : ∀ {a b : List Int}, Ris a → Ris b → (∀ x, x ∈ a ↔ x ∈ b) → a = b
  | [], [], _, _, _ => rfl
  | [], y :: b, _, _, h => by have := (h y).mpr (by simp); simp at this
  | x :: a, [], _, _, h => by have := (h x).mp (by simp); simp at this
  | x :: a, y :: b, ha, hb, h => by
    have ha' := List.pairwise_cons.mp ha
    have hb' := List.pairwise_cons.mp hb
    have e : x = y := by
      have h1 := (h x).mp (by simp)
      have h2 := (h y).mpr (by simp)
      rcases List.mem_cons.mp h1 with e | m1
      · exact e
      · rcases List.mem_cons.mp h2 with e | m2
        · exact e.symm
        · have := hb'.1 x m1
          have := ha'.1 y m2
          omega
    subst e
    congr 1
    refine ris_ext ha'.2 hb'.2 fun z => ?_
    have hz := h z
    rw [List.mem_cons, List.mem_cons] at hz
    constructor
    · intro m
      rcases hz.mp (.inr m) with e | m2
      · have := ha'.1 z m; omega
      · exact m2
    · intro m
      rcases hz.mpr (.inr m) with e | m2
      · have := hb'.1 z m; omega
      · exact m2
/-- put in at its place, once -/
def insS (x : Int) : List Int → List Int
  | [] => [x]
  | y :: l => if x < y then x :: y :: l else if x = y then y :: l else y :: insS x l
theorem mem_insS {x z : Int} : ∀ {l : List Int}, z ∈ insS x l ↔ z = x ∨ z ∈ l
  | [] => by simp [insS]
  | y :: l => by
    unfold insS
    split
    · simp
    · split
      · rename_i e; subst e; simp
      · rw [List.mem_cons, mem_insS, List.mem_cons]
        constructor
        · rintro (h | h | h)
          · exact .inr (.inl h)
          · exact .inl h
          · exact .inr (.inr h)
        · rintro (h | h | h)
          · exact .inr (.inl h)
          · exact .inl h
          · exact .inr (.inr h)
theorem ris_insS {x : Int} : ∀ {l : List Int}, Ris l → Ris (insS x l)
  | [], _ => by simp [insS, Ris]
  | y :: l, h => by
    have h' := List.pairwise_cons.mp h
    unfold insS
    split
    · rename_i hx
      exact List.pairwise_cons.mpr ⟨fun z hz => by
        rcases List.mem_cons.mp hz with e | m
        · omega
        · have := h'.1 z m; omega, h⟩
    · split
      · exact h
      · exact List.pairwise_cons.mpr ⟨fun z hz => by
          rcases mem_insS.mp hz with e | m
          · omega
          · exact h'.1 z m, ris_insS h'.2⟩
/-- what it writes -/
def wrI : Itm → Option Int
  | .row _ w => w
  | _ => none
def ndI : Itm → List Int
  | .row rs _ => rs
  | .give t => [t]
  | _ => []
/-- each row finds written what it needs -/
inductive Finds : List Itm → List (List Int) → Prop
  | nil : Finds [] []
  | cons {i l r q} (h : ∀ t ∈ ndI i, t ∈ l) (n : (ndI i).Nodup) (f : Finds r q) : Finds (i :: r) (l :: q)
theorem Finds.len : ∀ {a : List Itm} {p : List (List Int)}, Finds a p → a.length = p.length
  | _, _, .nil => rfl
  | _, _, .cons _ _ f => by simp [f.len]
theorem Finds.at {a : List Itm} {p : List (List Int)} (f : Finds a p) : ∀ {i : Nat} {x : Itm} {l : List Int}, a[i]? = some x → p[i]? = some l → (∀ t ∈ ndI x, t ∈ l) ∧ (ndI x).Nodup := by
  induction f with
  | nil => intro i x l h; simp at h
  | cons h n f ih =>
    intro i x l hx hl
    cases i with
    | zero =>
      simp only [List.getElem?_cons_zero, Option.some.injEq] at hx hl
      subst hx; subst hl
      exact ⟨h, n⟩
    | succ i =>
      simp only [List.getElem?_cons_succ] at hx hl
      exact ih hx hl
end L2
end
section
set_option Elab.async false
set_option linter.all false
set_option maxRecDepth 100000
namespace L2
open PySem
mutual
def shI (m : Int) : Itm → Prop
  | .row rs w => rs.length ≤ 100 ∧ rs.Nodup ∧ (∀ t ∈ rs, 0 ≤ t ∧ t < m) ∧ ∀ t ∈ w, 0 ≤ t ∧ t < m
  | .give t => 0 ≤ t ∧ t < m
  | .back t => 0 ≤ t ∧ t < m
  | .either a b => shL m a ∧ shL m b
  | .round a => shL m a
def shL (m : Int) : List Itm → Prop
  | [] => True
  | i :: r => shI m i ∧ shL m r
end
end L2
end
section
set_option Elab.async false
set_option linter.all false
set_option maxRecDepth 100000
namespace L2
open PySem
theorem ris_lo {m : Int} : ∀ {l : List Int} {lo : Int}, Ris l → (∀ t ∈ l, lo ≤ t ∧ t < m) → (l.length : Int) ≤ max 0 (m - lo)
  | [], lo, _, _ => by simp; omega
  | x :: l, lo, h, hb => by
    have h' := List.pairwise_cons.mp h
    have hx := hb x (by simp)
    have := ris_lo (l := l) (lo := x + 1) h'.2 fun t ht => ⟨by have := h'.1 t ht; omega, (hb t (by simp [ht])).2⟩
    rw [List.length_cons]
    omega
theorem ris_len {l : List Int} (h : Ris l) (hb : ∀ t ∈ l, 0 ≤ t ∧ t < 50) : l.length ≤ 50 := by
  have := ris_lo h hb
  omega
end L2
end
section
set_option Elab.async false
set_option linter.all false
set_option maxRecDepth 100000
namespace L2
open PySem
/-- the lists of whole numbers that vs are -/
def Tl (D : Addr) (H : Hp) : List V → List (List Int) → Prop
  | [], [] => True
  | v :: vs, t :: ts => (∃ a, v = .ref a ∧ a ≠ D ∧ H a = some (.lst (t.map V.int))) ∧ Tl D H vs ts
  | _, _ => False
theorem Tl.ext {D : Addr} {H H' : Hp} (e : Ext D H H') : ∀ {vs : List V} {ts : List (List Int)}, Tl D H vs ts → Tl D H' vs ts
  | [], [], _ => trivial
  | v :: vs, t :: ts, h => by
    obtain ⟨⟨a, h1, h2, h3⟩, h4⟩ := h
    exact ⟨⟨a, h1, h2, e a _ h3 h2⟩, Tl.ext e h4⟩
  | [], _ :: _, h => h.elim
  | _ :: _, [], h => h.elim
theorem Tl.len {D : Addr} {H : Hp} : ∀ {vs : List V} {ts : List (List Int)}, Tl D H vs ts → vs.length = ts.length
  | [], [], _ => rfl
  | v :: vs, t :: ts, h => by simp [Tl.len h.2]
  | [], _ :: _, h => h.elim
  | _ :: _, [], h => h.elim
theorem Tl.at {D : Addr} {H : Hp} : ∀ {vs : List V} {ts : List (List Int)} {i : Nat} {v : V}, Tl D H vs ts → vs[i]? = some v → ∃ a t, v = .ref a ∧ a ≠ D ∧ ts[i]? = some t ∧ H a = some (.lst (t.map V.int))
  | v :: vs, t :: ts, 0, x, h, e => by
    simp only [List.getElem?_cons_zero, Option.some.injEq] at e
    subst e
    obtain ⟨⟨a, h1, h2, h3⟩, _⟩ := h
    exact ⟨a, t, h1, h2, rfl, h3⟩
  | v :: vs, t :: ts, i + 1, x, h, e => by
    simp only [List.getElem?_cons_succ] at e
    obtain ⟨a, t', h1, h2, h3, h4⟩ := Tl.at h.2 e
    exact ⟨a, t', h1, h2, by simpa using h3, h4⟩
  | _ :: _, [], _, _, h, _ => h.elim
  | [], _, _, _, _, e => by simp at e
end L2
end
section
set_option Elab.async false
set_option linter.all false
set_option maxRecDepth 100000
namespace L2
open PySem
abbrev Fa := List Int × List Int × Bool
/-- all of l stand below m -/
def Bel (m : Nat) (l : List Int) : Prop := ∀ t ∈ l, 0 ≤ t ∧ t < m
theorem Bel.mono {m m' : Nat} {l : List Int} (h : Bel m l) (hm : m ≤ m') : Bel m' l := fun t ht => ⟨(h t ht).1, by have := (h t ht).2; omega⟩
structure FaOk (m : Nat) (c : Fa) : Prop where
  f : Bel m c.1
  l : Bel m c.2.1
theorem FaOk.mono {m m' : Nat} {c : Fa} (h : FaOk m c) (hm : m ≤ m') : FaOk m' c := ⟨h.f.mono hm, h.l.mono hm⟩
def NxOk (m : Nat) (nx : List (List Int)) : Prop := ∀ l ∈ nx, Bel m l
theorem NxOk.mono {m m' : Nat} {nx : List (List Int)} (h : NxOk m nx) (hm : m ≤ m') : NxOk m' nx := fun l hl => (h l hl).mono hm
/-- the list of lists at D -/
structure NxAt (H : Hp) (D : Addr) (rs : List Addr) (nx : List (List Int)) : Prop where
  at' : H D = some (.lst (rs.map V.ref))
  len : rs.length = nx.length
  nd : rs.Nodup
  nD : D ∉ rs
  ls : ∀ (i : Nat) (r : Addr), rs[i]? = some r → ∃ l, nx[i]? = some l ∧ H r = some (.lst (l.map V.int))
/-- all but D and rs stays -/
def FxN (D : Addr) (rs : List Addr) (H H' : Hp) : Prop := ∀ b o, H b = some o → b ≠ D → b ∉ rs → H' b = some o
theorem FxN.refl {D : Addr} {rs : List Addr} {H : Hp} : FxN D rs H H := fun _ _ h _ _ => h
theorem FxN.trans {D : Addr} {rs : List Addr} {H H1 H2 : Hp} (a : FxN D rs H H1) (b : FxN D rs H1 H2) : FxN D rs H H2 := fun c o h n1 n2 => b c o (a c o h n1 n2) n1 n2
theorem NxAt.same {H H' : Hp} {D : Addr} {rs : List Addr} {nx : List (List Int)} (h : NxAt H D rs nx) (e : Same H H') : NxAt H' D rs nx := ⟨e _ _ h.at', h.len, h.nd, h.nD, fun i r hr => let ⟨l, h1, h2⟩ := h.ls i r hr; ⟨l, h1, e _ _ h2⟩⟩
theorem NxAt.kpt {H H' : Hp} {D : Addr} {rs : List Addr} {nx : List (List Int)} (h : NxAt H D rs nx) (f : FxN D rs H H') : KpT H H' := fun a xs e => f a _ e (fun z => by rw [z, h.at'] at e; cases e) fun z => by
  obtain ⟨i, hi, ei⟩ := List.mem_iff_getElem.mp z
  obtain ⟨l, _, h2⟩ := h.ls i a (by rw [List.getElem?_eq_getElem hi, ei])
  rw [h2] at e
  cases e
/-- one more behind the row i -/
theorem NxAt.ext {H : Hp} {D : Addr} {rs : List Addr} {nx : List (List Int)} (h : NxAt H D rs nx) {i : Nat} {r : Addr} (hr : rs[i]? = some r) (fs : List Int) : NxAt (upd H r (.lst ((nx.getD i [] ++ fs).map V.int))) D rs (nx.set i (nx.getD i [] ++ fs)) := by
  have hrm := List.mem_of_getElem? hr
  have hi : i < rs.length := (List.getElem?_eq_some_iff.mp hr).1
  refine ⟨?_, by rw [List.length_set]; exact h.len, h.nd, h.nD, fun j q hq => ?_⟩
  · rw [upd_ne (show D ≠ r from fun z => h.nD (by rw [z]; exact hrm))]
    exact h.at'
  · by_cases z : j = i
    · subst z
      rw [hr] at hq
      cases hq
      exact ⟨_, List.getElem?_set_self (by rw [← h.len]; exact hi), upd_same⟩
    · obtain ⟨l, h1, h2⟩ := h.ls j q hq
      refine ⟨l, by rw [List.getElem?_set_ne (Ne.symm z)]; exact h1, ?_⟩
      rw [upd_ne]
      · exact h2
      · intro e
        subst e
        have hj : j < rs.length := (List.getElem?_eq_some_iff.mp hq).1
        have := (List.getElem?_inj hj h.nd).mp (hq.trans hr.symm)
        exact z this
theorem getD_set_self {nx : List (List Int)} {i : Nat} {x : List Int} (h : i < nx.length) : (nx.set i x).getD i [] = x := by
  rw [List.getD_eq_getElem?_getD, List.getElem?_set_self h]; rfl
theorem getD_set_ne {nx : List (List Int)} {i j : Nat} {x : List Int} (h : i ≠ j) : (nx.set i x).getD j [] = nx.getD j [] := by
  rw [List.getD_eq_getElem?_getD, List.getElem?_set_ne h, ← List.getD_eq_getElem?_getD]
end L2
end
section
set_option Elab.async false
set_option linter.all false
set_option maxRecDepth 100000
namespace L2
open PySem
def Rng (lo m : Nat) (l : List Int) : Prop := ∀ t ∈ l, (lo : Int) ≤ t ∧ t < m
theorem Rng.nil {lo m : Nat} : Rng lo m [] := fun t ht => by simp at ht
theorem Rng.mono {lo m lo' m' : Nat} {l : List Int} (h : Rng lo m l) (h1 : lo' ≤ lo) (h2 : m ≤ m') : Rng lo' m' l := fun t ht => ⟨by have := (h t ht).1; omega, by have := (h t ht).2; omega⟩
structure FaR (lo m : Nat) (c : Fa) : Prop where
  f : Rng lo m c.1
  fn : c.1.Nodup
  l : Rng lo m c.2.1
  ln : c.2.1.Nodup
theorem FaR.nil {lo m : Nat} {b : Bool} : FaR lo m ([], [], b) := ⟨Rng.nil, List.nodup_nil, Rng.nil, List.nodup_nil⟩
theorem FaR.one (n : Nat) {b : Bool} : FaR n (n + 1) ([(n : Int)], [(n : Int)], b) := by
  have h : Rng n (n + 1) [(n : Int)] := fun t ht => by simp only [List.mem_cons, List.not_mem_nil, or_false] at ht; omega
  exact ⟨h, by simp, h, by simp⟩
def Sz (B : Nat) (nx : List (List Int)) : Prop := ∀ l ∈ nx, l.length ≤ B
theorem Sz.mono {B B' : Nat} {nx : List (List Int)} (h : Sz B nx) (hb : B ≤ B') : Sz B' nx := fun l hl => Nat.le_trans (h l hl) hb
theorem Sz.snoc {B : Nat} {nx : List (List Int)} (h : Sz B nx) : Sz B (nx ++ [[]]) := fun l hl => by
  rcases List.mem_append.mp hl with h1 | h1
  · exact h l h1
  · simp only [List.mem_cons, List.not_mem_nil, or_false] at h1
    subst h1
    exact Nat.zero_le _
theorem Rng.pos {lo m : Nat} {l : List Int} (h : Rng lo m l) : ∀ t ∈ l, 0 ≤ t := fun t ht => by have := (h t ht).1; omega
theorem FxN.free {D : Addr} {rs : List Addr} {H H' : Hp} {nx : List (List Int)} (f : FxN D rs H H') (h : NxAt H' D rs nx) {p : Addr} (hp : H' p = none) : H p = none := by
  cases e : H p with
  | none => rfl
  | some o =>
    have h1 : p ≠ D := fun z => by rw [z, h.at'] at hp; cases hp
    have h2 : p ∉ rs := fun z => by
      obtain ⟨i, hi, ei⟩ := List.mem_iff_getElem.mp z
      obtain ⟨l, _, h3⟩ := h.ls i p (by rw [List.getElem?_eq_getElem hi, ei])
      rw [hp] at h3
      cases h3
    rw [f p o e h1 h2] at hp
    cases hp
theorem NxAt.snoc {H : Hp} {D q : Addr} {rs : List Addr} {nx : List (List Int)} (h : NxAt H D rs nx) (hq : H q = none) : NxAt (upd (upd H q (.lst [])) D (.lst (rs.map V.ref ++ [.ref q]))) D (rs ++ [q]) (nx ++ [[]]) := by
  have hqD : q ≠ D := fun e => by rw [e, h.at'] at hq; cases hq
  have hqr : q ∉ rs := fun e => by
    obtain ⟨i, hi, ei⟩ := List.mem_iff_getElem.mp e
    obtain ⟨l, _, h2⟩ := h.ls i q (by rw [List.getElem?_eq_getElem hi, ei])
    rw [hq] at h2
    cases h2
  refine ⟨by rw [upd_same]; simp, by simp [h.len], ?_, ?_, fun i r hr => ?_⟩
  · rw [List.nodup_append]
    exact ⟨h.nd, by simp, fun a ha b hb e => by simp only [List.mem_cons, List.not_mem_nil, or_false] at hb; subst hb; exact hqr (e ▸ ha)⟩
  · simp only [List.mem_append, List.mem_cons, List.not_mem_nil, or_false, not_or]
    exact ⟨h.nD, fun e => hqD e.symm⟩
  · by_cases z : i < rs.length
    · rw [List.getElem?_append_left z] at hr
      obtain ⟨l, h1, h2⟩ := h.ls i r hr
      have hrm := List.mem_of_getElem? hr
      refine ⟨l, by rw [List.getElem?_append_left (by rw [← h.len]; exact z)]; exact h1, ?_⟩
      rw [upd_ne (fun e => h.nD (by rw [← e]; exact hrm)), upd_ne (fun e => hqr (by rw [← e]; exact hrm))]
      exact h2
    · rw [List.getElem?_append_right (by omega)] at hr
      have hi : i - rs.length = 0 := by
        rcases Nat.eq_zero_or_pos (i - rs.length) with y | y
        · exact y
        · rw [List.getElem?_eq_none (by simp; omega)] at hr; cases hr
      rw [hi] at hr
      cases hr
      refine ⟨[], by rw [List.getElem?_append_right (by rw [← h.len]; omega), ← h.len, hi]; rfl, ?_⟩
      rw [upd_ne hqD, upd_same]
      rfl
end L2
end
section
set_option Elab.async false
set_option linter.all false
set_option maxRecDepth 100000
namespace L2
open PySem
/-- the rising list of what is in l -/
def srt : List Int → List Int
  | [] => []
  | x :: l => insS x (srt l)
theorem ris_srt : ∀ l : List Int, Ris (srt l)
  | [] => List.Pairwise.nil
  | x :: l => ris_insS (ris_srt l)
theorem mem_srt {x : Int} : ∀ {l : List Int}, x ∈ srt l ↔ x ∈ l
  | [] => Iff.rfl
  | y :: l => by
    show x ∈ insS y (srt l) ↔ _
    rw [mem_insS, mem_srt, List.mem_cons]
theorem srt_of {ns l : List Int} (h : ns.Pairwise (· < ·)) (hm : ∀ x, x ∈ ns ↔ x ∈ l) : ns = srt l := ris_ext h (ris_srt l) fun x => by rw [hm, mem_srt]
theorem Tl.ls {D : Addr} {H : Hp} {vs : List V} {ts : List (List Int)} (h : Tl D H vs ts) : LsAt H vs ts := ⟨h.len, fun i v hv => let ⟨a, t, h1, _, h2, h3⟩ := h.at hv; ⟨a, t, h1, h2, h3⟩⟩
end L2
end
section
set_option Elab.async false
set_option linter.all false
set_option maxRecDepth 100000
namespace L2
open PySem PySem.W PySem.Spec PyProof.Rows
section
variable {prog : Program} {w : World} {A : Around} {E : Value → Shared → Prop} {s : Shared}
end
section
variable {X : Cx}
end
end L2
end
section
set_option Elab.async false
set_option linter.all false
set_option maxRecDepth 100000
namespace L2
open PySem PySem.W PySem.Spec PyProof.Rows
section
variable {X : Cx}
end
end L2
end
section
set_option Elab.async false
set_option linter.all false
set_option maxRecDepth 100000
namespace L2
open PySem
/-! ### displays as data -/
/-- wherever H0 stands, te tells something that is d, and lays new objects alone -/
def DE (H0 : Hp) (te : TE) (σ : St) (d : D) : Prop := ∀ (H : Hp) (Q : VK), Same H0 H → (∀ x H', Same H H' → Rp H' x d → Q x H') → te σ H Q
def DA (H0 : Hp) (ta : TA) (σ : St) (ds : List D) : Prop := ∀ (H : Hp) (Q : List V → Hp → Prop), Same H0 H → (∀ xs H', Same H H' → RpL H' xs ds → Q xs H') → ta σ H Q
section
variable {H0 : Hp} {te : TE} {ta : TA} {σ : St}
theorem DE.int {n : Int} : DE H0 (tC (.int n)) σ (.int n) := fun H Q _ k => k _ _ (Same.refl _) (.int n)
theorem DE.str {n : Str} : DE H0 (tC (.str n)) σ (.str n) := fun H Q _ k => k _ _ (Same.refl _) (.str n)
theorem DE.non : DE H0 (tC .non) σ .non := fun H Q _ k => k _ _ (Same.refl _) .non
theorem DE.ret {d : D} {D1 : Ends} {H : Hp} (h : DE H te σ d) (k : ∀ x H', Same H H' → Rp H' x d → D1.rt x H') : tRet te D1 σ H := h H _ (Same.refl _) k
theorem DA.nil : DA H0 tNil σ [] := fun H Q _ k => k [] H (Same.refl _) .nil
theorem DA.cons {d : D} {ds : List D} (h : DE H0 te σ d) (g : DA H0 ta σ ds) : DA H0 (tCons te ta) σ (d :: ds) := fun H Q s k =>
  h H _ s fun x H1 s1 r => g H1 _ (s.trans s1) fun xs H2 s2 rs => k (x :: xs) H2 (s1.trans s2) (.cons (r.same s2) rs)
theorem DE.tup {ds : List D} (h : DA H0 ta σ ds) (hl : ds.length ≤ 100000) : DE H0 (tTup ta) σ (.tup ds) := fun H Q s k =>
  h H _ s fun xs H1 s1 rs => ⟨by rw [rs.len]; exact Nat.le_of_lt (small_line hl), fun p hp => k _ _ (s1.trans (Same.new hp)) (.tup upd_same (rs.same (Same.new hp)))⟩
theorem DE.lst {ds : List D} (h : DA H0 ta σ ds) (hl : ds.length ≤ 100000) : DE H0 (tLst ta) σ (.lst ds) := fun H Q s k =>
  h H _ s fun xs H1 s1 rs => ⟨by rw [rs.len]; exact Nat.le_of_lt (small_line hl), fun p hp => k _ _ (s1.trans (Same.new hp)) (.lst upd_same (rs.same (Same.new hp)))⟩
theorem perm_srt {ns l : List Int} (p : ns.Perm l) (h : ns.Pairwise (· ≤ ·)) (hn : l.Nodup) : ns = srt l := by
  have hn2 := p.nodup_iff.mpr hn
  refine srt_of ((List.pairwise_and_iff.mpr ⟨h, hn2⟩).imp fun z => by have := z.1; have := z.2; omega) fun x => p.mem_iff
/-- sorted([a, b]) -/
theorem DE.sort2 {i j : Nat} {a b : Int} (h : σ[i]? = some (some (.int a))) (g : σ[j]? = some (some (.int b))) (hne : a ≠ b) : ∀ (H : Hp) (Q : VK), (∀ p H', Same H H' → H' p = some (.lst ((srt [a, b]).map V.int)) → Q (.ref p) H') → tCB rSortI (tCons (tLst (tCons (tVar i) (tCons (tVar j) tNil))) tNil) σ H Q := fun H Q k => by
  refine ⟨_, h, _, g, (show 2 ≤ sizeLine by decide), fun q hq => ⟨q, [a, b], rfl, upd_same, (show 2 < 64 by decide), fun ns' p hp hs hn => ?_⟩⟩
  have e := perm_srt hp hs (by simp [hne])
  subst e
  exact k p _ ((Same.new hq).trans (Same.new hn)) upd_same
/-- tuple(sorted([a, b])) -/
def T2 (te : TE) (σ : St) (p : Int × Int) : Prop := ∀ (H : Hp) (Q : VK), (∀ T H', Same H H' → H' T = some (.tup [.int p.1, .int p.2]) → Q (.ref T) H') → te σ H Q
theorem T2.of {i j : Nat} {a b : Int} {p : Int × Int} {r : List V → Hp → VK → Prop} (hr : ∀ (l T : Addr) (ys : List V) (H : Hp) (Q : VK), H l = some (.lst ys) → (∀ T, H T = none → Q (.ref T) (upd H T (.tup ys))) → r [.ref l] H Q) (h : σ[i]? = some (some (.int a))) (g : σ[j]? = some (some (.int b))) (hne : a ≠ b) (e : srt [a, b] = [p.1, p.2]) :
    T2 (tCB r (tCons (tCB rSortI (tCons (tLst (tCons (tVar i) (tCons (tVar j) tNil))) tNil)) tNil)) σ p := fun H Q k =>
  DE.sort2 h g hne H _ fun l H1 s1 e1 => hr l 0 _ H1 Q e1 fun T hT => k T _ (s1.trans (Same.new hT)) (by rw [upd_same, e]; rfl)
theorem DE.mono {H1 : Hp} {d : D} (h : DE H0 te σ d) (s : Same H0 H1) : DE H1 te σ d := fun H Q s1 k => h H Q (s.trans s1) k
/-- a != b, a == b of data that is alike -/
theorem DE.ne {te2 : TE} {d : D} {R : Bool → Hp → Prop} (h : DE H0 te σ d) (g : DE H0 te2 σ d) (hs : shp d) (k : ∀ H', Same H0 H' → R false H') : tTest (tOp rNeR te te2) σ H0 R :=
  h H0 _ (Same.refl _) fun x H1 s1 r1 => g H1 _ s1 fun y H2 s2 r2 => ⟨d, d, r1.same s2, r2, hs, hs, _, rfl, by rw [eqD_refl hs]; exact k H2 (s1.trans s2)⟩
theorem DE.eq {te2 : TE} {d : D} {Q : VK} (h : DE H0 te σ d) (g : DE H0 te2 σ d) (hs : shp d) (k : ∀ H', Same H0 H' → Q (.bl true) H') : tOp rEqR te te2 σ H0 Q :=
  h H0 _ (Same.refl _) fun x H1 s1 r1 => g H1 _ s1 fun y H2 s2 r2 => ⟨d, d, r1.same s2, r2, hs, hs, by rw [eqD_refl hs]; exact k H2 (s1.trans s2)⟩
end
end L2
end
section
set_option Elab.async false
set_option linter.all false
set_option maxRecDepth 100000
set_option maxHeartbeats 0
namespace K26
open PySem L2
def top (i : Nat) : Stmt := PySem.Challenge.pw_frameshare_k26_best_stacks.main.body.getD i (.Pass ⟨0, 0, 0, 0⟩)
abbrev s_all_of : Stmt := top 1
abbrev N_all_of : List Str := ["things"]
theorem sc_all_of : FnScope N_all_of ["things"] (defScope s_all_of) := ⟨rfl, rfl, rfl, by decide +kernel, rfl, by decide +kernel, by decide +kernel⟩
theorem st_all_of {v0 : V} : L2.start N_all_of [v0] = [some v0] := rfl
theorem v_all_of_0 {X : Cx} {pos : Pos} (eN : X.N = N_all_of := by rfl) (eS : X.env.scope = defScope s_all_of := by rfl) : QE X (.Name "things" pos) (tVar 0) := qpvN 0 rfl (Or.inl (by decide +kernel)) (by decide +kernel) (by decide +kernel) eN eS
theorem gl_all_of_len : (defScope s_all_of).names.lookup ("len" : Str) = some NameKind.globalImplicit := by decide +kernel
abbrev s_is_in : Stmt := top 2
abbrev N_is_in : List Str := ["t", "group"]
theorem sc_is_in : FnScope N_is_in ["t", "group"] (defScope s_is_in) := ⟨rfl, rfl, rfl, by decide +kernel, rfl, by decide +kernel, by decide +kernel⟩
theorem st_is_in {v0 v1 : V} : L2.start N_is_in [v0, v1] = [some v0, some v1] := rfl
theorem v_is_in_0 {X : Cx} {pos : Pos} (eN : X.N = N_is_in := by rfl) (eS : X.env.scope = defScope s_is_in := by rfl) : QE X (.Name "t" pos) (tVar 0) := qpvN 0 rfl (Or.inl (by decide +kernel)) (by decide +kernel) (by decide +kernel) eN eS
theorem v_is_in_1 {X : Cx} {pos : Pos} (eN : X.N = N_is_in := by rfl) (eS : X.env.scope = defScope s_is_in := by rfl) : QE X (.Name "group" pos) (tVar 1) := qpvN 1 rfl (Or.inl (by decide +kernel)) (by decide +kernel) (by decide +kernel) eN eS
abbrev s_members : Stmt := top 3
abbrev N_members : List Str := ["group", "t"]
theorem sc_members : FnScope N_members ["group"] (defScope s_members) := ⟨rfl, rfl, rfl, by decide +kernel, rfl, by decide +kernel, by decide +kernel⟩
theorem st_members {v0 : V} : L2.start N_members [v0] = [some v0, none] := rfl
theorem v_members_0 {X : Cx} {pos : Pos} (eN : X.N = N_members := by rfl) (eS : X.env.scope = defScope s_members := by rfl) : QE X (.Name "group" pos) (tVar 0) := qpvN 0 rfl (Or.inr (Or.inl (by decide +kernel))) (by decide +kernel) (by decide +kernel) eN eS
theorem gl_members_range : (defScope s_members).names.lookup ("range" : Str) = some NameKind.globalImplicit := by decide +kernel
abbrev s_without : Stmt := top 4
abbrev N_without : List Str := ["group", "t"]
theorem sc_without : FnScope N_without ["group", "t"] (defScope s_without) := ⟨rfl, rfl, rfl, by decide +kernel, rfl, by decide +kernel, by decide +kernel⟩
theorem st_without {v0 v1 : V} : L2.start N_without [v0, v1] = [some v0, some v1] := rfl
theorem v_without_0 {X : Cx} {pos : Pos} (eN : X.N = N_without := by rfl) (eS : X.env.scope = defScope s_without := by rfl) : QE X (.Name "group" pos) (tVar 0) := qpvN 0 rfl (Or.inl (by decide +kernel)) (by decide +kernel) (by decide +kernel) eN eS
theorem v_without_1 {X : Cx} {pos : Pos} (eN : X.N = N_without := by rfl) (eS : X.env.scope = defScope s_without := by rfl) : QE X (.Name "t" pos) (tVar 1) := qpvN 1 rfl (Or.inl (by decide +kernel)) (by decide +kernel) (by decide +kernel) eN eS
abbrev s_rounded : Stmt := top 6
abbrev N_rounded : List Str := ["number", "border"]
theorem sc_rounded : FnScope N_rounded ["number", "border"] (defScope s_rounded) := ⟨rfl, rfl, rfl, by decide +kernel, rfl, by decide +kernel, by decide +kernel⟩
theorem st_rounded {v0 v1 : V} : L2.start N_rounded [v0, v1] = [some v0, some v1] := rfl
theorem v_rounded_0 {X : Cx} {pos : Pos} (eN : X.N = N_rounded := by rfl) (eS : X.env.scope = defScope s_rounded := by rfl) : QE X (.Name "number" pos) (tVar 0) := qpvN 0 rfl (Or.inl (by decide +kernel)) (by decide +kernel) (by decide +kernel) eN eS
theorem v_rounded_1 {X : Cx} {pos : Pos} (eN : X.N = N_rounded := by rfl) (eS : X.env.scope = defScope s_rounded := by rfl) : QE X (.Name "border" pos) (tVar 1) := qpvN 1 rfl (Or.inl (by decide +kernel)) (by decide +kernel) (by decide +kernel) eN eS
abbrev s_end_of : Stmt := top 7
abbrev N_end_of : List Str := ["thing", "place"]
theorem sc_end_of : FnScope N_end_of ["thing", "place"] (defScope s_end_of) := ⟨rfl, rfl, rfl, by decide +kernel, rfl, by decide +kernel, by decide +kernel⟩
theorem st_end_of {v0 v1 : V} : L2.start N_end_of [v0, v1] = [some v0, some v1] := rfl
theorem v_end_of_0 {X : Cx} {pos : Pos} (eN : X.N = N_end_of := by rfl) (eS : X.env.scope = defScope s_end_of := by rfl) : QE X (.Name "thing" pos) (tVar 0) := qpvN 0 rfl (Or.inl (by decide +kernel)) (by decide +kernel) (by decide +kernel) eN eS
theorem v_end_of_1 {X : Cx} {pos : Pos} (eN : X.N = N_end_of := by rfl) (eS : X.env.scope = defScope s_end_of := by rfl) : QE X (.Name "place" pos) (tVar 1) := qpvN 1 rfl (Or.inl (by decide +kernel)) (by decide +kernel) (by decide +kernel) eN eS
abbrev s_end_on : Stmt := top 9
abbrev N_end_on : List Str := ["thing", "end"]
theorem sc_end_on : FnScope N_end_on ["thing", "end"] (defScope s_end_on) := ⟨rfl, rfl, rfl, by decide +kernel, rfl, by decide +kernel, by decide +kernel⟩
theorem st_end_on {v0 v1 : V} : L2.start N_end_on [v0, v1] = [some v0, some v1] := rfl
theorem v_end_on_0 {X : Cx} {pos : Pos} (eN : X.N = N_end_on := by rfl) (eS : X.env.scope = defScope s_end_on := by rfl) : QE X (.Name "thing" pos) (tVar 0) := qpvN 0 rfl (Or.inl (by decide +kernel)) (by decide +kernel) (by decide +kernel) eN eS
theorem v_end_on_1 {X : Cx} {pos : Pos} (eN : X.N = N_end_on := by rfl) (eS : X.env.scope = defScope s_end_on := by rfl) : QE X (.Name "end" pos) (tVar 1) := qpvN 1 rfl (Or.inl (by decide +kernel)) (by decide +kernel) (by decide +kernel) eN eS
theorem gl_end_on_end_of : (defScope s_end_on).names.lookup ("end_of" : Str) = some NameKind.globalImplicit := by decide +kernel
theorem gl_end_on_rounded : (defScope s_end_on).names.lookup ("rounded" : Str) = some NameKind.globalImplicit := by decide +kernel
abbrev s_least_ends : Stmt := top 10
abbrev N_least_ends : List Str := ["things", "ends", "group", "t"]
theorem sc_least_ends : FnScope N_least_ends ["things"] (defScope s_least_ends) := ⟨rfl, rfl, rfl, by decide +kernel, rfl, by decide +kernel, by decide +kernel⟩
theorem st_least_ends {v0 : V} : L2.start N_least_ends [v0] = [some v0, none, none, none] := rfl
theorem v_least_ends_0 {X : Cx} {pos : Pos} (eN : X.N = N_least_ends := by rfl) (eS : X.env.scope = defScope s_least_ends := by rfl) : QE X (.Name "things" pos) (tVar 0) := qpvN 0 rfl (Or.inr (Or.inl (by decide +kernel))) (by decide +kernel) (by decide +kernel) eN eS
theorem v_least_ends_1 {X : Cx} {pos : Pos} (eN : X.N = N_least_ends := by rfl) (eS : X.env.scope = defScope s_least_ends := by rfl) : QE X (.Name "ends" pos) (tVar 1) := qpvN 1 rfl (Or.inr (Or.inl (by decide +kernel))) (by decide +kernel) (by decide +kernel) eN eS
theorem v_least_ends_2 {X : Cx} {pos : Pos} (eN : X.N = N_least_ends := by rfl) (eS : X.env.scope = defScope s_least_ends := by rfl) : QE X (.Name "group" pos) (tVar 2) := qpvN 2 rfl (Or.inr (Or.inl (by decide +kernel))) (by decide +kernel) (by decide +kernel) eN eS
theorem gl_least_ends_all_of : (defScope s_least_ends).names.lookup ("all_of" : Str) = some NameKind.globalImplicit := by decide +kernel
theorem gl_least_ends_members : (defScope s_least_ends).names.lookup ("members" : Str) = some NameKind.globalImplicit := by decide +kernel
theorem gl_least_ends_min : (defScope s_least_ends).names.lookup ("min" : Str) = some NameKind.globalImplicit := by decide +kernel
theorem gl_least_ends_range : (defScope s_least_ends).names.lookup ("range" : Str) = some NameKind.globalImplicit := by decide +kernel
abbrev s_last_begins : Stmt := top 11
abbrev N_last_begins : List Str := ["things", "limit", "begins", "group", "t"]
theorem sc_last_begins : FnScope N_last_begins ["things", "limit"] (defScope s_last_begins) := ⟨rfl, rfl, rfl, by decide +kernel, rfl, by decide +kernel, by decide +kernel⟩
theorem st_last_begins {v0 v1 : V} : L2.start N_last_begins [v0, v1] = [some v0, some v1, none, none, none] := rfl
theorem v_last_begins_0 {X : Cx} {pos : Pos} (eN : X.N = N_last_begins := by rfl) (eS : X.env.scope = defScope s_last_begins := by rfl) : QE X (.Name "things" pos) (tVar 0) := qpvN 0 rfl (Or.inr (Or.inl (by decide +kernel))) (by decide +kernel) (by decide +kernel) eN eS
theorem v_last_begins_1 {X : Cx} {pos : Pos} (eN : X.N = N_last_begins := by rfl) (eS : X.env.scope = defScope s_last_begins := by rfl) : QE X (.Name "limit" pos) (tVar 1) := qpvN 1 rfl (Or.inl (by decide +kernel)) (by decide +kernel) (by decide +kernel) eN eS
theorem v_last_begins_2 {X : Cx} {pos : Pos} (eN : X.N = N_last_begins := by rfl) (eS : X.env.scope = defScope s_last_begins := by rfl) : QE X (.Name "begins" pos) (tVar 2) := qpvN 2 rfl (Or.inr (Or.inl (by decide +kernel))) (by decide +kernel) (by decide +kernel) eN eS
theorem v_last_begins_3 {X : Cx} {pos : Pos} (eN : X.N = N_last_begins := by rfl) (eS : X.env.scope = defScope s_last_begins := by rfl) : QE X (.Name "group" pos) (tVar 3) := qpvN 3 rfl (Or.inr (Or.inl (by decide +kernel))) (by decide +kernel) (by decide +kernel) eN eS
theorem gl_last_begins_all_of : (defScope s_last_begins).names.lookup ("all_of" : Str) = some NameKind.globalImplicit := by decide +kernel
theorem gl_last_begins_max : (defScope s_last_begins).names.lookup ("max" : Str) = some NameKind.globalImplicit := by decide +kernel
theorem gl_last_begins_members : (defScope s_last_begins).names.lookup ("members" : Str) = some NameKind.globalImplicit := by decide +kernel
theorem gl_last_begins_range : (defScope s_last_begins).names.lookup ("range" : Str) = some NameKind.globalImplicit := by decide +kernel
abbrev s_begin_below : Stmt := top 12
abbrev N_begin_below : List Str := ["thing", "end", "size", "border"]
theorem sc_begin_below : FnScope N_begin_below ["thing", "end"] (defScope s_begin_below) := ⟨rfl, rfl, rfl, by decide +kernel, rfl, by decide +kernel, by decide +kernel⟩
theorem st_begin_below {v0 v1 : V} : L2.start N_begin_below [v0, v1] = [some v0, some v1, none, none] := rfl
theorem v_begin_below_0 {X : Cx} {pos : Pos} (eN : X.N = N_begin_below := by rfl) (eS : X.env.scope = defScope s_begin_below := by rfl) : QE X (.Name "thing" pos) (tVar 0) := qpvN 0 rfl (Or.inl (by decide +kernel)) (by decide +kernel) (by decide +kernel) eN eS
theorem v_begin_below_1 {X : Cx} {pos : Pos} (eN : X.N = N_begin_below := by rfl) (eS : X.env.scope = defScope s_begin_below := by rfl) : QE X (.Name "end" pos) (tVar 1) := qpvN 1 rfl (Or.inl (by decide +kernel)) (by decide +kernel) (by decide +kernel) eN eS
theorem v_begin_below_2 {X : Cx} {pos : Pos} (eN : X.N = N_begin_below := by rfl) (eS : X.env.scope = defScope s_begin_below := by rfl) : QE X (.Name "size" pos) (tVar 2) := qpvN 2 rfl (Or.inl (by decide +kernel)) (by decide +kernel) (by decide +kernel) eN eS
theorem v_begin_below_3 {X : Cx} {pos : Pos} (eN : X.N = N_begin_below := by rfl) (eS : X.env.scope = defScope s_begin_below := by rfl) : QE X (.Name "border" pos) (tVar 3) := qpvN 3 rfl (Or.inl (by decide +kernel)) (by decide +kernel) (by decide +kernel) eN eS
abbrev s_best_stack : Stmt := top 13
abbrev N_best_stack : List Str := ["things", "least_end", "begins", "left", "order", "end", "first", "t"]
theorem sc_best_stack : FnScope N_best_stack ["things"] (defScope s_best_stack) := ⟨rfl, rfl, rfl, by decide +kernel, rfl, by decide +kernel, by decide +kernel⟩
theorem st_best_stack {v0 : V} : L2.start N_best_stack [v0] = [some v0, none, none, none, none, none, none, none] := rfl
theorem v_best_stack_0 {X : Cx} {pos : Pos} (eN : X.N = N_best_stack := by rfl) (eS : X.env.scope = defScope s_best_stack := by rfl) : QE X (.Name "things" pos) (tVar 0) := qpvN 0 rfl (Or.inr (Or.inl (by decide +kernel))) (by decide +kernel) (by decide +kernel) eN eS
theorem v_best_stack_1 {X : Cx} {pos : Pos} (eN : X.N = N_best_stack := by rfl) (eS : X.env.scope = defScope s_best_stack := by rfl) : QE X (.Name "least_end" pos) (tVar 1) := qpvN 1 rfl (Or.inl (by decide +kernel)) (by decide +kernel) (by decide +kernel) eN eS
theorem v_best_stack_3 {X : Cx} {pos : Pos} (eN : X.N = N_best_stack := by rfl) (eS : X.env.scope = defScope s_best_stack := by rfl) : QE X (.Name "left" pos) (tVar 3) := qpvN 3 rfl (Or.inr (Or.inl (by decide +kernel))) (by decide +kernel) (by decide +kernel) eN eS
theorem v_best_stack_4 {X : Cx} {pos : Pos} (eN : X.N = N_best_stack := by rfl) (eS : X.env.scope = defScope s_best_stack := by rfl) : QE X (.Name "order" pos) (tVar 4) := qpvN 4 rfl (Or.inl (by decide +kernel)) (by decide +kernel) (by decide +kernel) eN eS
theorem v_best_stack_5 {X : Cx} {pos : Pos} (eN : X.N = N_best_stack := by rfl) (eS : X.env.scope = defScope s_best_stack := by rfl) : QE X (.Name "end" pos) (tVar 5) := qpvN 5 rfl (Or.inr (Or.inl (by decide +kernel))) (by decide +kernel) (by decide +kernel) eN eS
theorem v_best_stack_6 {X : Cx} {pos : Pos} (eN : X.N = N_best_stack := by rfl) (eS : X.env.scope = defScope s_best_stack := by rfl) : QE X (.Name "first" pos) (tVar 6) := qpvN 6 rfl (Or.inl (by decide +kernel)) (by decide +kernel) (by decide +kernel) eN eS
theorem gl_best_stack_all_of : (defScope s_best_stack).names.lookup ("all_of" : Str) = some NameKind.globalImplicit := by decide +kernel
theorem gl_best_stack_end_on : (defScope s_best_stack).names.lookup ("end_on" : Str) = some NameKind.globalImplicit := by decide +kernel
theorem gl_best_stack_last_begins : (defScope s_best_stack).names.lookup ("last_begins" : Str) = some NameKind.globalImplicit := by decide +kernel
theorem gl_best_stack_least_ends : (defScope s_best_stack).names.lookup ("least_ends" : Str) = some NameKind.globalImplicit := by decide +kernel
theorem gl_best_stack_members : (defScope s_best_stack).names.lookup ("members" : Str) = some NameKind.globalImplicit := by decide +kernel
theorem gl_best_stack_min : (defScope s_best_stack).names.lookup ("min" : Str) = some NameKind.globalImplicit := by decide +kernel
theorem gl_best_stack_without : (defScope s_best_stack).names.lookup ("without" : Str) = some NameKind.globalImplicit := by decide +kernel
abbrev s__law_tape : Stmt := top 15
abbrev N__law_tape : List Str := ["_law_script", "_law_k", "_law_cell"]
theorem sc__law_tape : FnScope N__law_tape ["_law_script", "_law_k"] (defScope s__law_tape) := ⟨rfl, rfl, rfl, by decide +kernel, rfl, by decide +kernel, by decide +kernel⟩
theorem st__law_tape {v0 v1 : V} : L2.start N__law_tape [v0, v1] = [some v0, some v1, none] := rfl
theorem v__law_tape_0 {X : Cx} {pos : Pos} (eN : X.N = N__law_tape := by rfl) (eS : X.env.scope = defScope s__law_tape := by rfl) : QE X (.Name "_law_script" pos) (tVar 0) := qpvN 0 rfl (Or.inl (by decide +kernel)) (by decide +kernel) (by decide +kernel) eN eS
theorem v__law_tape_1 {X : Cx} {pos : Pos} (eN : X.N = N__law_tape := by rfl) (eS : X.env.scope = defScope s__law_tape := by rfl) : QE X (.Name "_law_k" pos) (tVar 1) := qpvN 1 rfl (Or.inl (by decide +kernel)) (by decide +kernel) (by decide +kernel) eN eS
theorem v__law_tape_2 {X : Cx} {pos : Pos} (eN : X.N = N__law_tape := by rfl) (eS : X.env.scope = defScope s__law_tape := by rfl) : QE X (.Name "_law_cell" pos) (tVar 2) := qpvN 2 rfl (Or.inl (by decide +kernel)) (by decide +kernel) (by decide +kernel) eN eS
theorem gl__law_tape_abs : (defScope s__law_tape).names.lookup ("abs" : Str) = some NameKind.globalImplicit := by decide +kernel
theorem gl__law_tape_int : (defScope s__law_tape).names.lookup ("int" : Str) = some NameKind.globalImplicit := by decide +kernel
theorem gl__law_tape_len : (defScope s__law_tape).names.lookup ("len" : Str) = some NameKind.globalImplicit := by decide +kernel
abbrev s__law_draw : Stmt := top 16
abbrev N__law_draw : List Str := ["_law_tape_here", "_law_many", "_law_once", "_law_twice", "_law_found"]
theorem sc__law_draw : FnScope N__law_draw ["_law_tape_here", "_law_many"] (defScope s__law_draw) := ⟨rfl, rfl, rfl, by decide +kernel, rfl, by decide +kernel, by decide +kernel⟩
theorem st__law_draw {v0 v1 : V} : L2.start N__law_draw [v0, v1] = [some v0, some v1, none, none, none] := rfl
theorem v__law_draw_0 {X : Cx} {pos : Pos} (eN : X.N = N__law_draw := by rfl) (eS : X.env.scope = defScope s__law_draw := by rfl) : QE X (.Name "_law_tape_here" pos) (tVar 0) := qpvN 0 rfl (Or.inl (by decide +kernel)) (by decide +kernel) (by decide +kernel) eN eS
theorem v__law_draw_1 {X : Cx} {pos : Pos} (eN : X.N = N__law_draw := by rfl) (eS : X.env.scope = defScope s__law_draw := by rfl) : QE X (.Name "_law_many" pos) (tVar 1) := qpvN 1 rfl (Or.inl (by decide +kernel)) (by decide +kernel) (by decide +kernel) eN eS
theorem v__law_draw_2 {X : Cx} {pos : Pos} (eN : X.N = N__law_draw := by rfl) (eS : X.env.scope = defScope s__law_draw := by rfl) : QE X (.Name "_law_once" pos) (tVar 2) := qpvN 2 rfl (Or.inl (by decide +kernel)) (by decide +kernel) (by decide +kernel) eN eS
theorem v__law_draw_3 {X : Cx} {pos : Pos} (eN : X.N = N__law_draw := by rfl) (eS : X.env.scope = defScope s__law_draw := by rfl) : QE X (.Name "_law_twice" pos) (tVar 3) := qpvN 3 rfl (Or.inl (by decide +kernel)) (by decide +kernel) (by decide +kernel) eN eS
theorem v__law_draw_4 {X : Cx} {pos : Pos} (eN : X.N = N__law_draw := by rfl) (eS : X.env.scope = defScope s__law_draw := by rfl) : QE X (.Name "_law_found" pos) (tVar 4) := qpvN 4 rfl (Or.inl (by decide +kernel)) (by decide +kernel) (by decide +kernel) eN eS
abbrev s__law_up : Stmt := top 17
abbrev N__law_up : List Str := ["_law_number", "_law_border"]
theorem sc__law_up : FnScope N__law_up ["_law_number", "_law_border"] (defScope s__law_up) := ⟨rfl, rfl, rfl, by decide +kernel, rfl, by decide +kernel, by decide +kernel⟩
theorem st__law_up {v0 v1 : V} : L2.start N__law_up [v0, v1] = [some v0, some v1] := rfl
theorem v__law_up_0 {X : Cx} {pos : Pos} (eN : X.N = N__law_up := by rfl) (eS : X.env.scope = defScope s__law_up := by rfl) : QE X (.Name "_law_number" pos) (tVar 0) := qpvN 0 rfl (Or.inl (by decide +kernel)) (by decide +kernel) (by decide +kernel) eN eS
theorem v__law_up_1 {X : Cx} {pos : Pos} (eN : X.N = N__law_up := by rfl) (eS : X.env.scope = defScope s__law_up := by rfl) : QE X (.Name "_law_border" pos) (tVar 1) := qpvN 1 rfl (Or.inl (by decide +kernel)) (by decide +kernel) (by decide +kernel) eN eS
abbrev s__law_few : Stmt := top 18
abbrev N__law_few : List Str := ["_law_tape_here", "_law_many", "_law_k", "_law_way", "_law_found", "_law_some", "_law_size"]
theorem sc__law_few : FnScope N__law_few ["_law_tape_here", "_law_many"] (defScope s__law_few) := ⟨rfl, rfl, rfl, by decide +kernel, rfl, by decide +kernel, by decide +kernel⟩
theorem st__law_few {v0 v1 : V} : L2.start N__law_few [v0, v1] = [some v0, some v1, none, none, none, none, none] := rfl
theorem v__law_few_0 {X : Cx} {pos : Pos} (eN : X.N = N__law_few := by rfl) (eS : X.env.scope = defScope s__law_few := by rfl) : QE X (.Name "_law_tape_here" pos) (tVar 0) := qpvN 0 rfl (Or.inl (by decide +kernel)) (by decide +kernel) (by decide +kernel) eN eS
theorem v__law_few_1 {X : Cx} {pos : Pos} (eN : X.N = N__law_few := by rfl) (eS : X.env.scope = defScope s__law_few := by rfl) : QE X (.Name "_law_many" pos) (tVar 1) := qpvN 1 rfl (Or.inl (by decide +kernel)) (by decide +kernel) (by decide +kernel) eN eS
theorem v__law_few_3 {X : Cx} {pos : Pos} (eN : X.N = N__law_few := by rfl) (eS : X.env.scope = defScope s__law_few := by rfl) : QE X (.Name "_law_way" pos) (tVar 3) := qpvN 3 rfl (Or.inl (by decide +kernel)) (by decide +kernel) (by decide +kernel) eN eS
theorem v__law_few_4 {X : Cx} {pos : Pos} (eN : X.N = N__law_few := by rfl) (eS : X.env.scope = defScope s__law_few := by rfl) : QE X (.Name "_law_found" pos) (tVar 4) := qpvN 4 rfl (Or.inl (by decide +kernel)) (by decide +kernel) (by decide +kernel) eN eS
theorem v__law_few_5 {X : Cx} {pos : Pos} (eN : X.N = N__law_few := by rfl) (eS : X.env.scope = defScope s__law_few := by rfl) : QE X (.Name "_law_some" pos) (tVar 5) := qpvN 5 rfl (Or.inl (by decide +kernel)) (by decide +kernel) (by decide +kernel) eN eS
theorem v__law_few_6 {X : Cx} {pos : Pos} (eN : X.N = N__law_few := by rfl) (eS : X.env.scope = defScope s__law_few := by rfl) : QE X (.Name "_law_size" pos) (tVar 6) := qpvN 6 rfl (Or.inl (by decide +kernel)) (by decide +kernel) (by decide +kernel) eN eS
theorem gl__law_few__law_draw : (defScope s__law_few).names.lookup ("_law_draw" : Str) = some NameKind.globalImplicit := by decide +kernel
theorem gl__law_few_range : (defScope s__law_few).names.lookup ("range" : Str) = some NameKind.globalImplicit := by decide +kernel
theorem gl__law_few_tuple : (defScope s__law_few).names.lookup ("tuple" : Str) = some NameKind.globalImplicit := by decide +kernel
abbrev s__law_stacked : Stmt := top 19
abbrev N__law_stacked : List Str := ["_law_things", "_law_order", "_law_end", "_law_t"]
theorem sc__law_stacked : FnScope N__law_stacked ["_law_things", "_law_order"] (defScope s__law_stacked) := ⟨rfl, rfl, rfl, by decide +kernel, rfl, by decide +kernel, by decide +kernel⟩
theorem st__law_stacked {v0 v1 : V} : L2.start N__law_stacked [v0, v1] = [some v0, some v1, none, none] := rfl
theorem v__law_stacked_0 {X : Cx} {pos : Pos} (eN : X.N = N__law_stacked := by rfl) (eS : X.env.scope = defScope s__law_stacked := by rfl) : QE X (.Name "_law_things" pos) (tVar 0) := qpvN 0 rfl (Or.inl (by decide +kernel)) (by decide +kernel) (by decide +kernel) eN eS
theorem v__law_stacked_1 {X : Cx} {pos : Pos} (eN : X.N = N__law_stacked := by rfl) (eS : X.env.scope = defScope s__law_stacked := by rfl) : QE X (.Name "_law_order" pos) (tVar 1) := qpvN 1 rfl (Or.inl (by decide +kernel)) (by decide +kernel) (by decide +kernel) eN eS
theorem v__law_stacked_2 {X : Cx} {pos : Pos} (eN : X.N = N__law_stacked := by rfl) (eS : X.env.scope = defScope s__law_stacked := by rfl) : QE X (.Name "_law_end" pos) (tVar 2) := qpvN 2 rfl (Or.inl (by decide +kernel)) (by decide +kernel) (by decide +kernel) eN eS
theorem v__law_stacked_3 {X : Cx} {pos : Pos} (eN : X.N = N__law_stacked := by rfl) (eS : X.env.scope = defScope s__law_stacked := by rfl) : QE X (.Name "_law_t" pos) (tVar 3) := qpvN 3 rfl (Or.inl (by decide +kernel)) (by decide +kernel) (by decide +kernel) eN eS
theorem gl__law_stacked__law_up : (defScope s__law_stacked).names.lookup ("_law_up" : Str) = some NameKind.globalImplicit := by decide +kernel
abbrev s__law_orders : Stmt := top 20
abbrev N__law_orders : List Str := ["_law_some", "_law_found", "_law_k", "_law_one", "_law_rest"]
theorem sc__law_orders : FnScope N__law_orders ["_law_some"] (defScope s__law_orders) := ⟨rfl, rfl, rfl, by decide +kernel, rfl, by decide +kernel, by decide +kernel⟩
theorem st__law_orders {v0 : V} : L2.start N__law_orders [v0] = [some v0, none, none, none, none] := rfl
theorem v__law_orders_0 {X : Cx} {pos : Pos} (eN : X.N = N__law_orders := by rfl) (eS : X.env.scope = defScope s__law_orders := by rfl) : QE X (.Name "_law_some" pos) (tVar 0) := qpvN 0 rfl (Or.inl (by decide +kernel)) (by decide +kernel) (by decide +kernel) eN eS
theorem v__law_orders_1 {X : Cx} {pos : Pos} (eN : X.N = N__law_orders := by rfl) (eS : X.env.scope = defScope s__law_orders := by rfl) : QE X (.Name "_law_found" pos) (tVar 1) := qpvN 1 rfl (Or.inl (by decide +kernel)) (by decide +kernel) (by decide +kernel) eN eS
theorem v__law_orders_2 {X : Cx} {pos : Pos} (eN : X.N = N__law_orders := by rfl) (eS : X.env.scope = defScope s__law_orders := by rfl) : QE X (.Name "_law_k" pos) (tVar 2) := qpvN 2 rfl (Or.inl (by decide +kernel)) (by decide +kernel) (by decide +kernel) eN eS
theorem gl__law_orders__law_orders : (defScope s__law_orders).names.lookup ("_law_orders" : Str) = some NameKind.globalImplicit := by decide +kernel
theorem gl__law_orders_enumerate : (defScope s__law_orders).names.lookup ("enumerate" : Str) = some NameKind.globalImplicit := by decide +kernel
abbrev s_law : Stmt := top 21
abbrev N_law : List Str := ["_law_script", "_law_k", "_law_tape_here", "_law_many", "_law_things", "_law_due", "_law_turn", "_law_kept", "_law_some", "_law_found", "_law_order"]
theorem sc_law : FnScope N_law ["_law_script"] (defScope s_law) := ⟨rfl, rfl, rfl, by decide +kernel, rfl, by decide +kernel, by decide +kernel⟩
theorem st_law {v0 : V} : L2.start N_law [v0] = [some v0, none, none, none, none, none, none, none, none, none, none] := rfl
theorem v_law_0 {X : Cx} {pos : Pos} (eN : X.N = N_law := by rfl) (eS : X.env.scope = defScope s_law := by rfl) : QE X (.Name "_law_script" pos) (tVar 0) := qpvN 0 rfl (Or.inl (by decide +kernel)) (by decide +kernel) (by decide +kernel) eN eS
theorem v_law_1 {X : Cx} {pos : Pos} (eN : X.N = N_law := by rfl) (eS : X.env.scope = defScope s_law := by rfl) : QE X (.Name "_law_k" pos) (tVar 1) := qpvN 1 rfl (Or.inl (by decide +kernel)) (by decide +kernel) (by decide +kernel) eN eS
theorem v_law_2 {X : Cx} {pos : Pos} (eN : X.N = N_law := by rfl) (eS : X.env.scope = defScope s_law := by rfl) : QE X (.Name "_law_tape_here" pos) (tVar 2) := qpvN 2 rfl (Or.inl (by decide +kernel)) (by decide +kernel) (by decide +kernel) eN eS
theorem v_law_3 {X : Cx} {pos : Pos} (eN : X.N = N_law := by rfl) (eS : X.env.scope = defScope s_law := by rfl) : QE X (.Name "_law_many" pos) (tVar 3) := qpvN 3 rfl (Or.inl (by decide +kernel)) (by decide +kernel) (by decide +kernel) eN eS
theorem v_law_4 {X : Cx} {pos : Pos} (eN : X.N = N_law := by rfl) (eS : X.env.scope = defScope s_law := by rfl) : QE X (.Name "_law_things" pos) (tVar 4) := qpvN 4 rfl (Or.inr (Or.inl (by decide +kernel))) (by decide +kernel) (by decide +kernel) eN eS
theorem v_law_5 {X : Cx} {pos : Pos} (eN : X.N = N_law := by rfl) (eS : X.env.scope = defScope s_law := by rfl) : QE X (.Name "_law_due" pos) (tVar 5) := qpvN 5 rfl (Or.inl (by decide +kernel)) (by decide +kernel) (by decide +kernel) eN eS
theorem v_law_7 {X : Cx} {pos : Pos} (eN : X.N = N_law := by rfl) (eS : X.env.scope = defScope s_law := by rfl) : QE X (.Name "_law_kept" pos) (tVar 7) := qpvN 7 rfl (Or.inl (by decide +kernel)) (by decide +kernel) (by decide +kernel) eN eS
theorem v_law_8 {X : Cx} {pos : Pos} (eN : X.N = N_law := by rfl) (eS : X.env.scope = defScope s_law := by rfl) : QE X (.Name "_law_some" pos) (tVar 8) := qpvN 8 rfl (Or.inl (by decide +kernel)) (by decide +kernel) (by decide +kernel) eN eS
theorem v_law_9 {X : Cx} {pos : Pos} (eN : X.N = N_law := by rfl) (eS : X.env.scope = defScope s_law := by rfl) : QE X (.Name "_law_found" pos) (tVar 9) := qpvN 9 rfl (Or.inl (by decide +kernel)) (by decide +kernel) (by decide +kernel) eN eS
theorem gl_law__law_draw : (defScope s_law).names.lookup ("_law_draw" : Str) = some NameKind.globalImplicit := by decide +kernel
theorem gl_law__law_few : (defScope s_law).names.lookup ("_law_few" : Str) = some NameKind.globalImplicit := by decide +kernel
theorem gl_law__law_orders : (defScope s_law).names.lookup ("_law_orders" : Str) = some NameKind.globalImplicit := by decide +kernel
theorem gl_law__law_tape : (defScope s_law).names.lookup ("_law_tape" : Str) = some NameKind.globalImplicit := by decide +kernel
theorem gl_law_best_stack : (defScope s_law).names.lookup ("best_stack" : Str) = some NameKind.globalImplicit := by decide +kernel
theorem gl_law_isinstance : (defScope s_law).names.lookup ("isinstance" : Str) = some NameKind.globalImplicit := by decide +kernel
theorem gl_law_len : (defScope s_law).names.lookup ("len" : Str) = some NameKind.globalImplicit := by decide +kernel
theorem gl_law_list : (defScope s_law).names.lookup ("list" : Str) = some NameKind.globalImplicit := by decide +kernel
theorem gl_law_min : (defScope s_law).names.lookup ("min" : Str) = some NameKind.globalImplicit := by decide +kernel
theorem gl_law_range : (defScope s_law).names.lookup ("range" : Str) = some NameKind.globalImplicit := by decide +kernel
theorem gl_law_str : (defScope s_law).names.lookup ("str" : Str) = some NameKind.globalImplicit := by decide +kernel
theorem gl_law_tuple : (defScope s_law).names.lookup ("tuple" : Str) = some NameKind.globalImplicit := by decide +kernel
theorem bb_abs : bootBuiltins ("abs" : Str) = some (.builtin "abs") := by decide +kernel
theorem bn_abs : ("abs" : Str) ≠ "__name__" := by decide +kernel
theorem bd_abs : (("abs" : Str) == ("__debug__" : Str)) = false := by decide +kernel
theorem bb_int : bootBuiltins ("int" : Str) = some (.type "int") := by decide +kernel
theorem bn_int : ("int" : Str) ≠ "__name__" := by decide +kernel
theorem bd_int : (("int" : Str) == ("__debug__" : Str)) = false := by decide +kernel
theorem bb_isinstance : bootBuiltins ("isinstance" : Str) = some (.builtin "isinstance") := by decide +kernel
theorem bn_isinstance : ("isinstance" : Str) ≠ "__name__" := by decide +kernel
theorem bd_isinstance : (("isinstance" : Str) == ("__debug__" : Str)) = false := by decide +kernel
theorem bb_len : bootBuiltins ("len" : Str) = some (.builtin "len") := by decide +kernel
theorem bn_len : ("len" : Str) ≠ "__name__" := by decide +kernel
theorem bd_len : (("len" : Str) == ("__debug__" : Str)) = false := by decide +kernel
theorem bb_list : bootBuiltins ("list" : Str) = some (.type "list") := by decide +kernel
theorem bn_list : ("list" : Str) ≠ "__name__" := by decide +kernel
theorem bd_list : (("list" : Str) == ("__debug__" : Str)) = false := by decide +kernel
theorem bb_max : bootBuiltins ("max" : Str) = some (.builtin "max") := by decide +kernel
theorem bn_max : ("max" : Str) ≠ "__name__" := by decide +kernel
theorem bd_max : (("max" : Str) == ("__debug__" : Str)) = false := by decide +kernel
theorem bb_min : bootBuiltins ("min" : Str) = some (.builtin "min") := by decide +kernel
theorem bn_min : ("min" : Str) ≠ "__name__" := by decide +kernel
theorem bd_min : (("min" : Str) == ("__debug__" : Str)) = false := by decide +kernel
theorem bb_range : bootBuiltins ("range" : Str) = some (.type "range") := by decide +kernel
theorem bn_range : ("range" : Str) ≠ "__name__" := by decide +kernel
theorem bd_range : (("range" : Str) == ("__debug__" : Str)) = false := by decide +kernel
theorem bb_str : bootBuiltins ("str" : Str) = some (.type "str") := by decide +kernel
theorem bn_str : ("str" : Str) ≠ "__name__" := by decide +kernel
theorem bd_str : (("str" : Str) == ("__debug__" : Str)) = false := by decide +kernel
theorem bb_tuple : bootBuiltins ("tuple" : Str) = some (.type "tuple") := by decide +kernel
theorem bn_tuple : ("tuple" : Str) ≠ "__name__" := by decide +kernel
theorem bd_tuple : (("tuple" : Str) == ("__debug__" : Str)) = false := by decide +kernel
theorem bd_all_of : (("all_of" : Str) == ("__debug__" : Str)) = false := by decide +kernel
theorem bd_is_in : (("is_in" : Str) == ("__debug__" : Str)) = false := by decide +kernel
theorem bd_members : (("members" : Str) == ("__debug__" : Str)) = false := by decide +kernel
theorem bd_without : (("without" : Str) == ("__debug__" : Str)) = false := by decide +kernel
theorem bd_rounded : (("rounded" : Str) == ("__debug__" : Str)) = false := by decide +kernel
theorem bd_end_of : (("end_of" : Str) == ("__debug__" : Str)) = false := by decide +kernel
theorem bd_end_on : (("end_on" : Str) == ("__debug__" : Str)) = false := by decide +kernel
theorem bd_least_ends : (("least_ends" : Str) == ("__debug__" : Str)) = false := by decide +kernel
theorem bd_last_begins : (("last_begins" : Str) == ("__debug__" : Str)) = false := by decide +kernel
theorem bd_begin_below : (("begin_below" : Str) == ("__debug__" : Str)) = false := by decide +kernel
theorem bd_best_stack : (("best_stack" : Str) == ("__debug__" : Str)) = false := by decide +kernel
theorem bd__law_tape : (("_law_tape" : Str) == ("__debug__" : Str)) = false := by decide +kernel
theorem bd__law_draw : (("_law_draw" : Str) == ("__debug__" : Str)) = false := by decide +kernel
theorem bd__law_up : (("_law_up" : Str) == ("__debug__" : Str)) = false := by decide +kernel
theorem bd__law_few : (("_law_few" : Str) == ("__debug__" : Str)) = false := by decide +kernel
theorem bd__law_stacked : (("_law_stacked" : Str) == ("__debug__" : Str)) = false := by decide +kernel
theorem bd__law_orders : (("_law_orders" : Str) == ("__debug__" : Str)) = false := by decide +kernel
structure Txt (K : PySem.W.Frag) (mg : Str → Option Value) : Prop where
  b_abs : mg "abs" = none
  b_enumerate : mg "enumerate" = none
  b_int : mg "int" = none
  b_isinstance : mg "isinstance" = none
  b_len : mg "len" = none
  b_list : mg "list" = none
  b_max : mg "max" = none
  b_min : mg "min" = none
  b_range : mg "range" = none
  b_str : mg "str" = none
  b_tuple : mg "tuple" = none
  f_all_of : Has K mg "all_of" s_all_of ["things"]
  f_is_in : Has K mg "is_in" s_is_in ["t", "group"]
  f_members : Has K mg "members" s_members ["group"]
  f_without : Has K mg "without" s_without ["group", "t"]
  f_rounded : Has K mg "rounded" s_rounded ["number", "border"]
  f_end_of : Has K mg "end_of" s_end_of ["thing", "place"]
  f_end_on : Has K mg "end_on" s_end_on ["thing", "end"]
  f_least_ends : Has K mg "least_ends" s_least_ends ["things"]
  f_last_begins : Has K mg "last_begins" s_last_begins ["things", "limit"]
  f_begin_below : Has K mg "begin_below" s_begin_below ["thing", "end"]
  f_best_stack : Has K mg "best_stack" s_best_stack ["things"]
  f__law_tape : Has K mg "_law_tape" s__law_tape ["_law_script", "_law_k"]
  f__law_draw : Has K mg "_law_draw" s__law_draw ["_law_tape_here", "_law_many"]
  f__law_up : Has K mg "_law_up" s__law_up ["_law_number", "_law_border"]
  f__law_few : Has K mg "_law_few" s__law_few ["_law_tape_here", "_law_many"]
  f__law_stacked : Has K mg "_law_stacked" s__law_stacked ["_law_things", "_law_order"]
  f__law_orders : Has K mg "_law_orders" s__law_orders ["_law_some"]
  f_law : Has K mg "law" s_law ["_law_script"]
local macro_rules
  | `(tactic| simp only [rs, $ls,*]) => `(tactic| simp only [tVar, tC, tOp, tUn, rI, rI0, rU, tCB, tCons, tNil, tCall, tRet, tRetN, tSeq, tNext, tAsg, tPar3, gName, tAnd, tOr, tNot, tAndV, tOrV, tNotV, tIf, tTest, tB, tLst, tTup, gSub, rSetL, tPar, tDrop, tBM, rEq, rNe, scal, t2I, gTup, gTupH, gTupL, gCons, gNil,  tSl, rSlLH, tRev, tPart, tNoPart, tDNewK, tDisp, tPairs, tTm, List.map_cons, List.map_nil, List.length_cons, List.length_nil, List.replicate, List.append_nil, List.nil_append, List.cons_append, List.getElem?_cons_zero, List.getElem?_cons_succ, List.getElem?_nil, List.set_cons_zero, List.set_cons_succ, Option.some.injEq, V.int.injEq, V.ref.injEq, V.bl.injEq, V.str.injEq, V.ty.injEq, HO.lst.injEq, HO.tup.injEq, HO.rng.injEq, HO.dK.injEq, exists_eq_left, exists_eq_left', exists_eq_right, exists_eq_right', exists_and_left, exists_and_right, exists_eq, exists_eq', false_and, and_false, false_or, or_false, true_and, and_true, ite_true, ite_false, if_true, if_false, Bool.false_eq_true, reduceIte, List.cons.injEq, and_assoc, decide_true, decide_false, Bool.not_true, Bool.not_false, reduceCtorEq, upd_same, rIxLH, rCatTH, rCatE, tApp, tLm, tLm0, rPopI, rPopL, tDGs, sDPs, rSetDs, rNeI, rEqI, rNeR, rEqR, rCat, tMaxD, rAllT, rMaxH, rAnyH, rAllH, rInH, rIxTH, tyN_non, tyN_bl, tyN_int, tyN_str, tyN_ref, tyR_lst, tyR_tup, tyR_dK, at0, at1, at2, at3, at4, ix0, ix1, ix2, Nat.reduceAdd, Nat.reduceSub, Nat.zero_add, Int.zero_add, Nat.add_zero, Int.reducePow, Int.reduceNeg, Int.reduceToNat, Nat.reducePow, isSub_NoneType_int, isSub_NoneType_bool, isSub_NoneType_str, isSub_NoneType_list, isSub_NoneType_tuple, isSub_NoneType_dict, isSub_bool_int, isSub_bool_bool, isSub_bool_str, isSub_bool_list, isSub_bool_tuple, isSub_bool_dict, isSub_int_int, isSub_int_bool, isSub_int_str, isSub_int_list, isSub_int_tuple, isSub_int_dict, isSub_str_int, isSub_str_bool, isSub_str_str, isSub_str_list, isSub_str_tuple, isSub_str_dict, isSub_list_int, isSub_list_bool, isSub_list_str, isSub_list_list, isSub_list_tuple, isSub_list_dict, isSub_tuple_int, isSub_tuple_bool, isSub_tuple_str, isSub_tuple_list, isSub_tuple_tuple, isSub_tuple_dict, isSub_dict_int, isSub_dict_bool, isSub_dict_str, isSub_dict_list, isSub_dict_tuple, isSub_dict_dict, isSubA_NoneType, isSubA_bool, isSubA_int, isSubA_str, isSubA_list, isSubA_tuple, isSubA_dict, rSetOf, rSortedSet, rSetAnd, rSetSub, rLenSet, rSortI, rSetOr, rSetB, HO.set.injEq, HO.ins.injEq, st_all_of, st_is_in, st_members, st_without, st_rounded, st_end_of, st_end_on, st_least_ends, st_last_begins, st_begin_below, st_best_stack, st__law_tape, st__law_draw, st__law_up, st__law_few, st__law_stacked, st__law_orders, st_law, $ls,*])
  | `(tactic| simp only [rd, $ls,*]) => `(tactic| simp only [rs, tIfS, $ls,*])

section
variable {P : Program} {w : World} {K : PySem.W.Frag} {mg : Str → Option Value} {base : Heap}
theorem ok_draw (T : Txt K mg) : OwnOk P w K mg base 1 "_law_draw" ["_law_tape_here", "_law_many"] spDraw := by
  refine T.f__law_draw.ok sc__law_draw (fun vs H Q E h => ?_) (fun f cdv A outer s H vs Q E hr h => ?_)
  · obtain ⟨p, m, n, rfl, _⟩ := h
    rfl
  · obtain ⟨p, m, n, rfl, tp, hn, hm, hm2, k⟩ := h
    obtain ⟨a, b, c, hp, h1, h2, h3, h4, h5⟩ := tp.ex
    refine ⟨_, (QSs.run (qpss_cons (qps_if (qpt_cmpR op_gt (qpe_ix ix_listH v__law_draw_0 qpe_int (fun _ _ => rfl)) qpe_int (nomark _)) (qpss_cons (qps_set (i := 4) sc__law_draw.nd rfl (by first | exact Or.inl rfl | exact Or.inr rfl) (qpe_op op_mod (qpe_ix ix_listH v__law_draw_0 qpe_int (fun _ _ => rfl)) v__law_draw_1)) (qpss_cons (qps_asg (qpe_op op_fdivW (qpe_ix ix_listH v__law_draw_0 qpe_int (fun _ _ => rfl)) v__law_draw_1) (qpg_sub v__law_draw_0 qpe_int set_list)) (qpss_one (qps_ret v__law_draw_4)))) qpss_nil) (qpss_cons (qps_asg (qpe_op op_add (qpe_ix ix_listH v__law_draw_0 qpe_int (fun _ _ => rfl)) qpe_int) (qpg_sub v__law_draw_0 qpe_int set_list)) (qpss_cons (qps_set (i := 2) sc__law_draw.nd rfl (by first | exact Or.inl rfl | exact Or.inr rfl) (qpe_op op_mod (qpe_op op_pow (qpe_op op_add (qpe_ix ix_listH v__law_draw_0 qpe_int (fun _ _ => rfl)) (qpe_op op_mul qpe_int (qpe_ix ix_listH v__law_draw_0 qpe_int (fun _ _ => rfl)))) qpe_int) qpe_int)) (qpss_cons (qps_set (i := 3) sc__law_draw.nd rfl (by first | exact Or.inl rfl | exact Or.inr rfl) (qpe_op op_mod (qpe_op op_mul (qpe_op op_add v__law_draw_2 (qpe_ix ix_listH v__law_draw_0 qpe_int (fun _ _ => rfl))) (qpe_op op_add (qpe_op op_add (qpe_op op_mod v__law_draw_2 qpe_int) qpe_int) (qpe_ix ix_listH v__law_draw_0 qpe_int (fun _ _ => rfl)))) qpe_int)) (qpss_one (qps_ret (qpe_op op_mod (qpe_op op_fdivW (qpe_op op_mod (qpe_op op_add (qpe_op op_mul v__law_draw_3 qpe_int) v__law_draw_2) qpe_int) qpe_int) v__law_draw_1)))))))), ?_⟩
    simp only [rd, hp]
    refine ite2 (fun _ => ?_) (fun _ => ?_)
    · refine ⟨hm, ⟨hm, hm2⟩, k _ _ (Int.emod_nonneg _ (by omega)) (Int.emod_lt_of_pos _ hm) ⟨⟨_, _, _, upd_same, Int.ediv_nonneg h1 (by omega), h2, h3, h4, by omega⟩⟩ Ext.at⟩
    · have q1 := Int.emod_nonneg ((b + 39373 * (c + 1)) ^ 5) (show (2147483647 : Int) ≠ 0 by decide)
      have q2 := Int.emod_lt_of_pos ((b + 39373 * (c + 1)) ^ 5) (show (0 : Int) < 2147483647 by decide)
      generalize (b + 39373 * (c + 1)) ^ 5 % 2147483647 = o at q1 q2 ⊢
      have q3 := Int.emod_nonneg o (show (40009 : Int) ≠ 0 by decide)
      have q4 := Int.emod_lt_of_pos o (show (0 : Int) < 40009 by decide)
      refine ⟨.inl ⟨by decide, by decide⟩, ⟨by decide, by decide, by omega⟩, by decide, by decide, .inl ⟨by omega, by omega⟩, by decide, .inr ⟨by decide, by decide⟩, by decide, ⟨by decide, by decide⟩, hm, ?_⟩
      exact k _ _ (Int.emod_nonneg _ (by omega)) (Int.emod_lt_of_pos _ hm) ⟨⟨_, _, _, upd_same, h1, h2, h3, by omega, by omega⟩⟩ Ext.at
theorem ok_tape (T : Txt K mg) : OwnOk P w K mg base 1 "_law_tape" ["_law_script", "_law_k"] (spTape K) := by
  refine T.f__law_tape.ok sc__law_tape (fun vs H Q E h => ?_) (fun f cdv A outer s H vs Q E hr h => ?_)
  · obtain ⟨a, ns, kk, rfl, _⟩ := h
    rfl
  · obtain ⟨a, ns, kk, rfl, hS, hk, k⟩ := h
    refine ⟨_, (QSs.run (qpss_cons (qps_set (i := 2) sc__law_tape.nd rfl (by first | exact Or.inl rfl | exact Or.inr rfl) (qpe_ifExp (qpt_cmpR op_lt v__law_tape_1 (qpe_callB call_len_seq gl__law_tape_len T.b_len bb_len (qpa_cons v__law_tape_0 qpa_nil se_Name) bn_len bd_len se_Name hp_nil) (nomark _)) (qpe_ix ix_list v__law_tape_0 v__law_tape_1 (fun _ _ => rfl)) qpe_int)) (qpss_one (qps_ret (qpe_lst (qpa_cons (qpe_op op_mul (qpe_callB call_abs gl__law_tape_abs T.b_abs bb_abs (qpa_cons v__law_tape_2 qpa_nil se_Name) bn_abs bd_abs se_Name hp_nil) (qpe_callTy call_intB gl__law_tape_int T.b_int bb_int (qpa_cons (qpe_cmpR op_ge (qpe_callB call_abs gl__law_tape_abs T.b_abs bb_abs (qpa_cons v__law_tape_2 qpa_nil se_Name) bn_abs bd_abs se_Name hp_nil) (qpe_op op_pow qpe_int qpe_int) (nomark _)) qpa_nil se_Compare) bn_int bd_int se_Compare hp_nil)) (qpa_cons (qpe_op op_add (qpe_op op_add (qpe_op op_mod v__law_tape_2 qpe_int) (qpe_op op_mul qpe_int v__law_tape_1)) qpe_int) (qpa_cons qpe_int qpa_nil se_Constant) se_BinOp) se_BinOp)))))), ?_⟩
    simp only [rd, and_true]
    refine ⟨_, .inl hS, ?_⟩
    have fin : ∀ c : Int, CPow 10 18 ∧ CMul (if c < 0 then -c else c) (if decide (1000000000000000000 ≤ if c < 0 then -c else c) = true then 1 else 0) ∧ (0 : Int) < 2305843009213693951 ∧ CMul 39373 (kk : Int) ∧ 3 ≤ sizeLine ∧ ∀ p : Addr, H p = none →
        Q (V.ref p) (upd H p (HO.lst [V.int ((if c < 0 then -c else c) * if decide (1000000000000000000 ≤ if c < 0 then -c else c) = true then 1 else 0), V.int (c % 2305843009213693951 + 39373 * (kk : Int) + 17), V.int 0])) := fun c => by
      refine ⟨⟨by decide, by decide, by decide⟩, .inr ?_, by decide, .inl ⟨by decide, by decide⟩, by decide, fun p hp => k p _ hp ⟨⟨_, _, _, upd_same, ?_, ?_, ?_, by decide, by decide⟩⟩ (Same.new hp)⟩
      · by_cases z : decide (1000000000000000000 ≤ if c < 0 then -c else c) = true
        · rw [if_pos z]; exact ⟨by decide, by decide⟩
        · rw [if_neg z]; exact ⟨by decide, by decide⟩
      · refine Int.mul_nonneg abs_nn ?_
        by_cases z : decide (1000000000000000000 ≤ if c < 0 then -c else c) = true
        · rw [if_pos z]; decide
        · rw [if_neg z]; decide
      · have := Int.emod_nonneg c (show (2305843009213693951 : Int) ≠ 0 by decide)
        omega
      · have := Int.emod_lt_of_pos c (show (0 : Int) < 2305843009213693951 by decide)
        omega
    refine ite2 (fun h => ?_) (fun _ => ?_)
    · have h' : kk < ns.length := by
        have := of_decide_eq_true h
        rw [List.length_map] at this
        omega
      refine ⟨a, _, _, _, rfl, rfl, hS, atI_nat (j := kk) (v := V.int ns[kk]) (by simp [h']), ?_⟩
      simp only [rd, and_true]
      exact fin _
    · exact fin 0
end
end K26
end
section
set_option Elab.async false
set_option linter.all false
set_option maxRecDepth 100000
set_option maxHeartbeats 0
namespace K26
open PySem L2
local macro_rules
  | `(tactic| simp only [rs, $ls,*]) => `(tactic| simp only [tVar, tC, tOp, tUn, rI, rI0, rU, tCB, tCons, tNil, tCall, tRet, tRetN, tSeq, tNext, tAsg, tPar3, gName, tAnd, tOr, tNot, tAndV, tOrV, tNotV, tIf, tTest, tB, tLst, tTup, gSub, rSetL, tPar, tDrop, tBM, rEq, rNe, scal, t2I, gTup, gTupH, gTupL, gCons, gNil,  tSl, rSlLH, tRev, tPart, tNoPart, tDNewK, tDisp, tPairs, tTm, List.map_cons, List.map_nil, List.length_cons, List.length_nil, List.replicate, List.append_nil, List.nil_append, List.cons_append, List.getElem?_cons_zero, List.getElem?_cons_succ, List.getElem?_nil, List.set_cons_zero, List.set_cons_succ, Option.some.injEq, V.int.injEq, V.ref.injEq, V.bl.injEq, V.str.injEq, V.ty.injEq, HO.lst.injEq, HO.tup.injEq, HO.rng.injEq, HO.dK.injEq, exists_eq_left, exists_eq_left', exists_eq_right, exists_eq_right', exists_and_left, exists_and_right, exists_eq, exists_eq', false_and, and_false, false_or, or_false, true_and, and_true, ite_true, ite_false, if_true, if_false, Bool.false_eq_true, reduceIte, List.cons.injEq, and_assoc, decide_true, decide_false, Bool.not_true, Bool.not_false, reduceCtorEq, upd_same, rIxLH, rCatTH, rCatE, tApp, tLm, tLm0, rPopI, rPopL, tDGs, sDPs, rSetDs, rNeI, rEqI, rNeR, rEqR, rCat, tMaxD, rAllT, rMaxH, rAnyH, rAllH, rInH, rIxTH, tyN_non, tyN_bl, tyN_int, tyN_str, tyN_ref, tyR_lst, tyR_tup, tyR_dK, at0, at1, at2, at3, at4, ix0, ix1, ix2, Nat.reduceAdd, Nat.reduceSub, Nat.zero_add, Int.zero_add, Nat.add_zero, Int.reducePow, Int.reduceNeg, Int.reduceToNat, Nat.reducePow, isSub_NoneType_int, isSub_NoneType_bool, isSub_NoneType_str, isSub_NoneType_list, isSub_NoneType_tuple, isSub_NoneType_dict, isSub_bool_int, isSub_bool_bool, isSub_bool_str, isSub_bool_list, isSub_bool_tuple, isSub_bool_dict, isSub_int_int, isSub_int_bool, isSub_int_str, isSub_int_list, isSub_int_tuple, isSub_int_dict, isSub_str_int, isSub_str_bool, isSub_str_str, isSub_str_list, isSub_str_tuple, isSub_str_dict, isSub_list_int, isSub_list_bool, isSub_list_str, isSub_list_list, isSub_list_tuple, isSub_list_dict, isSub_tuple_int, isSub_tuple_bool, isSub_tuple_str, isSub_tuple_list, isSub_tuple_tuple, isSub_tuple_dict, isSub_dict_int, isSub_dict_bool, isSub_dict_str, isSub_dict_list, isSub_dict_tuple, isSub_dict_dict, isSubA_NoneType, isSubA_bool, isSubA_int, isSubA_str, isSubA_list, isSubA_tuple, isSubA_dict, rSetOf, rSortedSet, rSetAnd, rSetSub, rLenSet, rSortI, rSetOr, rSetB, HO.set.injEq, HO.ins.injEq, st_all_of, st_is_in, st_members, st_without, st_rounded, st_end_of, st_end_on, st_least_ends, st_last_begins, st_begin_below, st_best_stack, st__law_tape, st__law_draw, st__law_up, st__law_few, st__law_stacked, st__law_orders, st_law, $ls,*])
  | `(tactic| simp only [rd, $ls,*]) => `(tactic| simp only [rs, tIfS, $ls,*])
section
variable {P : Program} {w : World} {K : PySem.W.Frag} {mg : Str → Option Value} {base : Heap}
def spEnd : Sp := fun vs H Q _ => ∃ a s b n, vs = [.ref a, .int n] ∧ H a = some (.tup [.int s, .int b]) ∧ Q (.int (n + s)) H
theorem ok_end_of (T : Txt K mg) : OwnOk P w K mg base 1 "end_of" ["thing", "place"] spEnd := by
  refine T.f_end_of.ok sc_end_of (fun vs H Q E h => ?_) (fun f cdv A outer s H vs Q E hr h => ?_)
  · obtain ⟨a, s, b, n, rfl, _⟩ := h
    rfl
  · obtain ⟨a, sz, b, n, rfl, h1, k⟩ := h
    refine ⟨_, (QSs.run (qpss_one (qps_ret (qpe_op op_add v_end_of_1 (qpe_ix ix_tupH v_end_of_0 qpe_int (fun _ _ => rfl)))))), ?_⟩
    simp only [rd, h1]
    exact k
def spRounded : Sp := fun vs H Q _ => ∃ n b : Int, vs = [.int n, .int b] ∧ 0 < b ∧ b < 1000000000000 ∧ Q (.int (rdv n b)) H
theorem ok_rounded (T : Txt K mg) : OwnOk P w K mg base 1 "rounded" ["number", "border"] spRounded := by
  refine T.f_rounded.ok sc_rounded (fun vs H Q E h => ?_) (fun f cdv A outer s H vs Q E hr h => ?_)
  · obtain ⟨n, b, rfl, _⟩ := h
    rfl
  · obtain ⟨n, b, rfl, h0, h1, k⟩ := h
    refine ⟨_, (QSs.run (qpss_one (qps_ret (qpe_op op_mul (qpe_un un_neg (qpe_op op_fdivW (qpe_un un_neg v_rounded_0) v_rounded_1)) v_rounded_1)))), ?_⟩
    simp only [rd, and_true]
    exact ⟨⟨h0, by omega⟩, .inr ⟨by omega, by omega⟩, k⟩
def spAllOf : Sp := fun vs H Q _ => ∃ (t : Addr) (xs : List V), vs = [.ref t] ∧ H t = some (.tup xs) ∧ xs.length ≤ 60 ∧ Q (.int ((2 ^ xs.length - 1 : Nat) : Int)) H
theorem ok_allof (T : Txt K mg) : OwnOk P w K mg base 1 "all_of" ["things"] spAllOf := by
  refine T.f_all_of.ok sc_all_of (fun vs H Q E h => ?_) (fun f cdv A outer s H vs Q E hr h => ?_)
  · obtain ⟨t, xs, rfl, _⟩ := h
    rfl
  · obtain ⟨t, xs, rfl, hx, hl, k⟩ := h
    refine ⟨_, (QSs.run (qpss_one (qps_ret (qpe_op op_sub (qpe_op op_shl qpe_int (qpe_callB call_lenTH gl_all_of_len T.b_len bb_len (qpa_cons v_all_of_0 qpa_nil se_Name) bn_len bd_len se_Name hp_nil)) qpe_int)))), ?_⟩
    simp only [rd, hx]
    have hp : 1 ≤ 2 ^ xs.length := Nat.one_le_two_pow
    refine ⟨⟨by omega, by omega, by decide⟩, ?_⟩
    rw [show (1 : Int) * 2 ^ (xs.length : Int).toNat - 1 = ((2 ^ xs.length - 1 : Nat) : Int) by
      rw [Int.toNat_natCast, Int.one_mul, Int.natCast_sub hp, Int.natCast_pow]; rfl]
    exact k
def spIsIn : Sp := fun vs H Q _ => ∃ (t g : Nat), vs = [.int t, .int g] ∧ t ≤ 1000 ∧ Q (.bl (g.testBit t)) H
theorem ok_isin (T : Txt K mg) : OwnOk P w K mg base 1 "is_in" ["t", "group"] spIsIn := by
  refine T.f_is_in.ok sc_is_in (fun vs H Q E h => ?_) (fun f cdv A outer s H vs Q E hr h => ?_)
  · obtain ⟨t, xs, rfl, _⟩ := h
    rfl
  · obtain ⟨t, g, rfl, ht, k⟩ := h
    refine ⟨_, (QSs.run (qpss_one (qps_ret (qpe_cmpR op_eq (qpe_op op_and (qpe_op op_shr v_is_in_1 v_is_in_0) qpe_int) qpe_int (nomark _))))), ?_⟩
    simp only [rd, and_true]
    refine ⟨by omega, ?_⟩
    rw [Int.toNat_natCast, bit_and]
    cases e : g.testBit t with
    | true =>
      rw [e] at k
      exact k
    | false =>
      rw [e] at k
      exact k
def spMembers : Sp := fun vs H Q _ => ∃ (g : Nat), vs = [.int g] ∧ g < 2 ^ 60 ∧ ∀ (l : Addr) (H' : Hp), H l = none → Same H H' → H' l = some (.lst ((memB g).map fun (t : Nat) => V.int (t : Int))) → Q (.ref l) H'
theorem ok_members (T : Txt K mg) : OwnOk P w K mg base 2 "members" ["group"] spMembers := by
  have G_is_in := ok_isin (P := P) (w := w) (base := base) T
  refine T.f_members.ok sc_members (fun vs H Q E h => ?_) (fun f cdv A outer s H vs Q E hr h => ?_)
  · obtain ⟨g, rfl, _⟩ := h
    rfl
  · obtain ⟨g, rfl, hg, k⟩ := h
    refine ⟨_, (QSs.run (qpss_one (qps_ret (qpe_lc (own := [("t", 1)]) (by rfl) sc_members.nd (qpi_range1 gl_members_range T.b_range (qpa_cons (qpe_bitL v_members_0) qpa_nil se_Call)) (blkOk_by (own := [("t", 1)]) (N := N_members) (sc := defScope s_members) (by decide +kernel)) (fun _ _ _ _ _ => (qpg_name (i := 1) sc_members.nd rfl (by first | exact Or.inl rfl | exact Or.inr rfl))) (fun _ _ _ _ _ => (qpts_one (qpt_val (qpe_own G_is_in hr (by rfl) (qpa_cons (qpv 1) (qpa_cons (qpv 0) qpa_nil se_Name) se_Name) (by omega) bd_is_in se_Name (hp_cons se_Name hp_nil))))) (fun _ _ _ _ _ => (qpv 1)))))), ?_⟩
    have hbt : btl (g : Int) ≤ 60 := btl_le hg
    refine ⟨_, rfl, g, rfl, _, rfl, by omega, by omega, fun D hD => ?_⟩
    rw [Int.toNat_natCast]
    refine lc_range (lo := 0) (n := btl (g : Int)) (fun i Hx => Same H Hx ∧ Hx D = some (.lst (((List.range i).filter (hasB g)).map fun (t : Nat) => V.int (t : Int)))) ⟨Same.new hD, upd_same⟩ ?_ ?_
    · rintro i Hx hi ⟨sx, hx⟩
      rw [Int.zero_add]
      have hlen : (((List.range i).filter (hasB g)).map fun (t : Nat) => V.int (t : Int)).length < sizeLine := by
        refine small_line ?_
        rw [List.length_map]
        refine Nat.le_trans (List.length_filter_le _ _) ?_
        rw [List.length_range]
        omega
      simp only [rd, wipe]
      refine ⟨i, g, rfl, by omega, _, rfl, ?_⟩
      rw [List.range_succ, List.filter_append]
      cases e : g.testBit i with
      | true =>
        have en : hasB g i = true := e
        rw [List.filter_cons_of_pos en, List.filter_nil]
        refine iteT ⟨_, hx, hlen, sx.over hD Ext.at, ?_⟩
        rw [List.map_append]
        rfl
      | false =>
        have en : ¬ hasB g i = true := by unfold hasB; rw [e]; decide
        rw [List.filter_cons_of_neg en, List.filter_nil, List.append_nil]
        exact iteF ⟨sx, hx⟩
    · rintro Hx ⟨sx, hx⟩
      exact k D Hx hD sx hx
def spWithout : Sp := fun vs H Q _ => ∃ (g t : Nat), vs = [.int g, .int t] ∧ t ≤ 1000 ∧ g.testBit t = true ∧ Q (.int ((g - 2 ^ t : Nat) : Int)) H
theorem ok_without (T : Txt K mg) : OwnOk P w K mg base 1 "without" ["group", "t"] spWithout := by
  refine T.f_without.ok sc_without (fun vs H Q E h => ?_) (fun f cdv A outer s H vs Q E hr h => ?_)
  · obtain ⟨g, t, rfl, _⟩ := h
    rfl
  · obtain ⟨g, t, rfl, ht, hgt, k⟩ := h
    refine ⟨_, (QSs.run (qpss_one (qps_ret (qpe_op op_sub v_without_0 (qpe_op op_shl qpe_int v_without_1))))), ?_⟩
    simp only [rd, and_true]
    refine ⟨⟨by omega, by omega, by decide⟩, ?_⟩
    rw [show (g : Int) - 1 * 2 ^ (t : Int).toNat = ((g - 2 ^ t : Nat) : Int) by
      rw [Int.toNat_natCast, Int.one_mul, Int.natCast_sub (without_lt hgt).2, Int.natCast_pow]; rfl]
    exact k
def spEndOn : Sp := fun vs H Q _ => ∃ (a : Addr) (s b e : Int), vs = [.ref a, .int e] ∧ H a = some (.tup [.int s, .int b]) ∧ 0 < b ∧ b ≤ 1000000 ∧ Q (.int (rdv e b + s)) H
theorem ok_endon (T : Txt K mg) (G_end_of : OwnOk P w K mg base 1 "end_of" ["thing", "place"] spEnd) (G_rounded : OwnOk P w K mg base 1 "rounded" ["number", "border"] spRounded) : OwnOk P w K mg base 2 "end_on" ["thing", "end"] spEndOn := by
  refine T.f_end_on.ok sc_end_on (fun vs H Q E h => ?_) (fun f cdv A outer s H vs Q E hr h => ?_)
  · obtain ⟨a, s, b, e, rfl, _⟩ := h
    rfl
  · obtain ⟨a, s, b, e, rfl, ha, hb, hb2, k⟩ := h
    refine ⟨_, (QSs.run (qpss_one (qps_ret (qpe_own G_end_of hr gl_end_on_end_of (qpa_cons v_end_on_0 (qpa_cons (qpe_own G_rounded hr gl_end_on_rounded (qpa_cons v_end_on_1 (qpa_cons (qpe_ix ix_tupH v_end_on_0 qpe_int (fun _ _ => rfl)) qpa_nil se_Subscript) se_Name) (by omega) bd_rounded se_Name (hp_cons se_Subscript hp_nil)) qpa_nil se_Call) se_Name) (by omega) bd_end_of se_Name (hp_cons se_Call hp_nil))))), ?_⟩
    simp only [rd, ha]
    exact ⟨e, b, rfl, hb, by omega, a, s, b, rdv e b, rfl, ha, k⟩
end
end K26
end
section
set_option Elab.async false
set_option linter.all false
set_option maxRecDepth 100000
namespace L2
/-! ### orders of a group, stacks, the first best one -/
def stk (f : Nat → Int → Int) (os : List Nat) (e : Int) : Int := os.foldl (fun e t => f t e) e
def IsOrd (G : Nat) (os : List Nat) : Prop := os.Nodup ∧ ∀ t, t ∈ os ↔ G.testBit t = true
theorem IsOrd.zero {os : List Nat} (h : IsOrd 0 os) : os = [] := by
  cases os with
  | nil => rfl
  | cons t l =>
    have := (h.2 t).mp (List.mem_cons_self ..)
    simp at this
theorem IsOrd.nil : IsOrd 0 [] := ⟨List.nodup_nil, fun t => by simp⟩
theorem IsOrd.cons_iff {G t : Nat} {l : List Nat} : IsOrd G (t :: l) ↔ G.testBit t = true ∧ IsOrd (G - 2 ^ t) l := by
  constructor
  · rintro ⟨h1, h2⟩
    have ht := (h2 t).mp (List.mem_cons_self ..)
    obtain ⟨n1, n2⟩ := List.nodup_cons.mp h1
    refine ⟨ht, n2, fun u => ?_⟩
    rw [without_test ht, Bool.and_eq_true, Bool.not_eq_true', decide_eq_false_iff_not, ← h2 u, List.mem_cons]
    constructor
    · exact fun hu => ⟨.inr hu, fun z => n1 (z ▸ hu)⟩
    · rintro ⟨rfl | hu, hne⟩
      · exact absurd rfl hne
      · exact hu
  · rintro ⟨ht, h1, h2⟩
    refine ⟨List.nodup_cons.mpr ⟨fun hm => ?_, h1⟩, fun u => ?_⟩
    · have := (h2 t).mp hm
      rw [without_test ht] at this
      simp at this
    · rw [List.mem_cons, h2 u, without_test ht, Bool.and_eq_true, Bool.not_eq_true', decide_eq_false_iff_not]
      constructor
      · rintro (rfl | h)
        · exact ht
        · exact h.1
      · intro hu
        by_cases z : u = t
        · exact .inl z
        · exact .inr ⟨hu, z⟩
theorem IsOrd.perm {G : Nat} {l m : List Nat} (h : IsOrd G l) (p : l.Perm m) : IsOrd G m := ⟨p.nodup_iff.mp h.1, fun t => by rw [← p.mem_iff]; exact h.2 t⟩
theorem IsOrd.snoc_iff {G t : Nat} {l : List Nat} : IsOrd G (l ++ [t]) ↔ G.testBit t = true ∧ IsOrd (G - 2 ^ t) l := by
  rw [← IsOrd.cons_iff]
  have p : (l ++ [t]).Perm (t :: l) := List.perm_append_comm
  exact ⟨fun h => h.perm p, fun h => h.perm p.symm⟩
theorem stk_snoc {f : Nat → Int → Int} {l : List Nat} {t : Nat} {e : Int} : stk f (l ++ [t]) e = f t (stk f l e) := by unfold stk; rw [List.foldl_append]; rfl
structure GpE (f : Nat → Int → Int) (a sg : Int) (m : Nat) (es : List Int) : Prop where
  len : es.length = m
  zero : es[0]? = some a
  rec' : ∀ G, 1 ≤ G → G < m → ∃ e, es[G]? = some e ∧ (∃ t, G.testBit t = true ∧ ∃ e', es[G - 2 ^ t]? = some e' ∧ e = f t e') ∧ ∀ t, G.testBit t = true → ∀ e', es[G - 2 ^ t]? = some e' → sg * e ≤ sg * f t e'
theorem GpE.least {f : Nat → Int → Int} {a : Int} {m : Nat} {es : List Int} (h : GpE f a 1 m es) (mono : ∀ t x y, x ≤ y → f t x ≤ f t y) : ∀ G, G < m → ∀ e, es[G]? = some e → (∃ os, IsOrd G os ∧ stk f os a = e) ∧ ∀ os, IsOrd G os → e ≤ stk f os a := by
  intro G
  induction G using Nat.strongRecOn with
  | ind G ih =>
    intro hG e he
    by_cases z : G = 0
    · subst z
      rw [h.zero] at he
      cases he
      exact ⟨⟨[], IsOrd.nil, rfl⟩, fun os ho => by rw [ho.zero]; exact Int.le_refl _⟩
    · obtain ⟨e0, g1, ⟨t, t1, e', g2, g3⟩, g4⟩ := h.rec' G (by omega) hG
      rw [he] at g1
      cases g1
      have hw := (without_lt t1).1
      obtain ⟨⟨os, o1, o2⟩, _⟩ := ih (G - 2 ^ t) hw (by omega) e' g2
      refine ⟨⟨os ++ [t], IsOrd.snoc_iff.mpr ⟨t1, o1⟩, by rw [stk_snoc, o2, g3]⟩, fun q hq => ?_⟩
      rcases List.eq_nil_or_concat q with rfl | ⟨l, u, rfl⟩
      · obtain ⟨t', ht'⟩ := Nat.exists_testBit_of_ne_zero z
        have := (hq.2 t').mpr ht'
        simp at this
      · rw [List.concat_eq_append] at hq ⊢
        obtain ⟨u1, u2⟩ := IsOrd.snoc_iff.mp hq
        have hw2 := (without_lt u1).1
        have hl : G - 2 ^ u < es.length := by rw [h.len]; omega
        have hx := List.getElem?_eq_getElem hl
        have lo := (ih (G - 2 ^ u) hw2 (by omega) _ hx).2 l u2
        have := g4 u u1 _ hx
        have := mono u _ _ lo
        rw [stk_snoc]
        omega
theorem GpE.last {f g : Nat → Int → Int} {lim : Int} {m : Nat} {bs : List Int} (h : GpE g lim (-1) m bs) (gal : ∀ G t, G < m → G.testBit t = true → ∀ x y, f t x ≤ y ↔ x ≤ g t y) : ∀ G, G < m → ∀ b, bs[G]? = some b → ∀ e, (∃ os, IsOrd G os ∧ stk f os e ≤ lim) ↔ e ≤ b := by
  intro G
  induction G using Nat.strongRecOn with
  | ind G ih =>
    intro hG b hb e
    by_cases z : G = 0
    · subst z
      rw [h.zero] at hb
      cases hb
      constructor
      · rintro ⟨os, ho, hs⟩
        rw [ho.zero] at hs
        exact hs
      · exact fun he => ⟨[], IsOrd.nil, he⟩
    · obtain ⟨b0, g1, ⟨t, t1, b', g2, g3⟩, g4⟩ := h.rec' G (by omega) hG
      rw [hb] at g1
      cases g1
      constructor
      · rintro ⟨os, ho, hs⟩
        cases os with
        | nil =>
          obtain ⟨t', ht'⟩ := Nat.exists_testBit_of_ne_zero z
          have := (ho.2 t').mpr ht'
          simp at this
        | cons u l =>
          obtain ⟨u1, u2⟩ := IsOrd.cons_iff.mp ho
          have hw2 := (without_lt u1).1
          have hl : G - 2 ^ u < bs.length := by rw [h.len]; omega
          have hx := List.getElem?_eq_getElem hl
          have q1 := (ih (G - 2 ^ u) hw2 (by omega) _ hx (f u e)).mp ⟨l, u2, hs⟩
          have q2 := (gal G u hG u1 _ _).mp q1
          have q3 := g4 u u1 _ hx
          omega
      · intro he
        have hw := (without_lt t1).1
        rw [g3] at he
        obtain ⟨l, l1, l2⟩ := (ih (G - 2 ^ t) hw (by omega) _ g2 (f t e)).mpr ((gal G t hG t1 _ _).mpr he)
        exact ⟨t :: l, IsOrd.cons_iff.mpr ⟨t1, l1⟩, l2⟩
/-- the first order, as lists rise, by which the stack ends at lim or below -/
inductive Fst (f : Nat → Int → Int) (lim : Int) : Nat → Int → List Nat → Prop
  | nil {e : Int} : e ≤ lim → Fst f lim 0 e []
  | cons {G t : Nat} {e : Int} {l : List Nat} : G.testBit t = true → Fst f lim (G - 2 ^ t) (f t e) l → (∀ u, u < t → G.testBit u = true → ¬ ∃ q, IsOrd (G - 2 ^ u) q ∧ stk f q (f u e) ≤ lim) → Fst f lim G e (t :: l)
theorem Fst.ok {f : Nat → Int → Int} {lim : Int} {G : Nat} {e : Int} {os : List Nat} (h : Fst f lim G e os) : IsOrd G os ∧ stk f os e ≤ lim ∧ ∀ q, IsOrd G q → stk f q e ≤ lim → os = q ∨ os < q := by
  induction h with
  | nil he => exact ⟨IsOrd.nil, he, fun q hq _ => .inl hq.zero.symm⟩
  | @cons G t e l ht hf hno ih =>
    obtain ⟨i1, i2, i3⟩ := ih
    refine ⟨IsOrd.cons_iff.mpr ⟨ht, i1⟩, i2, fun q hq hs => ?_⟩
    cases q with
    | nil =>
      have := (hq.2 t).mpr ht
      simp at this
    | cons u r =>
      obtain ⟨u1, u2⟩ := IsOrd.cons_iff.mp hq
      rcases Nat.lt_trichotomy t u with z | z | z
      · exact .inr (List.cons_lt_cons_iff.mpr (.inl z))
      · subst z
        rcases i3 r u2 hs with rfl | h
        · exact .inl rfl
        · exact .inr (List.cons_lt_cons_iff.mpr (.inr ⟨rfl, h⟩))
      · exact absurd ⟨r, u2, hs⟩ (hno u z u1)
end L2
end
section
set_option Elab.async false
set_option linter.all false
set_option maxRecDepth 100000
set_option maxHeartbeats 0
namespace K26
open PySem L2
local macro_rules
  | `(tactic| simp only [rs, $ls,*]) => `(tactic| simp only [tVar, tC, tOp, tUn, rI, rI0, rU, tCB, tCons, tNil, tCall, tRet, tRetN, tSeq, tNext, tAsg, tPar3, gName, tAnd, tOr, tNot, tAndV, tOrV, tNotV, tIf, tTest, tB, tLst, tTup, gSub, rSetL, tPar, tDrop, tBM, rEq, rNe, scal, t2I, gTup, gTupH, gTupL, gCons, gNil,  tSl, rSlLH, tRev, tPart, tNoPart, tDNewK, tDisp, tPairs, tTm, List.map_cons, List.map_nil, List.length_cons, List.length_nil, List.replicate, List.append_nil, List.nil_append, List.cons_append, List.getElem?_cons_zero, List.getElem?_cons_succ, List.getElem?_nil, List.set_cons_zero, List.set_cons_succ, Option.some.injEq, V.int.injEq, V.ref.injEq, V.bl.injEq, V.str.injEq, V.ty.injEq, HO.lst.injEq, HO.tup.injEq, HO.rng.injEq, HO.dK.injEq, exists_eq_left, exists_eq_left', exists_eq_right, exists_eq_right', exists_and_left, exists_and_right, exists_eq, exists_eq', false_and, and_false, false_or, or_false, true_and, and_true, ite_true, ite_false, if_true, if_false, Bool.false_eq_true, reduceIte, List.cons.injEq, and_assoc, decide_true, decide_false, Bool.not_true, Bool.not_false, reduceCtorEq, upd_same, rIxLH, rCatTH, rCatE, tApp, tLm, tLm0, rPopI, rPopL, tDGs, sDPs, rSetDs, rNeI, rEqI, rNeR, rEqR, rCat, tMaxD, rAllT, rMaxH, rAnyH, rAllH, rInH, rIxTH, tyN_non, tyN_bl, tyN_int, tyN_str, tyN_ref, tyR_lst, tyR_tup, tyR_dK, at0, at1, at2, at3, at4, ix0, ix1, ix2, Nat.reduceAdd, Nat.reduceSub, Nat.zero_add, Int.zero_add, Nat.add_zero, Int.reducePow, Int.reduceNeg, Int.reduceToNat, Nat.reducePow, isSub_NoneType_int, isSub_NoneType_bool, isSub_NoneType_str, isSub_NoneType_list, isSub_NoneType_tuple, isSub_NoneType_dict, isSub_bool_int, isSub_bool_bool, isSub_bool_str, isSub_bool_list, isSub_bool_tuple, isSub_bool_dict, isSub_int_int, isSub_int_bool, isSub_int_str, isSub_int_list, isSub_int_tuple, isSub_int_dict, isSub_str_int, isSub_str_bool, isSub_str_str, isSub_str_list, isSub_str_tuple, isSub_str_dict, isSub_list_int, isSub_list_bool, isSub_list_str, isSub_list_list, isSub_list_tuple, isSub_list_dict, isSub_tuple_int, isSub_tuple_bool, isSub_tuple_str, isSub_tuple_list, isSub_tuple_tuple, isSub_tuple_dict, isSub_dict_int, isSub_dict_bool, isSub_dict_str, isSub_dict_list, isSub_dict_tuple, isSub_dict_dict, isSubA_NoneType, isSubA_bool, isSubA_int, isSubA_str, isSubA_list, isSubA_tuple, isSubA_dict, rSetOf, rSortedSet, rSetAnd, rSetSub, rLenSet, rSortI, rSetOr, rSetB, HO.set.injEq, HO.ins.injEq, st_all_of, st_is_in, st_members, st_without, st_rounded, st_end_of, st_end_on, st_least_ends, st_last_begins, st_begin_below, st_best_stack, st__law_tape, st__law_draw, st__law_up, st__law_few, st__law_stacked, st__law_orders, st_law, $ls,*])
  | `(tactic| simp only [rd, $ls,*]) => `(tactic| simp only [rs, tIfS, $ls,*])
section
variable {P : Program} {w : World} {K : PySem.W.Frag} {mg : Str → Option Value} {base : Heap}
def eo (tl : List Th) (t : Nat) (e : Int) : Int := rdv e (bor tl (t : Int)) + siz tl (t : Int)
def bbl (tl : List Th) (t : Nat) (e : Int) : Int := (e - siz tl (t : Int)) / bor tl (t : Int) * bor tl (t : Int)
theorem gp_one {f : Nat → Int → Int} {a sg : Int} : GpE f a sg 1 [a] := ⟨rfl, rfl, fun G h1 h2 => by omega⟩
theorem gp_snoc {f : Nat → Int → Int} {a sg e : Int} {m : Nat} {es : List Int} (h : GpE f a sg m es) (hm : 1 ≤ m) (h1 : ∃ t, m.testBit t = true ∧ e = f t (es.getD (m - 2 ^ t) 0)) (h2 : ∀ t, m.testBit t = true → sg * e ≤ sg * f t (es.getD (m - 2 ^ t) 0)) : GpE f a sg (m + 1) (es ++ [e]) := by
  have hl := h.len
  have get : ∀ t, m.testBit t = true → (es ++ [e])[m - 2 ^ t]? = some (es.getD (m - 2 ^ t) 0) := fun t ht => by
    have := (without_lt ht).1
    rw [List.getElem?_append_left (by omega), List.getD_eq_getElem?_getD, List.getElem?_eq_getElem (by omega)]
    rfl
  refine ⟨by rw [List.length_append, hl]; rfl, by rw [List.getElem?_append_left (by omega)]; exact h.zero, fun G g1 g2 => ?_⟩
  by_cases z : G < m
  · obtain ⟨e0, a1, ⟨t, t1, e', a2, a3⟩, a4⟩ := h.rec' G g1 z
    refine ⟨e0, by rw [List.getElem?_append_left (by omega)]; exact a1, ⟨t, t1, e', by rw [List.getElem?_append_left (by have := (without_lt t1).1; omega)]; exact a2, a3⟩, fun u u1 e' he => a4 u u1 e' ?_⟩
    rw [List.getElem?_append_left (by have := (without_lt u1).1; omega)] at he
    exact he
  · obtain rfl : G = m := by omega
    obtain ⟨t, t1, t2⟩ := h1
    refine ⟨e, by rw [List.getElem?_append_right (by omega), hl, Nat.sub_self]; rfl, ⟨t, t1, _, get t t1, t2⟩, fun u u1 e' he => ?_⟩
    rw [get u u1] at he
    cases he
    exact h2 u u1
theorem bit_in {G n t : Nat} (h : G < 2 ^ n) (ht : G.testBit t = true) : t < n := by
  have h1 := Nat.ge_two_pow_of_testBit ht
  by_cases z : t < n
  · exact z
  · have := Nat.pow_le_pow_right (show 0 < 2 by decide) (show n ≤ t by omega)
    omega
theorem memB_ne {G : Nat} (h : 1 ≤ G) : memB G ≠ [] := by
  obtain ⟨t, ht⟩ := Nat.exists_testBit_of_ne_zero (show G ≠ 0 by omega)
  exact List.ne_nil_of_mem (mem_memB.mpr ht)
def spLeE : Sp := fun vs H Q _ => ∃ (t : Addr) (tl : List Th), vs = [.ref t] ∧ ThsAt H t tl ∧ tl.length ≤ 14 ∧ ∀ (l : Addr) (es : List Int) (H' : Hp), H l = none → Same H H' → H' l = some (.lst (es.map V.int)) → GpE (eo tl) 0 1 (2 ^ tl.length) es → Q (.ref l) H'
theorem ok_leasts (T : Txt K mg) (G_end_on : OwnOk P w K mg base 2 "end_on" ["thing", "end"] spEndOn) : OwnOk P w K mg base 3 "least_ends" ["things"] spLeE := by
  have G_all_of := ok_allof (P := P) (w := w) (base := base) T
  have G_members := ok_members (P := P) (w := w) (base := base) T
  have G_without := ok_without (P := P) (w := w) (base := base) T
  refine T.f_least_ends.ok sc_least_ends (fun vs H Q E h => ?_) (fun f cdv A outer s H vs Q E hr h => ?_)
  · obtain ⟨t, tl, rfl, _⟩ := h
    rfl
  · obtain ⟨tt, tl, rfl, hT, hl, k⟩ := h
    refine ⟨_, (QSs.run (qpss_cons (qps_set (i := 1) sc_least_ends.nd rfl (by first | exact Or.inl rfl | exact Or.inr rfl) (qpe_lst (qpa_cons qpe_int qpa_nil se_Constant))) (qpss_cons (qps_for PassesOwn.never rfl (qpi_range2 gl_least_ends_range T.b_range (qpa_cons qpe_int (qpa_cons (qpe_op op_add (qpe_own G_all_of hr gl_least_ends_all_of (qpa_cons v_least_ends_0 qpa_nil se_Name) (by omega) bd_all_of se_Name hp_nil) qpe_int) qpa_nil se_BinOp) se_Constant)) (qpg_name (i := 2) sc_least_ends.nd rfl (by first | exact Or.inl rfl | exact Or.inr rfl)) (qpss_one (qps_expr (qpe_app v_least_ends_1 (qpe_callB (cr_minH rfl) gl_least_ends_min T.b_min bb_min (qpa_cons (qpe_lc (own := [("t", 3)]) (by rfl) sc_least_ends.nd (qpi_listK K (qpe_own G_members hr gl_least_ends_members (qpa_cons v_least_ends_2 qpa_nil se_Name) (by omega) bd_members se_Name hp_nil)) (blkOk_by (own := [("t", 3)]) (N := N_least_ends) (sc := defScope s_least_ends) (by decide +kernel)) (fun _ _ _ _ _ => (qpg_name (i := 3) sc_least_ends.nd rfl (by first | exact Or.inl rfl | exact Or.inr rfl))) (fun _ _ _ _ _ => qpts_nil) (fun _ _ _ _ _ => (qpe_own G_end_on hr (by rfl) (qpa_cons (qpe_ix ix_tupH (qpv 0) (qpv 3) (fun _ _ => rfl)) (qpa_cons (qpe_ix ix_listH (qpv 1) (qpe_own G_without hr (by rfl) (qpa_cons (qpv 2) (qpa_cons (qpv 3) qpa_nil se_Name) se_Name) (by omega) bd_without se_Name (hp_cons se_Name hp_nil)) (fun _ _ => rfl)) qpa_nil se_Subscript) se_Subscript) (by omega) bd_end_on se_Subscript (hp_cons se_Subscript hp_nil)))) qpa_nil se_ListComp) bn_min bd_min se_ListComp hp_nil) se_Call)))) (qpss_one (qps_ret v_least_ends_1))))), ?_⟩
    have hthl : (thRefs tl).length = tl.length := by unfold thRefs; rw [List.length_map]
    refine tSeq_by (fun σ Hc => ∃ D, σ = [some (.ref tt), some (.ref D), none, none] ∧ H D = none ∧ Same H Hc ∧ Hc D = some (.lst [.int 0])) (fun N hN => ?_) ?_
    · simp only [rd, and_true]
      exact ⟨by decide, fun D hD => hN _ _ ⟨D, rfl, hD, Same.new hD, upd_same⟩⟩
    rintro σ H1 ⟨D, rfl, nD, s1, hD⟩
    have hT1 := hT.kpt s1.kpt
    have hn1 : 1 ≤ 2 ^ tl.length := Nat.one_le_two_pow
    have hn2 : 2 ^ tl.length ≤ 2 ^ 14 := Nat.pow_le_pow_right (by decide) hl
    refine tSeq_by (fun σ Hc => ∃ es o2 o3, σ = [some (.ref tt), some (.ref D), o2, o3] ∧ Same H Hc ∧ Hc D = some (.lst (es.map V.int)) ∧ GpE (eo tl) 0 1 (2 ^ tl.length) es) (fun N hN => ?_) ?_
    · have en : (((2 ^ (thRefs tl).length - 1 : Nat) : Int) + 1 - 1).toNat = 2 ^ tl.length - 1 := by rw [hthl]; omega
      refine ⟨_, rfl, tt, thRefs tl, rfl, hT1.at', by omega, _, 1, rfl, rfl, 1, _, rfl, ⟨by decide, by decide, by rw [hthl]; omega, by rw [hthl]; omega⟩, for_range (lo := 1) (n := (((2 ^ (thRefs tl).length - 1 : Nat) : Int) + 1 - 1).toNat) (fun i σ Hc => ∃ es o2 o3, σ = [some (.ref tt), some (.ref D), o2, o3] ∧ Same H Hc ∧ Hc D = some (.lst (es.map V.int)) ∧ GpE (eo tl) 0 1 (1 + i) es) ⟨[0], _, _, rfl, s1, hD, gp_one⟩ ?_ ?_⟩
      · rintro i σ Hc hi ⟨es, o2, o3, rfl, sc, hDc, hg⟩
        rw [en] at hi
        have hTc := hT.kpt sc.kpt
        rw [show (1 : Int) + (i : Int) = ((1 + i : Nat) : Int) by omega]
        have hG : 1 + i < 2 ^ tl.length := by omega
        generalize hGG : 1 + i = G at *
        have hG60 : G < 2 ^ 60 := Nat.lt_of_lt_of_le hG (Nat.le_trans hn2 (Nat.pow_le_pow_right (by decide) (by decide)))
        have hes := hg.len
        simp only [gName]
        refine ⟨_, rfl, D, _, rfl, hDc, _, rfl, G, rfl, hG60, fun l H2 nl s2 hl2 => ⟨l, rfl, ⟨_, .inl (.inl hl2)⟩, fun D2 hD2 => ?_⟩⟩
        have hmt : ∀ t ∈ memB G, G.testBit t = true ∧ t < tl.length := fun t ht => by
          have h1 := mem_memB.mp ht
          exact ⟨h1, bit_in hG h1⟩
        have hml : (memB G).length ≤ 60 := by
          unfold memB
          refine Nat.le_trans (List.length_filter_le _ _) ?_
          rw [List.length_range]
          exact btl_le hG60
        refine lc_list (xs := (memB G).map fun (t : Nat) => V.int (t : Int)) (fun j Hk => Same H2 Hk ∧ Hk D2 = some (.lst ((((memB G).take j).map fun t => eo tl t (es.getD (G - 2 ^ t) 0)).map V.int))) ⟨Same.new hD2, upd_same⟩ (fun j Hk _ h => .inl (.inl (h.1 _ _ hl2))) ?_ ?_
        · rintro j x Hk hx ⟨sk, hDk⟩
          rw [List.getElem?_map] at hx
          obtain ⟨t, et, rfl⟩ := Option.map_eq_some_iff.mp hx
          obtain ⟨t1, t2⟩ := hmt t (List.mem_of_getElem? et)
          have hTk := hTc.kpt (s2.trans sk).kpt
          have hDc2 := (s2.trans sk) _ _ hDc
          obtain ⟨x, ex, ax, ox⟩ := th_at hTk (i := (t : Int)) (by omega) (by omega)
          have hw := (without_lt t1).1
          have eg : atI (es.map V.int) ((G - 2 ^ t : Nat) : Int) = some (.int (es.getD (G - 2 ^ t) 0)) := by
            refine atI_nat ?_
            rw [List.getElem?_map, List.getD_eq_getElem?_getD, List.getElem?_eq_getElem (by omega)]
            rfl
          have eeo : rdv (es.getD (G - 2 ^ t) 0) x.2.2 + x.2.1 = eo tl t (es.getD (G - 2 ^ t) 0) := by
            unfold eo
            rw [siz_at ex, bor_at ex]
          have hts : (memB G).take (j + 1) = (memB G).take j ++ [t] := by rw [List.take_succ, et]; rfl
          have hlen : ((((memB G).take j).map fun t => eo tl t (es.getD (G - 2 ^ t) 0)).map V.int).length < sizeLine := by
            refine small_line ?_
            rw [List.length_map, List.length_map, List.length_take]
            omega
          have hTat := hTk.at'
          obtain ⟨o1, o2', o3', o4, o5⟩ := ox
          simp only [rd, wipe, tYes, hTat, ax]
          refine ⟨G, t, rfl, by omega, t1, _, _, rfl, hDc2, _, eg, x.1, x.2.1, x.2.2, _, rfl, o1, by omega, by omega, _, hDk, hlen, sk.over hD2 Ext.at, ?_⟩
          rw [hts, List.map_append, List.map_append, eeo]
          rfl
        · rintro Hk ⟨sk, hDk⟩
          rw [List.length_map, List.take_length] at hDk
          have sck := sc.trans (s2.trans sk)
          have hDc2 := (s2.trans sk) _ _ hDc
          have hpos : 0 < (memB G).length := List.length_pos_iff.mpr (memB_ne (by omega))
          refine ⟨D2, _, rfl, hDk, by rw [List.length_map]; exact hpos, fun m hm hmin => ⟨_, hDc2, by rw [List.length_map]; exact small_line (by omega), es ++ [m], _, _, rfl, sck.over nD Ext.at, by rw [upd_same, List.map_append]; rfl, ?_⟩⟩
          rw [show 1 + (i + 1) = G + 1 by omega]
          obtain ⟨t, ht, rfl⟩ := List.mem_map.mp hm
          refine gp_snoc hg (by omega) ⟨t, (hmt t ht).1, rfl⟩ fun u hu => ?_
          have := hmin _ (List.mem_map.mpr ⟨u, mem_memB.mpr hu, rfl⟩)
          omega
      · rintro σ Hc ⟨es, o2, o3, rfl, sc, hDc, hg⟩
        rw [en] at hg
        rw [show 1 + (2 ^ tl.length - 1) = 2 ^ tl.length by omega] at hg
        exact hN _ _ ⟨es, o2, o3, rfl, sc, hDc, hg⟩
    rintro σ Hc ⟨es, o2, o3, rfl, sc, hDc, hg⟩
    exact ⟨_, rfl, k D es Hc nD sc hDc hg⟩
end
end K26
end
section
set_option Elab.async false
set_option linter.all false
set_option maxRecDepth 100000
set_option maxHeartbeats 0
namespace K26
open PySem L2
local macro_rules
  | `(tactic| simp only [rs, $ls,*]) => `(tactic| simp only [tVar, tC, tOp, tUn, rI, rI0, rU, tCB, tCons, tNil, tCall, tRet, tRetN, tSeq, tNext, tAsg, tPar3, gName, tAnd, tOr, tNot, tAndV, tOrV, tNotV, tIf, tTest, tB, tLst, tTup, gSub, rSetL, tPar, tDrop, tBM, rEq, rNe, scal, t2I, gTup, gTupH, gTupL, gCons, gNil,  tSl, rSlLH, tRev, tPart, tNoPart, tDNewK, tDisp, tPairs, tTm, List.map_cons, List.map_nil, List.length_cons, List.length_nil, List.replicate, List.append_nil, List.nil_append, List.cons_append, List.getElem?_cons_zero, List.getElem?_cons_succ, List.getElem?_nil, List.set_cons_zero, List.set_cons_succ, Option.some.injEq, V.int.injEq, V.ref.injEq, V.bl.injEq, V.str.injEq, V.ty.injEq, HO.lst.injEq, HO.tup.injEq, HO.rng.injEq, HO.dK.injEq, exists_eq_left, exists_eq_left', exists_eq_right, exists_eq_right', exists_and_left, exists_and_right, exists_eq, exists_eq', false_and, and_false, false_or, or_false, true_and, and_true, ite_true, ite_false, if_true, if_false, Bool.false_eq_true, reduceIte, List.cons.injEq, and_assoc, decide_true, decide_false, Bool.not_true, Bool.not_false, reduceCtorEq, upd_same, rIxLH, rCatTH, rCatE, tApp, tLm, tLm0, rPopI, rPopL, tDGs, sDPs, rSetDs, rNeI, rEqI, rNeR, rEqR, rCat, tMaxD, rAllT, rMaxH, rAnyH, rAllH, rInH, rIxTH, tyN_non, tyN_bl, tyN_int, tyN_str, tyN_ref, tyR_lst, tyR_tup, tyR_dK, at0, at1, at2, at3, at4, ix0, ix1, ix2, Nat.reduceAdd, Nat.reduceSub, Nat.zero_add, Int.zero_add, Nat.add_zero, Int.reducePow, Int.reduceNeg, Int.reduceToNat, Nat.reducePow, isSub_NoneType_int, isSub_NoneType_bool, isSub_NoneType_str, isSub_NoneType_list, isSub_NoneType_tuple, isSub_NoneType_dict, isSub_bool_int, isSub_bool_bool, isSub_bool_str, isSub_bool_list, isSub_bool_tuple, isSub_bool_dict, isSub_int_int, isSub_int_bool, isSub_int_str, isSub_int_list, isSub_int_tuple, isSub_int_dict, isSub_str_int, isSub_str_bool, isSub_str_str, isSub_str_list, isSub_str_tuple, isSub_str_dict, isSub_list_int, isSub_list_bool, isSub_list_str, isSub_list_list, isSub_list_tuple, isSub_list_dict, isSub_tuple_int, isSub_tuple_bool, isSub_tuple_str, isSub_tuple_list, isSub_tuple_tuple, isSub_tuple_dict, isSub_dict_int, isSub_dict_bool, isSub_dict_str, isSub_dict_list, isSub_dict_tuple, isSub_dict_dict, isSubA_NoneType, isSubA_bool, isSubA_int, isSubA_str, isSubA_list, isSubA_tuple, isSubA_dict, rSetOf, rSortedSet, rSetAnd, rSetSub, rLenSet, rSortI, rSetOr, rSetB, HO.set.injEq, HO.ins.injEq, st_all_of, st_is_in, st_members, st_without, st_rounded, st_end_of, st_end_on, st_least_ends, st_last_begins, st_begin_below, st_best_stack, st__law_tape, st__law_draw, st__law_up, st__law_few, st__law_stacked, st__law_orders, st_law, $ls,*])
  | `(tactic| simp only [rd, $ls,*]) => `(tactic| simp only [rs, tIfS, $ls,*])
section
variable {P : Program} {w : World} {K : PySem.W.Frag} {mg : Str → Option Value} {base : Heap}
def spBegB : Sp := fun vs H Q _ => ∃ (a : Addr) (s b e : Int), vs = [.ref a, .int e] ∧ H a = some (.tup [.int s, .int b]) ∧ 0 < b ∧ b ≤ 1000000 ∧ True ∧ Q (.int ((e - s) / b * b)) H
theorem ok_begb (T : Txt K mg) : OwnOk P w K mg base 1 "begin_below" ["thing", "end"] spBegB := by
  refine T.f_begin_below.ok sc_begin_below (fun vs H Q E h => ?_) (fun f cdv A outer s H vs Q E hr h => ?_)
  · obtain ⟨a, s, b, e, rfl, _⟩ := h
    rfl
  · obtain ⟨a, s, b, e, rfl, ha, hb, hb2, _, k⟩ := h
    refine ⟨_, (QSs.run (qpss_cons (qps_asg v_begin_below_0 (qpg_tupH (n := 2) (by rfl) (qpgs_cons (qpg_name (i := 2) sc_begin_below.nd rfl (by first | exact Or.inl rfl | exact Or.inr rfl)) (qpgs_cons (qpg_name (i := 3) sc_begin_below.nd rfl (by first | exact Or.inl rfl | exact Or.inr rfl)) qpgs_nil)))) (qpss_one (qps_ret (qpe_op op_mul (qpe_op op_fdivW (qpe_op op_sub v_begin_below_1 v_begin_below_2) v_begin_below_3) v_begin_below_3))))), ?_⟩
    simp only [rd, ha]
    exact ⟨⟨hb, by omega⟩, .inr ⟨by omega, by omega⟩, k⟩
def spLbE : Sp := fun vs H Q _ => ∃ (t : Addr) (tl : List Th) (lim : Int), vs = [.ref t, .int lim] ∧ ThsAt H t tl ∧ tl.length ≤ 14 ∧ ∀ (l : Addr) (es : List Int) (H' : Hp), H l = none → Same H H' → H' l = some (.lst (es.map V.int)) → GpE (bbl tl) lim (-1) (2 ^ tl.length) es → Q (.ref l) H'
theorem ok_lasts (T : Txt K mg) (G_begin_below : OwnOk P w K mg base 1 "begin_below" ["thing", "end"] spBegB) : OwnOk P w K mg base 3 "last_begins" ["things", "limit"] spLbE := by
  have G_all_of := ok_allof (P := P) (w := w) (base := base) T
  have G_members := ok_members (P := P) (w := w) (base := base) T
  have G_without := ok_without (P := P) (w := w) (base := base) T
  refine T.f_last_begins.ok sc_last_begins (fun vs H Q E h => ?_) (fun f cdv A outer s H vs Q E hr h => ?_)
  · obtain ⟨t, tl, lim, rfl, _⟩ := h
    rfl
  · obtain ⟨tt, tl, lim, rfl, hT, hl, k⟩ := h
    refine ⟨_, (QSs.run (qpss_cons (qps_set (i := 2) sc_last_begins.nd rfl (by first | exact Or.inl rfl | exact Or.inr rfl) (qpe_lst (qpa_cons v_last_begins_1 qpa_nil se_Name))) (qpss_cons (qps_for PassesOwn.never rfl (qpi_range2 gl_last_begins_range T.b_range (qpa_cons qpe_int (qpa_cons (qpe_op op_add (qpe_own G_all_of hr gl_last_begins_all_of (qpa_cons v_last_begins_0 qpa_nil se_Name) (by omega) bd_all_of se_Name hp_nil) qpe_int) qpa_nil se_BinOp) se_Constant)) (qpg_name (i := 3) sc_last_begins.nd rfl (by first | exact Or.inl rfl | exact Or.inr rfl)) (qpss_one (qps_expr (qpe_app v_last_begins_2 (qpe_callB (cr_maxH rfl) gl_last_begins_max T.b_max bb_max (qpa_cons (qpe_lc (own := [("t", 4)]) (by rfl) sc_last_begins.nd (qpi_listK K (qpe_own G_members hr gl_last_begins_members (qpa_cons v_last_begins_3 qpa_nil se_Name) (by omega) bd_members se_Name hp_nil)) (blkOk_by (own := [("t", 4)]) (N := N_last_begins) (sc := defScope s_last_begins) (by decide +kernel)) (fun _ _ _ _ _ => (qpg_name (i := 4) sc_last_begins.nd rfl (by first | exact Or.inl rfl | exact Or.inr rfl))) (fun _ _ _ _ _ => qpts_nil) (fun _ _ _ _ _ => (qpe_own G_begin_below hr (by rfl) (qpa_cons (qpe_ix ix_tupH (qpv 0) (qpv 4) (fun _ _ => rfl)) (qpa_cons (qpe_ix ix_listH (qpv 2) (qpe_own G_without hr (by rfl) (qpa_cons (qpv 3) (qpa_cons (qpv 4) qpa_nil se_Name) se_Name) (by omega) bd_without se_Name (hp_cons se_Name hp_nil)) (fun _ _ => rfl)) qpa_nil se_Subscript) se_Subscript) (by omega) bd_begin_below se_Subscript (hp_cons se_Subscript hp_nil)))) qpa_nil se_ListComp) bn_max bd_max se_ListComp hp_nil) se_Call)))) (qpss_one (qps_ret v_last_begins_2))))), ?_⟩
    have hthl : (thRefs tl).length = tl.length := by unfold thRefs; rw [List.length_map]
    refine tSeq_by (fun σ Hc => ∃ D, σ = [some (.ref tt), some (.int lim), some (.ref D), none, none] ∧ H D = none ∧ Same H Hc ∧ Hc D = some (.lst [.int lim])) (fun N hN => ?_) ?_
    · simp only [rd, and_true]
      exact ⟨by decide, fun D hD => hN _ _ ⟨D, rfl, hD, Same.new hD, upd_same⟩⟩
    rintro σ H1 ⟨D, rfl, nD, s1, hD⟩
    have hT1 := hT.kpt s1.kpt
    have hn1 : 1 ≤ 2 ^ tl.length := Nat.one_le_two_pow
    have hn2 : 2 ^ tl.length ≤ 2 ^ 14 := Nat.pow_le_pow_right (by decide) hl
    refine tSeq_by (fun σ Hc => ∃ es o2 o3, σ = [some (.ref tt), some (.int lim), some (.ref D), o2, o3] ∧ Same H Hc ∧ Hc D = some (.lst (es.map V.int)) ∧ GpE (bbl tl) lim (-1) (2 ^ tl.length) es) (fun N hN => ?_) ?_
    · have en : (((2 ^ (thRefs tl).length - 1 : Nat) : Int) + 1 - 1).toNat = 2 ^ tl.length - 1 := by rw [hthl]; omega
      refine ⟨_, rfl, tt, thRefs tl, rfl, hT1.at', by omega, _, 1, rfl, rfl, 1, _, rfl, ⟨by decide, by decide, by rw [hthl]; omega, by rw [hthl]; omega⟩, for_range (lo := 1) (n := (((2 ^ (thRefs tl).length - 1 : Nat) : Int) + 1 - 1).toNat) (fun i σ Hc => ∃ es o2 o3, σ = [some (.ref tt), some (.int lim), some (.ref D), o2, o3] ∧ Same H Hc ∧ Hc D = some (.lst (es.map V.int)) ∧ GpE (bbl tl) lim (-1) (1 + i) es) ⟨[lim], _, _, rfl, s1, hD, gp_one⟩ ?_ ?_⟩
      · rintro i σ Hc hi ⟨es, o2, o3, rfl, sc, hDc, hg⟩
        rw [en] at hi
        have hTc := hT.kpt sc.kpt
        rw [show (1 : Int) + (i : Int) = ((1 + i : Nat) : Int) by omega]
        have hG : 1 + i < 2 ^ tl.length := by omega
        generalize hGG : 1 + i = G at *
        have hG60 : G < 2 ^ 60 := Nat.lt_of_lt_of_le hG (Nat.le_trans hn2 (Nat.pow_le_pow_right (by decide) (by decide)))
        have hes := hg.len
        simp only [gName]
        refine ⟨_, rfl, D, _, rfl, hDc, _, rfl, G, rfl, hG60, fun l H2 nl s2 hl2 => ⟨l, rfl, ⟨_, .inl (.inl hl2)⟩, fun D2 hD2 => ?_⟩⟩
        have hmt : ∀ t ∈ memB G, G.testBit t = true ∧ t < tl.length := fun t ht => by
          have h1 := mem_memB.mp ht
          exact ⟨h1, bit_in hG h1⟩
        have hml : (memB G).length ≤ 60 := by
          unfold memB
          refine Nat.le_trans (List.length_filter_le _ _) ?_
          rw [List.length_range]
          exact btl_le hG60
        refine lc_list (xs := (memB G).map fun (t : Nat) => V.int (t : Int)) (fun j Hk => Same H2 Hk ∧ Hk D2 = some (.lst ((((memB G).take j).map fun t => bbl tl t (es.getD (G - 2 ^ t) 0)).map V.int))) ⟨Same.new hD2, upd_same⟩ (fun j Hk _ h => .inl (.inl (h.1 _ _ hl2))) ?_ ?_
        · rintro j x Hk hx ⟨sk, hDk⟩
          rw [List.getElem?_map] at hx
          obtain ⟨t, et, rfl⟩ := Option.map_eq_some_iff.mp hx
          obtain ⟨t1, t2⟩ := hmt t (List.mem_of_getElem? et)
          have hTk := hTc.kpt (s2.trans sk).kpt
          have hDc2 := (s2.trans sk) _ _ hDc
          obtain ⟨x, ex, ax, ox⟩ := th_at hTk (i := (t : Int)) (by omega) (by omega)
          have hw := (without_lt t1).1
          have eg : atI (es.map V.int) ((G - 2 ^ t : Nat) : Int) = some (.int (es.getD (G - 2 ^ t) 0)) := by
            refine atI_nat ?_
            rw [List.getElem?_map, List.getD_eq_getElem?_getD, List.getElem?_eq_getElem (by omega)]
            rfl
          have eeo : (es.getD (G - 2 ^ t) 0 - x.2.1) / x.2.2 * x.2.2 = bbl tl t (es.getD (G - 2 ^ t) 0) := by
            unfold bbl
            rw [siz_at ex, bor_at ex]
          have hts : (memB G).take (j + 1) = (memB G).take j ++ [t] := by rw [List.take_succ, et]; rfl
          have hlen : ((((memB G).take j).map fun t => bbl tl t (es.getD (G - 2 ^ t) 0)).map V.int).length < sizeLine := by
            refine small_line ?_
            rw [List.length_map, List.length_map, List.length_take]
            omega
          have hTat := hTk.at'
          obtain ⟨o1, o2', o3', o4, o5⟩ := ox
          simp only [rd, wipe, tYes, hTat, ax]
          refine ⟨G, t, rfl, by omega, t1, _, _, rfl, hDc2, _, eg, x.1, x.2.1, x.2.2, _, rfl, o1, by omega, by omega, by trivial, _, hDk, hlen, sk.over hD2 Ext.at, ?_⟩
          rw [hts, List.map_append, List.map_append, eeo]
          rfl
        · rintro Hk ⟨sk, hDk⟩
          rw [List.length_map, List.take_length] at hDk
          have sck := sc.trans (s2.trans sk)
          have hDc2 := (s2.trans sk) _ _ hDc
          have hpos : 0 < (memB G).length := List.length_pos_iff.mpr (memB_ne (by omega))
          refine ⟨D2, _, rfl, hDk, by rw [List.length_map]; exact hpos, fun m hm hmin => ⟨_, hDc2, by rw [List.length_map]; exact small_line (by omega), es ++ [m], _, _, rfl, sck.over nD Ext.at, by rw [upd_same, List.map_append]; rfl, ?_⟩⟩
          rw [show 1 + (i + 1) = G + 1 by omega]
          obtain ⟨t, ht, rfl⟩ := List.mem_map.mp hm
          refine gp_snoc hg (by omega) ⟨t, (hmt t ht).1, rfl⟩ fun u hu => ?_
          have := hmin _ (List.mem_map.mpr ⟨u, mem_memB.mpr hu, rfl⟩)
          omega
      · rintro σ Hc ⟨es, o2, o3, rfl, sc, hDc, hg⟩
        rw [en] at hg
        rw [show 1 + (2 ^ tl.length - 1) = 2 ^ tl.length by omega] at hg
        exact hN _ _ ⟨es, o2, o3, rfl, sc, hDc, hg⟩
    rintro σ Hc ⟨es, o2, o3, rfl, sc, hDc, hg⟩
    exact ⟨_, rfl, k D es Hc nD sc hDc hg⟩
end
end K26
end
section
set_option Elab.async false
set_option linter.all false
set_option maxRecDepth 100000
namespace L2
open PySem
end L2
end
section
set_option Elab.async false
set_option linter.all false
set_option maxRecDepth 100000
namespace L2
open PySem
/-- what is needed ahead of the row where bs is needed behind it -/
def nby (it : Itm) (bs : List Int) : List Int := srt (ndI it ++ bs.filter fun t => decide (wrI it ≠ some t))
def itAt (rows : List Itm) (i : Nat) : Itm := rows.getD i (.row [] none)
/-- what is needed ahead of the row i, where A is needed ahead of the rows -/
def naE (rows : List Itm) (nx A : List (List Int)) (i : Nat) : List Int := nby (itAt rows i) (srt (uni A (nx.getD i [])))
/-- i rows looked at from the last on -/
def psF (rows : List Itm) (nx A : List (List Int)) : Nat → List (List Int)
  | 0 => A
  | i + 1 => (psF rows nx A i).set (rows.length - 1 - i) (naE rows nx (psF rows nx A i) (rows.length - 1 - i))
def pass (rows : List Itm) (nx A : List (List Int)) : List (List Int) := psF rows nx A rows.length
def iter {α : Type} (f : α → α) : Nat → α → α
  | 0, x => x
  | n + 1, x => f (iter f n x)
theorem iter_stay {α : Type} {f : α → α} {x : α} {k : Nat} (h : f (iter f k x) = iter f k x) : ∀ n, iter f (k + n) x = iter f k x
  | 0 => rfl
  | n + 1 => by
    show f (iter f (k + n) x) = _
    rw [iter_stay h n, h]
theorem iter_one {α : Type} {f : α → α} {x : α} {k m : Nat} (h : f (iter f k x) = iter f k x) (g : f (iter f m x) = iter f m x) : iter f k x = iter f m x := by
  rcases Nat.le_total k m with z | z
  · obtain ⟨n, rfl⟩ := Nat.exists_eq_add_of_le z
    exact (iter_stay h n).symm
  · obtain ⟨n, rfl⟩ := Nat.exists_eq_add_of_le z
    exact iter_stay g n
def NaIs (rows : List Itm) (nx A : List (List Int)) : Prop := ∃ k, A = iter (pass rows nx) k (rows.map fun _ => []) ∧ pass rows nx A = A
theorem NaIs.one {rows : List Itm} {nx A B : List (List Int)} (h : NaIs rows nx A) (g : NaIs rows nx B) : A = B := by
  obtain ⟨k, rfl, h2⟩ := h
  obtain ⟨m, rfl, g2⟩ := g
  exact iter_one h2 g2
/-! ### what grows -/
/-- rising lists below fifty -/
def R50 (l : List Int) : Prop := Ris l ∧ ∀ t ∈ l, 0 ≤ t ∧ t < 50
theorem R50.len {l : List Int} (h : R50 l) : l.length ≤ 50 := ris_len h.1 h.2
theorem R50.nil : R50 [] := ⟨.nil, by simp⟩
theorem mem_uni {A : List (List Int)} {rs : List Int} {t : Int} : t ∈ uni A rs ↔ ∃ r ∈ rs, t ∈ A.getD r.toNat [] := by
  unfold uni
  rw [List.mem_flatten]
  constructor
  · rintro ⟨l, hl, ht⟩
    obtain ⟨r, hr, rfl⟩ := List.mem_map.mp hl
    exact ⟨r, hr, ht⟩
  · rintro ⟨r, hr, ht⟩
    exact ⟨_, List.mem_map.mpr ⟨r, hr, rfl⟩, ht⟩
theorem mem_nby {it : Itm} {bs : List Int} {t : Int} : t ∈ nby it bs ↔ t ∈ ndI it ∨ (t ∈ bs ∧ wrI it ≠ some t) := by
  unfold nby
  rw [mem_srt, List.mem_append, List.mem_filter, decide_eq_true_eq]
theorem mem_naE {rows : List Itm} {nx A : List (List Int)} {i : Nat} {t : Int} : t ∈ naE rows nx A i ↔ t ∈ ndI (itAt rows i) ∨ ((∃ r ∈ nx.getD i [], t ∈ A.getD r.toNat []) ∧ wrI (itAt rows i) ≠ some t) := by
  unfold naE
  rw [mem_nby, mem_srt, mem_uni]
/-- each list within the other's -/
def Sub (A B : List (List Int)) : Prop := ∀ (i : Nat) (t : Int), t ∈ A.getD i [] → t ∈ B.getD i []
theorem Sub.refl {A : List (List Int)} : Sub A A := fun _ _ h => h
theorem Sub.trans {A B C : List (List Int)} (h : Sub A B) (g : Sub B C) : Sub A C := fun i t x => g i t (h i t x)
theorem naE_mono {rows : List Itm} {nx A B : List (List Int)} (h : Sub A B) {i : Nat} {t : Int} (ht : t ∈ naE rows nx A i) : t ∈ naE rows nx B i := by
  rw [mem_naE] at ht ⊢
  rcases ht with h1 | ⟨⟨r, hr, h2⟩, h3⟩
  · exact .inl h1
  · exact .inr ⟨⟨r, hr, h _ _ h2⟩, h3⟩
/-- on the way up -/
structure Asc (rows : List Itm) (nx A : List (List Int)) : Prop where
  len : A.length = rows.length
  ok : ∀ l ∈ A, R50 l
  le : ∀ (i : Nat) (t : Int), t ∈ A.getD i [] → t ∈ naE rows nx A i
def RowsOk (rows : List Itm) : Prop := ∀ x ∈ rows, isR x = true ∧ shI 50 x
theorem ndI_bd {it : Itm} (hR : isR it = true) (h : shI 50 it) : ∀ t ∈ ndI it, 0 ≤ t ∧ t < 50 := by
  intro t ht
  cases it with
  | row rs w => simp only [shI] at h; exact h.2.2.1 t ht
  | give x => simp only [ndI, List.mem_cons, List.not_mem_nil, or_false] at ht; subst ht; simpa only [shI] using h
  | back x => simp [ndI] at ht
  | _ => cases hR
theorem itAt_ok {rows : List Itm} (h : RowsOk rows) (i : Nat) : isR (itAt rows i) = true ∧ shI 50 (itAt rows i) := by
  unfold itAt
  rw [List.getD_eq_getElem?_getD]
  cases e : rows[i]? with
  | none => exact ⟨rfl, by simp [shI]⟩
  | some x => exact h x (List.mem_of_getElem? e)
theorem getD_R50 {A : List (List Int)} (h : ∀ l ∈ A, R50 l) (i : Nat) : R50 (A.getD i []) := by
  rw [List.getD_eq_getElem?_getD]
  cases e : A[i]? with
  | none => exact R50.nil
  | some l => exact h l (List.mem_of_getElem? e)
theorem naE_ok {rows : List Itm} {nx A : List (List Int)} (hR : RowsOk rows) (h : ∀ l ∈ A, R50 l) (i : Nat) : R50 (naE rows nx A i) := by
  refine ⟨ris_srt _, fun t ht => ?_⟩
  rcases mem_naE.mp ht with h1 | ⟨⟨r, _, h2⟩, _⟩
  · exact ndI_bd (itAt_ok hR i).1 (itAt_ok hR i).2 t h1
  · exact (getD_R50 h _).2 t h2
theorem sub_set {A : List (List Int)} {j : Nat} {l : List Int} (h : ∀ t ∈ A.getD j [], t ∈ l) : Sub A (A.set j l) := fun i t ht => by
  by_cases z : j = i
  · subst z
    by_cases y : j < A.length
    · rw [getD_set_self y]; exact h t ht
    · rw [List.set_eq_of_length_le (by omega)]; exact ht
  · rw [getD_set_ne z]; exact ht
theorem Asc.step {rows : List Itm} {nx A : List (List Int)} (hR : RowsOk rows) (h : Asc rows nx A) (j : Nat) : Asc rows nx (A.set j (naE rows nx A j)) := by
  have hs := sub_set (h.le j)
  refine ⟨by rw [List.length_set]; exact h.len, fun l hl => ?_, fun i t ht => naE_mono hs ?_⟩
  · rcases List.mem_or_eq_of_mem_set hl with h1 | h1
    · exact h.ok l h1
    · rw [h1]; exact naE_ok hR h.ok j
  · by_cases z : j = i
    · subst z
      by_cases y : j < A.length
      · rw [getD_set_self y] at ht; exact ht
      · rw [List.set_eq_of_length_le (by omega)] at ht; exact h.le _ _ ht
    · rw [getD_set_ne z] at ht
      exact h.le _ _ ht
theorem Asc.psF {rows : List Itm} {nx A : List (List Int)} (hR : RowsOk rows) (h : Asc rows nx A) : ∀ i, Asc rows nx (psF rows nx A i) ∧ Sub A (L2.psF rows nx A i)
  | 0 => ⟨h, Sub.refl⟩
  | i + 1 => by
    obtain ⟨h1, h2⟩ := Asc.psF hR h i
    exact ⟨h1.step hR _, h2.trans (sub_set (h1.le _))⟩
theorem Asc.nil (rows : List Itm) (nx : List (List Int)) : Asc rows nx (rows.map fun _ => []) := by
  refine ⟨by simp, fun l hl => ?_, fun i t ht => ?_⟩
  · obtain ⟨_, _, rfl⟩ := List.mem_map.mp hl
    exact R50.nil
  · rw [List.getD_eq_getElem?_getD, List.getElem?_map] at ht
    cases e : rows[i]? <;> (rw [e] at ht; simp at ht)
theorem Asc.iter {rows : List Itm} {nx : List (List Int)} (hR : RowsOk rows) : ∀ k, Asc rows nx (iter (pass rows nx) k (rows.map fun _ => []))
  | 0 => Asc.nil _ _
  | k + 1 => ((Asc.iter hR k).psF hR _).1
theorem Tl.set {D : Addr} {H : Hp} {q : Addr} {l : List Int} (hq : H q = some (.lst (l.map V.int))) (hn : q ≠ D) : ∀ {vs : List V} {ts : List (List Int)} (i : Nat), Tl D H vs ts → Tl D H (vs.set i (.ref q)) (ts.set i l)
  | [], [], _, _ => trivial
  | v :: vs, t :: ts, 0, h => ⟨⟨q, rfl, hn, hq⟩, h.2⟩
  | v :: vs, t :: ts, i + 1, h => ⟨h.1, Tl.set hq hn i h.2⟩
  | [], _ :: _, _, h => h.elim
  | _ :: _, [], _, h => h.elim
/-- none of these stands in H -/
def FrL (H : Hp) (vs : List V) : Prop := ∀ a, V.ref a ∈ vs → H a = none
theorem FrL.nil {H : Hp} : FrL H [] := fun _ h => by simp at h
theorem FrL.back {H H' : Hp} {vs : List V} (h : FrL H' vs) (s : Same H H') : FrL H vs := fun a ha => s.free (h a ha)
theorem FrL.snoc {H : Hp} {vs : List V} {q : Addr} (h : FrL H vs) (hq : H q = none) : FrL H (vs ++ [.ref q]) := fun a ha => by
  rcases List.mem_append.mp ha with h1 | h1
  · exact h a h1
  · simp only [List.mem_cons, List.not_mem_nil, or_false] at h1
    cases h1
    exact hq
end L2
end
section
set_option Elab.async false
set_option linter.all false
set_option maxRecDepth 100000
namespace L2
open PySem
def lstL (l : List Int) : Int := l.getD (l.length - 1) 0
theorem at_lst {l : List Int} (h : l ≠ []) : atI (l.map V.int) (-1) = some (.int (lstL l)) := by
  have hp : 0 < l.length := List.length_pos_iff.mpr h
  have e : ixN (l.map V.int).length (-1) = some (l.length - 1) := by
    unfold ixN
    rw [List.length_map, if_neg (by decide), if_pos (by omega)]
    congr 1
    omega
  unfold atI lstL
  rw [e]
  simp only [Option.bind_some]
  rw [List.getElem?_map, List.getElem?_eq_getElem (by omega), List.getD_eq_getElem?_getD, List.getElem?_eq_getElem (by omega)]
  rfl
end L2
end
section
set_option Elab.async false
set_option linter.all false
set_option maxRecDepth 100000
set_option maxHeartbeats 0
namespace K26
open PySem L2
local macro_rules
  | `(tactic| simp only [rs, $ls,*]) => `(tactic| simp only [tVar, tC, tOp, tUn, rI, rI0, rU, tCB, tCons, tNil, tCall, tRet, tRetN, tSeq, tNext, tAsg, tPar3, gName, tAnd, tOr, tNot, tAndV, tOrV, tNotV, tIf, tTest, tB, tLst, tTup, gSub, rSetL, tPar, tDrop, tBM, rEq, rNe, scal, t2I, gTup, gTupH, gTupL, gCons, gNil,  tSl, rSlLH, tRev, tPart, tNoPart, tDNewK, tDisp, tPairs, tTm, List.map_cons, List.map_nil, List.length_cons, List.length_nil, List.replicate, List.append_nil, List.nil_append, List.cons_append, List.getElem?_cons_zero, List.getElem?_cons_succ, List.getElem?_nil, List.set_cons_zero, List.set_cons_succ, Option.some.injEq, V.int.injEq, V.ref.injEq, V.bl.injEq, V.str.injEq, V.ty.injEq, HO.lst.injEq, HO.tup.injEq, HO.rng.injEq, HO.dK.injEq, exists_eq_left, exists_eq_left', exists_eq_right, exists_eq_right', exists_and_left, exists_and_right, exists_eq, exists_eq', false_and, and_false, false_or, or_false, true_and, and_true, ite_true, ite_false, if_true, if_false, Bool.false_eq_true, reduceIte, List.cons.injEq, and_assoc, decide_true, decide_false, Bool.not_true, Bool.not_false, reduceCtorEq, upd_same, rIxLH, rCatTH, rCatE, tApp, tLm, tLm0, rPopI, rPopL, tDGs, sDPs, rSetDs, rNeI, rEqI, rNeR, rEqR, rCat, tMaxD, rAllT, rMaxH, rAnyH, rAllH, rInH, rIxTH, tyN_non, tyN_bl, tyN_int, tyN_str, tyN_ref, tyR_lst, tyR_tup, tyR_dK, at0, at1, at2, at3, at4, ix0, ix1, ix2, Nat.reduceAdd, Nat.reduceSub, Nat.zero_add, Int.zero_add, Nat.add_zero, Int.reducePow, Int.reduceNeg, Int.reduceToNat, Nat.reducePow, isSub_NoneType_int, isSub_NoneType_bool, isSub_NoneType_str, isSub_NoneType_list, isSub_NoneType_tuple, isSub_NoneType_dict, isSub_bool_int, isSub_bool_bool, isSub_bool_str, isSub_bool_list, isSub_bool_tuple, isSub_bool_dict, isSub_int_int, isSub_int_bool, isSub_int_str, isSub_int_list, isSub_int_tuple, isSub_int_dict, isSub_str_int, isSub_str_bool, isSub_str_str, isSub_str_list, isSub_str_tuple, isSub_str_dict, isSub_list_int, isSub_list_bool, isSub_list_str, isSub_list_list, isSub_list_tuple, isSub_list_dict, isSub_tuple_int, isSub_tuple_bool, isSub_tuple_str, isSub_tuple_list, isSub_tuple_tuple, isSub_tuple_dict, isSub_dict_int, isSub_dict_bool, isSub_dict_str, isSub_dict_list, isSub_dict_tuple, isSub_dict_dict, isSubA_NoneType, isSubA_bool, isSubA_int, isSubA_str, isSubA_list, isSubA_tuple, isSubA_dict, rSetOf, rSortedSet, rSetAnd, rSetSub, rLenSet, rSortI, rSetOr, rSetB, HO.set.injEq, HO.ins.injEq, st_all_of, st_is_in, st_members, st_without, st_rounded, st_end_of, st_end_on, st_least_ends, st_last_begins, st_begin_below, st_best_stack, st__law_tape, st__law_draw, st__law_up, st__law_few, st__law_stacked, st__law_orders, st_law, $ls,*])
  | `(tactic| simp only [rd, $ls,*]) => `(tactic| simp only [rs, tIfS, $ls,*])
section
variable {P : Program} {w : World} {K : PySem.W.Frag} {mg : Str → Option Value} {base : Heap}
theorem bor_pos2 {H : Hp} {t : Addr} {tl : List Th} (hT : ThsAt H t tl) (u : Int) : 0 < bor tl u := by
  unfold bor
  rw [List.getD_eq_getElem?_getD]
  cases e : tl[u.toNat]? with
  | none => decide
  | some x =>
    have := (hT.all x (List.mem_of_getElem? e)).2.2.2.1
    show 0 < x.2.2
    omega
theorem eo_mono {H : Hp} {t : Addr} {tl : List Th} (hT : ThsAt H t tl) (u : Nat) (x y : Int) (h : x ≤ y) : eo tl u x ≤ eo tl u y := by
  unfold eo
  have hb := bor_pos2 hT (u : Int)
  have := rdv_least (m := rdv y (bor tl (u : Int))) hb (Int.le_trans h (rdv_ge hb)) rdv_dvd
  omega
theorem eo_gal {H : Hp} {t : Addr} {tl : List Th} (hT : ThsAt H t tl) (u : Nat) (x y : Int) : eo tl u x ≤ y ↔ x ≤ bbl tl u y := by
  unfold eo bbl
  have hb := bor_pos2 hT (u : Int)
  generalize bor tl (u : Int) = b at *
  generalize siz tl (u : Int) = s at *
  have hz : (y - s) / b * b ≤ y - s := Int.ediv_mul_le _ (by omega)
  constructor
  · intro h
    have h1 := rdv_ge (n := x) hb
    obtain ⟨k, hk⟩ := Int.dvd_of_emod_eq_zero (rdv_dvd (n := x) (b := b))
    have h2 : k ≤ (y - s) / b := Int.le_ediv_of_mul_le hb (by rw [Int.mul_comm, ← hk]; omega)
    have h3 := Int.mul_le_mul_of_nonneg_right h2 (show 0 ≤ b by omega)
    rw [Int.mul_comm k b, ← hk] at h3
    omega
  · intro h
    have := rdv_least (m := (y - s) / b * b) hb h (Int.mul_emod_left _ _)
    omega
def spBest : Sp := fun vs H Q _ => ∃ (t : Addr) (tl : List Th), vs = [.ref t] ∧ ThsAt H t tl ∧ tl.length ≤ 14 ∧ ∀ (r l : Addr) (e : Int) (es : List Int) (os : List Nat) (H' : Hp), H r = none → H l = none → Same H H' → H' r = some (.tup [.int e, .ref l]) → H' l = some (.lst (os.map fun (t : Nat) => V.int (t : Int))) →
  GpE (eo tl) 0 1 (2 ^ tl.length) es → es[2 ^ tl.length - 1]? = some e → Fst (eo tl) e (2 ^ tl.length - 1) 0 os → Q (.ref r) H'
theorem ok_best (T : Txt K mg) : OwnOk P w K mg base 4 "best_stack" ["things"] spBest := by
  have G_all_of := ok_allof (P := P) (w := w) (base := base) T
  have G_members := ok_members (P := P) (w := w) (base := base) T
  have G_without := ok_without (P := P) (w := w) (base := base) T
  have G_end_of := ok_end_of (P := P) (w := w) (base := base) T
  have G_rounded := ok_rounded (P := P) (w := w) (base := base) T
  have G_end_on := ok_endon (P := P) (w := w) (base := base) T G_end_of G_rounded
  have G_begin_below := ok_begb (P := P) (w := w) (base := base) T
  have G_least_ends := ok_leasts (P := P) (w := w) (base := base) T G_end_on
  have G_last_begins := ok_lasts (P := P) (w := w) (base := base) T G_begin_below
  refine T.f_best_stack.ok sc_best_stack (fun vs H Q E h => ?_) (fun f cdv A outer s H vs Q E hr h => ?_)
  · obtain ⟨t, tl, rfl, _⟩ := h
    rfl
  · obtain ⟨tt, tl, rfl, hT, hl, k⟩ := h
    refine ⟨_, (QSs.run (qpss_cons (qps_set (i := 1) sc_best_stack.nd rfl (by first | exact Or.inl rfl | exact Or.inr rfl) (qpe_ix ix_listH (qpe_own G_least_ends hr gl_best_stack_least_ends (qpa_cons v_best_stack_0 qpa_nil se_Name) (by omega) bd_least_ends se_Name hp_nil) (qpe_un un_neg qpe_int) (fun _ _ => rfl))) (qpss_cons (qps_set (i := 2) sc_best_stack.nd rfl (by first | exact Or.inl rfl | exact Or.inr rfl) (qpe_own G_last_begins hr gl_best_stack_last_begins (qpa_cons v_best_stack_0 (qpa_cons v_best_stack_1 qpa_nil se_Name) se_Name) (by omega) bd_last_begins se_Name (hp_cons se_Name hp_nil))) (qpss_cons (qps_set (i := 3) sc_best_stack.nd rfl (by first | exact Or.inl rfl | exact Or.inr rfl) (qpe_own G_all_of hr gl_best_stack_all_of (qpa_cons v_best_stack_0 qpa_nil se_Name) (by omega) bd_all_of se_Name hp_nil)) (qpss_cons (qps_set (i := 4) sc_best_stack.nd rfl (by first | exact Or.inl rfl | exact Or.inr rfl) (qpe_lst qpa_nil)) (qpss_cons (qps_set (i := 5) sc_best_stack.nd rfl (by first | exact Or.inl rfl | exact Or.inr rfl) qpe_int) (qpss_cons (qps_while PassesOwn.never (qpt_cmpR op_gt v_best_stack_3 qpe_int (nomark _)) (qpss_cons (qps_set (i := 6) sc_best_stack.nd rfl (by first | exact Or.inl rfl | exact Or.inr rfl) (qpe_callB (cr_minH rfl) gl_best_stack_min T.b_min bb_min (qpa_cons (qpe_lc (own := [("t", 7)]) (by rfl) sc_best_stack.nd (qpi_listK K (qpe_own G_members hr gl_best_stack_members (qpa_cons v_best_stack_3 qpa_nil se_Name) (by omega) bd_members se_Name hp_nil)) (blkOk_by (own := [("t", 7)]) (N := N_best_stack) (sc := defScope s_best_stack) (by decide +kernel)) (fun _ _ _ _ _ => (qpg_name (i := 7) sc_best_stack.nd rfl (by first | exact Or.inl rfl | exact Or.inr rfl))) (fun _ _ _ _ _ => (qpts_one (qpt_cmpR op_le (qpe_own G_end_on hr (by rfl) (qpa_cons (qpe_ix ix_tupH (qpv 0) (qpv 7) (fun _ _ => rfl)) (qpa_cons (qpv 5) qpa_nil se_Name) se_Subscript) (by omega) bd_end_on se_Subscript (hp_cons se_Name hp_nil)) (qpe_ix ix_listH (qpv 2) (qpe_own G_without hr (by rfl) (qpa_cons (qpv 3) (qpa_cons (qpv 7) qpa_nil se_Name) se_Name) (by omega) bd_without se_Name (hp_cons se_Name hp_nil)) (fun _ _ => rfl)) (nomark _)))) (fun _ _ _ _ _ => (qpv 7))) qpa_nil se_ListComp) bn_min bd_min se_ListComp hp_nil)) (qpss_cons (qps_expr (qpe_app v_best_stack_4 v_best_stack_6 se_Name)) (qpss_cons (qps_set (i := 5) sc_best_stack.nd rfl (by first | exact Or.inl rfl | exact Or.inr rfl) (qpe_own G_end_on hr gl_best_stack_end_on (qpa_cons (qpe_ix ix_tupH v_best_stack_0 v_best_stack_6 (fun _ _ => rfl)) (qpa_cons v_best_stack_5 qpa_nil se_Name) se_Subscript) (by omega) bd_end_on se_Subscript (hp_cons se_Name hp_nil))) (qpss_one (qps_set (i := 3) sc_best_stack.nd rfl (by first | exact Or.inl rfl | exact Or.inr rfl) (qpe_own G_without hr gl_best_stack_without (qpa_cons v_best_stack_3 (qpa_cons v_best_stack_6 qpa_nil se_Name) se_Name) (by omega) bd_without se_Name (hp_cons se_Name hp_nil)))))))) (qpss_one (qps_ret (qpe_tup (qpa_cons v_best_stack_1 (qpa_cons v_best_stack_4 qpa_nil se_Name) se_Name))))))))))), ?_⟩
    have hthl : (thRefs tl).length = tl.length := by unfold thRefs; rw [List.length_map]
    have hn1 : 1 ≤ 2 ^ tl.length := Nat.one_le_two_pow
    have hn2 : 2 ^ tl.length ≤ 2 ^ 14 := Nat.pow_le_pow_right (by decide) hl
    refine tSeq_by (fun σ Hc => ∃ es e, σ = [some (.ref tt), some (.int e), none, none, none, none, none, none] ∧ Same H Hc ∧ GpE (eo tl) 0 1 (2 ^ tl.length) es ∧ es[2 ^ tl.length - 1]? = some e) (fun N hN => ?_) ?_
    · refine ⟨_, rfl, tt, tl, rfl, hT, hl, fun l es H1 nl s1 hl1 hg => ?_⟩
      have hel := hg.len
      have hat : atI (es.map V.int) (-1) = some (.int (lstL es)) := at_lst (by intro z; rw [z] at hel; simp at hel; omega)
      refine ⟨1, rfl, l, _, -1, _, rfl, rfl, hl1, hat, hN _ _ ⟨es, lstL es, rfl, s1, hg, ?_⟩⟩
      unfold lstL
      rw [hel, List.getD_eq_getElem?_getD, List.getElem?_eq_getElem (by omega)]
      rfl
    rintro σ H1 ⟨es, lim, rfl, s1, hes, hlim⟩
    have hT1 := hT.kpt s1.kpt
    refine tSeq_by (fun σ Hc => ∃ B bs, σ = [some (.ref tt), some (.int lim), some (.ref B), none, none, none, none, none] ∧ Same H1 Hc ∧ Hc B = some (.lst (bs.map V.int)) ∧ GpE (bbl tl) lim (-1) (2 ^ tl.length) bs) (fun N hN => ?_) ?_
    · exact ⟨_, rfl, _, rfl, tt, tl, lim, rfl, hT1, hl, fun l bs H2 nl s2 hl2 hg => hN _ _ ⟨l, bs, rfl, s2, hl2, hg⟩⟩
    rintro σ H2 ⟨B, bs, rfl, s2, hB, hbs⟩
    have hT2 := hT1.kpt s2.kpt
    have hbl := hbs.len
    have hall : 2 ^ tl.length - 1 < 2 ^ tl.length := by omega
    have gal : ∀ G t, G < 2 ^ tl.length → G.testBit t = true → ∀ x y, eo tl t x ≤ y ↔ x ≤ bbl tl t y := fun G t _ _ x y => eo_gal hT2 t x y
    have hlast := hbs.last gal
    have hleast := hes.least (eo_mono hT2)
    have getb : ∀ G, G < 2 ^ tl.length → bs[G]? = some (bs.getD G 0) := fun G hG => by
      rw [List.getD_eq_getElem?_getD, List.getElem?_eq_getElem (by omega)]
      rfl
    refine tSeq_by (fun σ Hc => σ = [some (.ref tt), some (.int lim), some (.ref B), some (.int ((2 ^ tl.length - 1 : Nat) : Int)), none, none, none, none] ∧ Hc = H2) (fun N hN => ?_) ?_
    · refine ⟨_, rfl, tt, thRefs tl, rfl, hT2.at', by omega, hN _ _ ⟨?_, rfl⟩⟩
      rw [hthl]
      rfl
    rintro σ Hc ⟨rfl, hh⟩
    obtain rfl : H2 = Hc := hh.symm
    refine tSeq_by (fun σ Hc => ∃ O, σ = [some (.ref tt), some (.int lim), some (.ref B), some (.int ((2 ^ tl.length - 1 : Nat) : Int)), some (.ref O), none, none, none] ∧ Same H2 Hc ∧ H2 O = none ∧ Hc O = some (.lst [])) (fun N hN => ?_) ?_
    · simp only [rd, and_true]
      exact ⟨by decide, fun O hO => hN _ _ ⟨O, rfl, Same.new hO, hO, upd_same⟩⟩
    rintro σ H3 ⟨O, rfl, s3, nO, hO⟩
    refine tSeq_by (fun σ Hc => σ = [some (.ref tt), some (.int lim), some (.ref B), some (.int ((2 ^ tl.length - 1 : Nat) : Int)), some (.ref O), some (.int 0), none, none] ∧ Hc = H3) (fun N hN => ?_) ?_
    · exact hN _ _ ⟨rfl, rfl⟩
    rintro σ Hc ⟨rfl, hh⟩
    obtain rfl : H3 = Hc := hh.symm
    have hinit : (0 : Int) ≤ bs.getD (2 ^ tl.length - 1) 0 := by
      obtain ⟨⟨os, o1, o2⟩, _⟩ := hleast _ hall lim hlim
      exact (hlast _ hall _ (getb _ hall) 0).mp ⟨os, o1, by rw [o2]; exact Int.le_refl _⟩
    refine tSeq_by (fun σ Hc => ∃ (os : List Nat) (o3 o5 o6 o7 : Option V), σ = [some (.ref tt), some (.int lim), some (.ref B), o3, some (.ref O), o5, o6, o7] ∧ Same H2 Hc ∧ Hc O = some (.lst (os.map fun (t : Nat) => V.int (t : Int))) ∧ Fst (eo tl) lim (2 ^ tl.length - 1) 0 os) (fun N hN => ?_) ?_
    · refine ⟨fun m σ Hx => ∃ (G : Nat) (e : Int) (pre : List Nat) (o6 o7 : Option V), m = G ∧ σ = [some (.ref tt), some (.int lim), some (.ref B), some (.int (G : Int)), some (.ref O), some (.int e), o6, o7] ∧ Same H2 Hx ∧ Hx O = some (.lst (pre.map fun (t : Nat) => V.int (t : Int))) ∧ G < 2 ^ tl.length ∧ pre.length + G < 2 ^ tl.length ∧ e ≤ bs.getD G 0 ∧ ∀ l, Fst (eo tl) lim G e l → Fst (eo tl) lim (2 ^ tl.length - 1) 0 (pre ++ l), ⟨_, 2 ^ tl.length - 1, 0, [], none, none, rfl, rfl, s3, hO, hall, by simp; omega, hinit, fun l h => h⟩, ?_⟩
      rintro m σ Hx ⟨G, e, pre, o6, o7, rfl, rfl, sx, hOx, hG, hpG, he, hf⟩
      refine ⟨_, rfl, (m : Int), 0, rfl, rfl, _, rfl, ?_⟩
      by_cases z : m = 0
      · subst z
        rw [decide_eq_false (by decide)]
        refine iteF (hN _ _ ⟨pre, _, _, _, _, rfl, sx, hOx, ?_⟩)
        have h0 : bs.getD 0 0 = lim := by rw [List.getD_eq_getElem?_getD, hbs.zero]; rfl
        rw [h0] at he
        have := hf [] (Fst.nil he)
        rwa [List.append_nil] at this
      · rw [decide_eq_true (by omega)]
        refine iteT ⟨fun σ' H' => ∃ (G : Nat) (e : Int) (pre : List Nat) (o6 o7 : Option V), G < m ∧ σ' = [some (.ref tt), some (.int lim), some (.ref B), some (.int (G : Int)), some (.ref O), some (.int e), o6, o7] ∧ Same H2 H' ∧ H' O = some (.lst (pre.map fun (t : Nat) => V.int (t : Int))) ∧ G < 2 ^ tl.length ∧ pre.length + G < 2 ^ tl.length ∧ e ≤ bs.getD G 0 ∧ ∀ l, Fst (eo tl) lim G e l → Fst (eo tl) lim (2 ^ tl.length - 1) 0 (pre ++ l), fun σ' H' ⟨G, e, pre, o6, o7, h1, h2⟩ => ⟨G, h1, G, e, pre, o6, o7, rfl, h2⟩, ?_⟩
        have hG60 : m < 2 ^ 60 := Nat.lt_of_lt_of_le hG (Nat.le_trans hn2 (Nat.pow_le_pow_right (by decide) (by decide)))
        have hmt : ∀ t ∈ memB m, m.testBit t = true ∧ t < tl.length := fun t ht => by
          have h1 := mem_memB.mp ht
          exact ⟨h1, bit_in hG h1⟩
        have hml : (memB m).length ≤ 60 := by
          unfold memB
          refine Nat.le_trans (List.length_filter_le _ _) ?_
          rw [List.length_range]
          exact btl_le hG60
        have hpre : pre.length ≤ 20000 := by omega
        refine tSeq_by (fun σ Hy => ∃ t : Nat, σ = [some (.ref tt), some (.int lim), some (.ref B), some (.int (m : Int)), some (.ref O), some (.int e), some (.int (t : Int)), o7] ∧ Same Hx Hy ∧ m.testBit t = true ∧ eo tl t e ≤ bs.getD (m - 2 ^ t) 0 ∧ ∀ u, m.testBit u = true → eo tl u e ≤ bs.getD (m - 2 ^ u) 0 → t ≤ u) (fun N hN => ?_) ?_
        · refine ⟨_, rfl, m, rfl, hG60, fun l Ha nl sa hla => ⟨l, rfl, ⟨_, .inl (.inl hla)⟩, fun D hD => ?_⟩⟩
          refine lc_list (xs := (memB m).map fun (t : Nat) => V.int (t : Int)) (fun j Hk => Same Ha Hk ∧ Hk D = some (.lst (((((memB m).take j).filter fun t => decide (eo tl t e ≤ bs.getD (m - 2 ^ t) 0)).map fun (t : Nat) => (t : Int)).map V.int))) ⟨Same.new hD, upd_same⟩ (fun j Hk _ h => .inl (.inl (h.1 _ _ hla))) ?_ ?_
          · rintro j x Hk hx ⟨sk, hDk⟩
            rw [List.getElem?_map] at hx
            obtain ⟨t, et, rfl⟩ := Option.map_eq_some_iff.mp hx
            obtain ⟨t1, t2⟩ := hmt t (List.mem_of_getElem? et)
            have sxk := sx.trans (sa.trans sk)
            have hTk := hT2.kpt sxk.kpt
            have hBk := sxk _ _ hB
            obtain ⟨x, ex, ax, ox⟩ := th_at hTk (i := (t : Int)) (by omega) (by omega)
            have hw := (without_lt t1).1
            have eg : atI (bs.map V.int) ((m - 2 ^ t : Nat) : Int) = some (.int (bs.getD (m - 2 ^ t) 0)) := by
              refine atI_nat ?_
              rw [List.getElem?_map, getb _ (by omega)]
              rfl
            have eeo : rdv e x.2.2 + x.2.1 = eo tl t e := by
              unfold eo
              rw [siz_at ex, bor_at ex]
            have hts : (memB m).take (j + 1) = (memB m).take j ++ [t] := by rw [List.take_succ, et]; rfl
            have hlen : (((((memB m).take j).filter fun t => decide (eo tl t e ≤ bs.getD (m - 2 ^ t) 0)).map fun (t : Nat) => (t : Int)).map V.int).length < sizeLine := by
              refine small_line ?_
              rw [List.length_map, List.length_map]
              refine Nat.le_trans (List.length_filter_le _ _) ?_
              rw [List.length_take]
              omega
            have hTat := hTk.at'
            obtain ⟨o1, o2', o3', o4, o5⟩ := ox
            simp only [rd, wipe, hTat, ax]
            refine ⟨x.1, x.2.1, x.2.2, e, rfl, o1, by omega, by omega, m, t, rfl, by omega, t1, _, _, rfl, hBk, _, eg, _, rfl, _, rfl, ?_⟩
            rw [eeo, hts, List.filter_append]
            by_cases z2 : eo tl t e ≤ bs.getD (m - 2 ^ t) 0
            · have e1 : [t].filter (fun t => decide (eo tl t e ≤ bs.getD (m - 2 ^ t) 0)) = [t] := List.filter_cons_of_pos (p := fun t => decide (eo tl t e ≤ bs.getD (m - 2 ^ t) 0)) (decide_eq_true z2)
              rw [decide_eq_true z2, e1]
              refine iteT ⟨_, hDk, hlen, sk.over hD Ext.at, ?_⟩
              rw [List.map_append, List.map_append]
              rfl
            · have e1 : [t].filter (fun t => decide (eo tl t e ≤ bs.getD (m - 2 ^ t) 0)) = [] := List.filter_cons_of_neg (p := fun t => decide (eo tl t e ≤ bs.getD (m - 2 ^ t) 0)) (by rw [decide_eq_true_eq]; exact z2)
              rw [decide_eq_false z2, e1, List.append_nil]
              exact iteF ⟨sk, hDk⟩
          · rintro Hk ⟨sk, hDk⟩
            rw [List.length_map, List.take_length] at hDk
            have hex : ∃ t, m.testBit t = true ∧ eo tl t e ≤ bs.getD (m - 2 ^ t) 0 := by
              obtain ⟨b0, g1, ⟨t, t1, b', g2, g3⟩, _⟩ := hbs.rec' m (by omega) hG
              rw [getb m hG] at g1
              cases g1
              refine ⟨t, t1, ?_⟩
              have hw := (without_lt t1).1
              rw [getb _ (by omega)] at g2
              cases g2
              rw [g3] at he
              exact (gal m t hG t1 _ _).mpr he
            have hmemf : ∀ u, u ∈ (memB m).filter (fun t => decide (eo tl t e ≤ bs.getD (m - 2 ^ t) 0)) ↔ m.testBit u = true ∧ eo tl u e ≤ bs.getD (m - 2 ^ u) 0 := fun u => by
              rw [List.mem_filter, mem_memB, decide_eq_true_eq]
            obtain ⟨t0, ht0⟩ := hex
            have hpos := List.length_pos_of_mem ((hmemf t0).mpr ht0)
            refine ⟨D, _, rfl, hDk, by rw [List.length_map]; exact hpos, fun mm hm hmin => ?_⟩
            obtain ⟨t, ht, rfl⟩ := List.mem_map.mp hm
            obtain ⟨a1, a2⟩ := (hmemf t).mp ht
            exact hN _ _ ⟨t, rfl, sa.trans sk, a1, a2, fun u u1 u2 => by
              have := hmin _ (List.mem_map.mpr ⟨u, (hmemf u).mpr ⟨u1, u2⟩, rfl⟩)
              omega⟩
        rintro σ Hy ⟨t, rfl, sy, t1, t2, tmin⟩
        have htl := bit_in hG t1
        have hw := (without_lt t1).1
        have sxy := sx.trans sy
        have hOy := sy _ _ hOx
        have hTy := hT2.kpt sxy.kpt
        obtain ⟨x, ex, ax, ox⟩ := th_at hTy (i := (t : Int)) (by omega) (by omega)
        have eeo : rdv e x.2.2 + x.2.1 = eo tl t e := by
          unfold eo
          rw [siz_at ex, bor_at ex]
        have hTat := (Same.upd (o := .lst (pre.map (fun (t : Nat) => V.int (t : Int)) ++ [V.int (t : Int)])) sxy nO) _ _ hT2.at'
        have hox := (Same.upd (o := .lst (pre.map (fun (t : Nat) => V.int (t : Int)) ++ [V.int (t : Int)])) sxy nO) _ _ (hT2.all x (List.mem_of_getElem? ex)).1
        simp only [rd, hOy]
        obtain ⟨o1, o2', o3', o4, o5⟩ := ox
        refine ⟨by rw [List.length_map]; exact small_line (by omega), _, hTat, _, ax, x.1, x.2.1, x.2.2, e, rfl, hox, by omega, by omega, m, t, rfl, by omega, t1, m - 2 ^ t, hw, rfl, _, rfl, Same.upd sxy nO, pre ++ [t], by rw [upd_same, List.map_append]; rfl, by omega, by rw [List.length_append, List.length_singleton]; omega, ?_, fun l hl => ?_⟩
        · rw [eeo]
          exact t2
        · rw [eeo] at hl
          rw [List.append_assoc]
          refine hf (t :: l) (Fst.cons t1 hl fun u hu u1 ⟨q, q1, q2⟩ => ?_)
          have hw2 := (without_lt u1).1
          have := tmin u u1 ((hlast _ (by omega) _ (getb _ (by omega)) _).mp ⟨q, q1, q2⟩)
          omega
    rintro σ Hc ⟨os, o3, o5, o6, o7, rfl, sc, hOc, hfst⟩
    simp only [rd, and_true]
    exact ⟨(show 2 ≤ sizeLine by decide), fun r hr => k r O lim es os _ ((s1.trans s2).trans sc |>.free hr) ((s1.trans s2).free nO) (((s1.trans s2).trans sc).trans (Same.new hr)) upd_same ((Same.new hr) _ _ hOc) hes hlim hfst⟩
end
end K26
end
section
set_option Elab.async false
set_option linter.all false
set_option maxRecDepth 100000
set_option maxHeartbeats 0
namespace K26
open PySem L2
local macro_rules
  | `(tactic| simp only [rs, $ls,*]) => `(tactic| simp only [tVar, tC, tOp, tUn, rI, rI0, rU, tCB, tCons, tNil, tCall, tRet, tRetN, tSeq, tNext, tAsg, tPar3, gName, tAnd, tOr, tNot, tAndV, tOrV, tNotV, tIf, tTest, tB, tLst, tTup, gSub, rSetL, tPar, tDrop, tBM, rEq, rNe, scal, t2I, gTup, gTupH, gTupL, gCons, gNil,  tSl, rSlLH, tRev, tPart, tNoPart, tDNewK, tDisp, tPairs, tTm, List.map_cons, List.map_nil, List.length_cons, List.length_nil, List.replicate, List.append_nil, List.nil_append, List.cons_append, List.getElem?_cons_zero, List.getElem?_cons_succ, List.getElem?_nil, List.set_cons_zero, List.set_cons_succ, Option.some.injEq, V.int.injEq, V.ref.injEq, V.bl.injEq, V.str.injEq, V.ty.injEq, HO.lst.injEq, HO.tup.injEq, HO.rng.injEq, HO.dK.injEq, exists_eq_left, exists_eq_left', exists_eq_right, exists_eq_right', exists_and_left, exists_and_right, exists_eq, exists_eq', false_and, and_false, false_or, or_false, true_and, and_true, ite_true, ite_false, if_true, if_false, Bool.false_eq_true, reduceIte, List.cons.injEq, and_assoc, decide_true, decide_false, Bool.not_true, Bool.not_false, reduceCtorEq, upd_same, rIxLH, rCatTH, rCatE, tApp, tLm, tLm0, rPopI, rPopL, tDGs, sDPs, rSetDs, rNeI, rEqI, rNeR, rEqR, rCat, tMaxD, rAllT, rMaxH, rAnyH, rAllH, rInH, rIxTH, tyN_non, tyN_bl, tyN_int, tyN_str, tyN_ref, tyR_lst, tyR_tup, tyR_dK, at0, at1, at2, at3, at4, ix0, ix1, ix2, Nat.reduceAdd, Nat.reduceSub, Nat.zero_add, Int.zero_add, Nat.add_zero, Int.reducePow, Int.reduceNeg, Int.reduceToNat, Nat.reducePow, isSub_NoneType_int, isSub_NoneType_bool, isSub_NoneType_str, isSub_NoneType_list, isSub_NoneType_tuple, isSub_NoneType_dict, isSub_bool_int, isSub_bool_bool, isSub_bool_str, isSub_bool_list, isSub_bool_tuple, isSub_bool_dict, isSub_int_int, isSub_int_bool, isSub_int_str, isSub_int_list, isSub_int_tuple, isSub_int_dict, isSub_str_int, isSub_str_bool, isSub_str_str, isSub_str_list, isSub_str_tuple, isSub_str_dict, isSub_list_int, isSub_list_bool, isSub_list_str, isSub_list_list, isSub_list_tuple, isSub_list_dict, isSub_tuple_int, isSub_tuple_bool, isSub_tuple_str, isSub_tuple_list, isSub_tuple_tuple, isSub_tuple_dict, isSub_dict_int, isSub_dict_bool, isSub_dict_str, isSub_dict_list, isSub_dict_tuple, isSub_dict_dict, isSubA_NoneType, isSubA_bool, isSubA_int, isSubA_str, isSubA_list, isSubA_tuple, isSubA_dict, rSetOf, rSortedSet, rSetAnd, rSetSub, rLenSet, rSortI, rSetOr, rSetB, HO.set.injEq, HO.ins.injEq, st_all_of, st_is_in, st_members, st_without, st_rounded, st_end_of, st_end_on, st_least_ends, st_last_begins, st_begin_below, st_best_stack, st__law_tape, st__law_draw, st__law_up, st__law_few, st__law_stacked, st__law_orders, st_law, $ls,*])
  | `(tactic| simp only [rd, $ls,*]) => `(tactic| simp only [rs, tIfS, $ls,*])
section
variable {P : Program} {w : World} {K : PySem.W.Frag} {mg : Str → Option Value} {base : Heap}
theorem ok_few (T : Txt K mg) (G__law_draw : OwnOk P w K mg base 1 "_law_draw" ["_law_tape_here", "_law_many"] spDraw) : OwnOk P w K mg base 2 "_law_few" ["_law_tape_here", "_law_many"] spThings := by
  refine T.f__law_few.ok sc__law_few (fun vs H Q E h => ?_) (fun f cdv A outer s H vs Q E hr h => ?_)
  · obtain ⟨a, ns, kk, rfl, _⟩ := h
    rfl
  · obtain ⟨p, n, m, rfl, tp, hn0, hn, hm, k⟩ := h
    refine ⟨_, (QSs.run (qpss_cons (qps_par (i := 3) (j := 4) (by rfl) sc__law_few.nd rfl rfl (by decide) rfl rfl (qpa_cons (qpe_own G__law_draw hr gl__law_few__law_draw (qpa_cons v__law_few_0 (qpa_cons qpe_int qpa_nil se_Constant) se_Name) (by omega) bd__law_draw se_Name (hp_cons se_Constant hp_nil)) (qpa_cons (qpe_lst qpa_nil) qpa_nil se_List) se_Call) (by rfl)) (qpss_cons (qps_for PassesOwn.never rfl (qpi_range1 gl__law_few_range T.b_range (qpa_cons v__law_few_1 qpa_nil se_Name)) (qpg_name (i := 2) sc__law_few.nd rfl (by first | exact Or.inl rfl | exact Or.inr rfl)) (qpss_cons (qps_set (i := 5) sc__law_few.nd rfl (by first | exact Or.inl rfl | exact Or.inr rfl) (qpe_lst (qpa_cons (qpe_op op_add qpe_int (qpe_own G__law_draw hr gl__law_few__law_draw (qpa_cons v__law_few_0 (qpa_cons qpe_int qpa_nil se_Constant) se_Name) (by omega) bd__law_draw se_Name (hp_cons se_Constant hp_nil))) (qpa_cons qpe_int (qpa_cons (qpe_op op_add qpe_int (qpe_own G__law_draw hr gl__law_few__law_draw (qpa_cons v__law_few_0 (qpa_cons qpe_int qpa_nil se_Constant) se_Name) (by omega) bd__law_draw se_Name (hp_cons se_Constant hp_nil))) (qpa_cons qpe_int (qpa_cons (qpe_op op_add qpe_int (qpe_own G__law_draw hr gl__law_few__law_draw (qpa_cons v__law_few_0 (qpa_cons qpe_int qpa_nil se_Constant) se_Name) (by omega) bd__law_draw se_Name (hp_cons se_Constant hp_nil))) qpa_nil se_BinOp) se_Constant) se_BinOp) se_Constant) se_BinOp))) (qpss_cons (qps_set (i := 6) sc__law_few.nd rfl (by first | exact Or.inl rfl | exact Or.inr rfl) (qpe_ix ix_list (qpe_op op_cat v__law_few_5 (qpe_lst (qpa_cons (qpe_op op_sub (qpe_op op_pow qpe_int qpe_int) (qpe_own G__law_draw hr gl__law_few__law_draw (qpa_cons v__law_few_0 (qpa_cons qpe_int qpa_nil se_Constant) se_Name) (by omega) bd__law_draw se_Name (hp_cons se_Constant hp_nil))) qpa_nil se_BinOp))) v__law_few_3 (fun _ _ => rfl))) (qpss_one (qps_expr (qpe_app v__law_few_4 (qpe_tup (qpa_cons v__law_few_6 (qpa_cons (qpe_ix ix_listH (qpe_lst (qpa_cons qpe_int (qpa_cons qpe_int (qpa_cons qpe_int (qpa_cons qpe_int (qpa_cons qpe_int (qpa_cons qpe_int (qpa_cons (qpe_op op_add qpe_int (qpe_own G__law_draw hr gl__law_few__law_draw (qpa_cons v__law_few_0 (qpa_cons qpe_int qpa_nil se_Constant) se_Name) (by omega) bd__law_draw se_Name (hp_cons se_Constant hp_nil))) (qpa_cons qpe_int qpa_nil se_Constant) se_BinOp) se_Constant) se_Constant) se_Constant) se_Constant) se_Constant) se_Constant)) (qpe_own G__law_draw hr gl__law_few__law_draw (qpa_cons v__law_few_0 (qpa_cons qpe_int qpa_nil se_Constant) se_Name) (by omega) bd__law_draw se_Name (hp_cons se_Constant hp_nil)) (fun _ _ => rfl)) qpa_nil se_Subscript) se_Name)) se_Tuple)))))) (qpss_one (qps_ret (qpe_callTy call_tuple_L gl__law_few_tuple T.b_tuple bb_tuple (qpa_cons v__law_few_4 qpa_nil se_Name) bn_tuple bd_tuple se_Name hp_nil)))))), ?_⟩
    simp only [rd, and_true]
    refine draw_step tp (by omega) (by decide) (by decide) fun way H1 w0 w1 tp1 e1 => ⟨by decide, fun q hq => ?_⟩
    have hqp : q ≠ p := tp1.ne hq
    have hq0 : H q = none := by obtain ⟨ys, hp⟩ := tp1.some; exact e1.free hp hq
    try simp only [rd, and_true]
    refine ⟨_, rfl, _, rfl, by omega, by omega, for_range (lo := 0) (n := (m : Int).toNat) (fun i σ Hc => ∃ (o2 o5 o6 : Option V) (ts : List Th), σ = [some (.ref p), some (.int m), o2, some (.int way), some (.ref q), o5, o6] ∧ Tape Hc p (n + 1 + 6 * i) ∧ Ext p H Hc ∧ Hc q = some (.lst (thRefs ts)) ∧ ts.length = i ∧ ThL Hc ts)
      ⟨none, none, none, [], rfl, (tp1.new hq).mono (by omega), e1.upd hq0, upd_same, rfl, fun a h => absurd h (by simp)⟩ ?_ ?_⟩
    · rintro i σ Hc hi ⟨o2, o5, o6, ts, rfl, tc, ec, hqc, hl, hts⟩
      have hi' : i < m := by omega
      try simp only [rd, and_true]
      refine draw_step tc (by omega) (by decide) (by decide) fun d1 Ha a0 a1 ta ea => ⟨_, rfl, ?_⟩
      refine draw_step ta (by omega) (by decide) (by decide) fun d2 Hb b0 b1 tb eb => ⟨_, rfl, ?_⟩
      refine draw_step tb (by omega) (by decide) (by decide) fun d3 Hd c0 c1 td ed => ⟨_, rfl, by decide, fun l1 hl1 => ⟨⟨by decide, by decide, by decide⟩, ?_⟩⟩
      refine draw_step (td.new hl1) (by omega) (by decide) (by decide) fun d4 He e0 e1 te ee => ⟨_, rfl, by decide, fun l2 hl2 => ?_⟩
      have hl1e := ee _ _ upd_same (td.ne hl1)
      have hl12 : l1 ≠ l2 := fun z => by rw [z, hl2] at hl1e; cases hl1e
      refine ⟨_, by rw [upd_ne hl12]; exact hl1e, ?_, fun l3 hl3 => ?_⟩
      · exact (show 6 ≤ sizeLine by decide)
      obtain ⟨v1, hv1, m1⟩ := at_mem (xs := [V.int (1 + d1), V.int 4, V.int (1 + d2), V.int 6, V.int (1 + d3), V.int (1000000000 - d4)]) w0 (by simpa using w1)
      obtain ⟨sz, rfl, s1, s2⟩ : ∃ s, v1 = V.int s ∧ 1 ≤ s ∧ s ≤ 1000000000 := by
        simp only [List.mem_cons, List.not_mem_nil, or_false] at m1
        rcases m1 with rfl | rfl | rfl | rfl | rfl | rfl <;> exact ⟨_, rfl, by omega, by omega⟩
      refine ⟨l3, _, _, _, rfl, rfl, .inl (.inl upd_same), hv1, ?_⟩
      have T3 := (te.new (o := .lst [V.int (1000000000 - d4)]) hl2).new (o := .lst ([V.int (1 + d1), V.int 4, V.int (1 + d2), V.int 6, V.int (1 + d3)] ++ [V.int (1000000000 - d4)])) hl3
      have E1 : Ext p Hc (upd (upd He l2 (.lst [V.int (1000000000 - d4)])) l3 (.lst ([V.int (1 + d1), V.int 4, V.int (1 + d2), V.int 6, V.int (1 + d3)] ++ [V.int (1000000000 - d4)]))) := (ea.trans (eb.trans (ed.trans ((Ext.new hl1).trans (ee.trans (Ext.new hl2)))))).trans (Ext.new hl3)
      refine ⟨⟨_, E1 _ _ hqc hqp⟩, ?_⟩
      refine draw_step T3 (by omega) (by decide) (by decide) fun d5 Hf f0 f1 tf ef => ⟨_, rfl, by decide, fun l4 hl4 => ?_⟩
      refine draw_step (tf.new hl4) (by omega) (by decide) (by decide) fun d6 Hg g0 g1 tg eg => ⟨_, _, rfl, eg _ _ upd_same (tf.ne hl4), ?_⟩
      obtain ⟨v2, hv2, m2⟩ := at_mem (xs := [V.int 1, V.int 1, V.int 2, V.int 4, V.int 3, V.int 8, V.int (1 + d5), V.int 6]) g0 (by simpa using g1)
      obtain ⟨bo, rfl, z1, z2⟩ : ∃ s, v2 = V.int s ∧ 1 ≤ s ∧ s ≤ 64 := by
        simp only [List.mem_cons, List.not_mem_nil, or_false] at m2
        rcases m2 with rfl | rfl | rfl | rfl | rfl | rfl | rfl | rfl <;> exact ⟨_, rfl, by omega, by omega⟩
      refine ⟨_, hv2, by decide, fun l5 hl5 => ?_⟩
      have E2 : Ext p Hc (upd Hg l5 (.tup [.int sz, .int bo])) := E1.trans (ef.trans ((Ext.new hl4).trans (eg.trans (Ext.new hl5))))
      have T2 := tg.new (o := .tup [.int sz, .int bo]) hl5
      have Hq := E2 _ _ hqc hqp
      refine ⟨_, Hq, by unfold thRefs; rw [List.length_map, hl]; exact small1000 (by omega), (T2.upd hqp).mono (by omega), (ec.trans E2).upd hq0, ts ++ [(l5, sz, bo)], by simp [thRefs], by simp [hl], fun a ha => ?_⟩
      rcases List.mem_append.mp ha with h | h
      · exact (hts a h).kpt ((E2.kpt tc).trans (KpT.upd Hq))
      · cases List.mem_singleton.mp h
        exact ⟨(KpT.upd Hq) _ _ upd_same, s1, s2, z1, z2⟩
    · rintro σ Hc ⟨o2, o5, o6, ts, rfl, tc, ec, hqc, hl, hts⟩
      refine ⟨_, rfl, _, rfl, _, hqc, fun l hl' => ?_⟩
      have e : ((m : Int).toNat) = m := by omega
      rw [e] at hl tc
      exact k l ts _ (tc.new hl') (ec.trans (Ext.new hl')) ⟨upd_same, hts.kpt (Same.new hl').kpt⟩ hl
end
end K26
end
section
set_option Elab.async false
set_option linter.all false
set_option maxRecDepth 100000
set_option maxHeartbeats 0
namespace K26
open PySem L2
local macro_rules
  | `(tactic| simp only [rs, $ls,*]) => `(tactic| simp only [tVar, tC, tOp, tUn, rI, rI0, rU, tCB, tCons, tNil, tCall, tRet, tRetN, tSeq, tNext, tAsg, tPar3, gName, tAnd, tOr, tNot, tAndV, tOrV, tNotV, tIf, tTest, tB, tLst, tTup, gSub, rSetL, tPar, tDrop, tBM, rEq, rNe, scal, t2I, gTup, gTupH, gTupL, gCons, gNil,  tSl, rSlLH, tRev, tPart, tNoPart, tDNewK, tDisp, tPairs, tTm, List.map_cons, List.map_nil, List.length_cons, List.length_nil, List.replicate, List.append_nil, List.nil_append, List.cons_append, List.getElem?_cons_zero, List.getElem?_cons_succ, List.getElem?_nil, List.set_cons_zero, List.set_cons_succ, Option.some.injEq, V.int.injEq, V.ref.injEq, V.bl.injEq, V.str.injEq, V.ty.injEq, HO.lst.injEq, HO.tup.injEq, HO.rng.injEq, HO.dK.injEq, exists_eq_left, exists_eq_left', exists_eq_right, exists_eq_right', exists_and_left, exists_and_right, exists_eq, exists_eq', false_and, and_false, false_or, or_false, true_and, and_true, ite_true, ite_false, if_true, if_false, Bool.false_eq_true, reduceIte, List.cons.injEq, and_assoc, decide_true, decide_false, Bool.not_true, Bool.not_false, reduceCtorEq, upd_same, rIxLH, rCatTH, rCatE, tApp, tLm, tLm0, rPopI, rPopL, tDGs, sDPs, rSetDs, rNeI, rEqI, rNeR, rEqR, rCat, tMaxD, rAllT, rMaxH, rAnyH, rAllH, rInH, rIxTH, tyN_non, tyN_bl, tyN_int, tyN_str, tyN_ref, tyR_lst, tyR_tup, tyR_dK, at0, at1, at2, at3, at4, ix0, ix1, ix2, Nat.reduceAdd, Nat.reduceSub, Nat.zero_add, Int.zero_add, Nat.add_zero, Int.reducePow, Int.reduceNeg, Int.reduceToNat, Nat.reducePow, isSub_NoneType_int, isSub_NoneType_bool, isSub_NoneType_str, isSub_NoneType_list, isSub_NoneType_tuple, isSub_NoneType_dict, isSub_bool_int, isSub_bool_bool, isSub_bool_str, isSub_bool_list, isSub_bool_tuple, isSub_bool_dict, isSub_int_int, isSub_int_bool, isSub_int_str, isSub_int_list, isSub_int_tuple, isSub_int_dict, isSub_str_int, isSub_str_bool, isSub_str_str, isSub_str_list, isSub_str_tuple, isSub_str_dict, isSub_list_int, isSub_list_bool, isSub_list_str, isSub_list_list, isSub_list_tuple, isSub_list_dict, isSub_tuple_int, isSub_tuple_bool, isSub_tuple_str, isSub_tuple_list, isSub_tuple_tuple, isSub_tuple_dict, isSub_dict_int, isSub_dict_bool, isSub_dict_str, isSub_dict_list, isSub_dict_tuple, isSub_dict_dict, isSubA_NoneType, isSubA_bool, isSubA_int, isSubA_str, isSubA_list, isSubA_tuple, isSubA_dict, rSetOf, rSortedSet, rSetAnd, rSetSub, rLenSet, rSortI, rSetOr, rSetB, HO.set.injEq, HO.ins.injEq, st_all_of, st_is_in, st_members, st_without, st_rounded, st_end_of, st_end_on, st_least_ends, st_last_begins, st_begin_below, st_best_stack, st__law_tape, st__law_draw, st__law_up, st__law_few, st__law_stacked, st__law_orders, st_law, $ls,*])
  | `(tactic| simp only [rd, $ls,*]) => `(tactic| simp only [rs, tIfS, $ls,*])
section
variable {P : Program} {w : World} {K : PySem.W.Frag} {mg : Str → Option Value} {base : Heap}
def spUp : Sp := fun vs H Q _ => ∃ n b : Int, vs = [.int n, .int b] ∧ 0 < b ∧ b < 1000000000000 ∧ Q (.int (upv n b)) H
theorem ok_up (T : Txt K mg) : OwnOk P w K mg base 1 "_law_up" ["_law_number", "_law_border"] spUp := by
  refine T.f__law_up.ok sc__law_up (fun vs H Q E h => ?_) (fun f cdv A outer s H vs Q E hr h => ?_)
  · obtain ⟨n, b, rfl, _⟩ := h
    rfl
  · obtain ⟨n, b, rfl, h0, h1, k⟩ := h
    refine ⟨_, (QSs.run (qpss_one (qps_ret (qpe_op op_add v__law_up_0 (qpe_op op_mod (qpe_op op_sub qpe_int v__law_up_0) v__law_up_1))))), ?_⟩
    simp only [rd, and_true]
    exact ⟨h0, k⟩
def spStk : Sp := fun vs H Q _ => ∃ (t o : Addr) (tl : List Th) (os : List Nat), vs = [.ref t, .ref o] ∧ ThsAt H t tl ∧ H o = some (.lst (os.map fun (t : Nat) => V.int (t : Int))) ∧ (∀ u ∈ os, u < tl.length) ∧ Q (.int (stk (eo tl) os 0)) H
theorem ok_stacked (T : Txt K mg) (G__law_up : OwnOk P w K mg base 1 "_law_up" ["_law_number", "_law_border"] spUp) : OwnOk P w K mg base 2 "_law_stacked" ["_law_things", "_law_order"] spStk := by
  refine T.f__law_stacked.ok sc__law_stacked (fun vs H Q E h => ?_) (fun f cdv A outer s H vs Q E hr h => ?_)
  · obtain ⟨t, o, tl, os, rfl, _⟩ := h
    rfl
  · obtain ⟨t, o, tl, os, rfl, hT, ho, hu, k⟩ := h
    refine ⟨_, (QSs.run (qpss_cons (qps_set (i := 2) sc__law_stacked.nd rfl (by first | exact Or.inl rfl | exact Or.inr rfl) qpe_int) (qpss_cons (qps_for PassesOwn.never rfl (qpi_listK K v__law_stacked_1) (qpg_name (i := 3) sc__law_stacked.nd rfl (by first | exact Or.inl rfl | exact Or.inr rfl)) (qpss_one (qps_set (i := 2) sc__law_stacked.nd rfl (by first | exact Or.inl rfl | exact Or.inr rfl) (qpe_op op_add (qpe_own G__law_up hr gl__law_stacked__law_up (qpa_cons v__law_stacked_2 (qpa_cons (qpe_ix ix_tupH (qpe_ix ix_tupH v__law_stacked_0 v__law_stacked_3 (fun _ _ => rfl)) qpe_int (fun _ _ => rfl)) qpa_nil se_Subscript) se_Name) (by omega) bd__law_up se_Name (hp_cons se_Subscript hp_nil)) (qpe_ix ix_tupH (qpe_ix ix_tupH v__law_stacked_0 v__law_stacked_3 (fun _ _ => rfl)) qpe_int (fun _ _ => rfl)))))) (qpss_one (qps_ret v__law_stacked_2))))), ?_⟩
    simp only [rd, and_true]
    refine ⟨_, rfl, o, rfl, ⟨_, .inl (.inl ho)⟩, for_list (xs := os.map fun (t : Nat) => V.int (t : Int)) (fun i σ Hc => ∃ o3, σ = [some (.ref t), some (.ref o), some (.int (stk (eo tl) (os.take i) 0)), o3] ∧ Hc = H) ⟨none, rfl, rfl⟩ (fun i σ Hc _ h => by obtain ⟨_, _, rfl⟩ := h; exact .inl (.inl ho)) ?_ ?_⟩
    · rintro i x σ Hc hx ⟨o3, rfl, rfl⟩
      rw [List.getElem?_map] at hx
      obtain ⟨u, eu, rfl⟩ := Option.map_eq_some_iff.mp hx
      have hul := hu u (List.mem_of_getElem? eu)
      obtain ⟨y, ey, ay, oy⟩ := th_at hT (i := (u : Int)) (by omega) (by omega)
      obtain ⟨q1, q2, q3, q4, q5⟩ := oy
      have e1 : os.take (i + 1) = os.take i ++ [u] := by rw [List.take_succ, eu]; rfl
      have hat := hT.at'
      simp only [rd, hat, q1, ay]
      refine ⟨_, _, rfl, by omega, by omega, _, hat, _, ay, _, rfl, _, q1, _, rfl, _, rfl, _, rfl, ?_, rfl⟩
      rw [e1, stk_snoc, upv_eq (by omega)]
      unfold eo
      rw [siz_at ey, bor_at ey]
    · rintro σ Hc ⟨o3, rfl, rfl⟩
      simp only [rd, and_true]
      rw [List.length_map, List.take_length]
      exact k
end
end K26
end
section
set_option Elab.async false
set_option linter.all false
set_option maxRecDepth 100000
set_option maxHeartbeats 0
namespace K26
open PySem L2
local macro_rules
  | `(tactic| simp only [rs, $ls,*]) => `(tactic| simp only [tVar, tC, tOp, tUn, rI, rI0, rU, tCB, tCons, tNil, tCall, tRet, tRetN, tSeq, tNext, tAsg, tPar3, gName, tAnd, tOr, tNot, tAndV, tOrV, tNotV, tIf, tTest, tB, tLst, tTup, gSub, rSetL, tPar, tDrop, tBM, rEq, rNe, scal, t2I, gTup, gTupH, gTupL, gCons, gNil,  tSl, rSlLH, tRev, tPart, tNoPart, tDNewK, tDisp, tPairs, tTm, List.map_cons, List.map_nil, List.length_cons, List.length_nil, List.replicate, List.append_nil, List.nil_append, List.cons_append, List.getElem?_cons_zero, List.getElem?_cons_succ, List.getElem?_nil, List.set_cons_zero, List.set_cons_succ, Option.some.injEq, V.int.injEq, V.ref.injEq, V.bl.injEq, V.str.injEq, V.ty.injEq, HO.lst.injEq, HO.tup.injEq, HO.rng.injEq, HO.dK.injEq, exists_eq_left, exists_eq_left', exists_eq_right, exists_eq_right', exists_and_left, exists_and_right, exists_eq, exists_eq', false_and, and_false, false_or, or_false, true_and, and_true, ite_true, ite_false, if_true, if_false, Bool.false_eq_true, reduceIte, List.cons.injEq, and_assoc, decide_true, decide_false, Bool.not_true, Bool.not_false, reduceCtorEq, upd_same, rIxLH, rCatTH, rCatE, tApp, tLm, tLm0, rPopI, rPopL, tDGs, sDPs, rSetDs, rNeI, rEqI, rNeR, rEqR, rCat, tMaxD, rAllT, rMaxH, rAnyH, rAllH, rInH, rIxTH, tyN_non, tyN_bl, tyN_int, tyN_str, tyN_ref, tyR_lst, tyR_tup, tyR_dK, at0, at1, at2, at3, at4, ix0, ix1, ix2, Nat.reduceAdd, Nat.reduceSub, Nat.zero_add, Int.zero_add, Nat.add_zero, Int.reducePow, Int.reduceNeg, Int.reduceToNat, Nat.reducePow, isSub_NoneType_int, isSub_NoneType_bool, isSub_NoneType_str, isSub_NoneType_list, isSub_NoneType_tuple, isSub_NoneType_dict, isSub_bool_int, isSub_bool_bool, isSub_bool_str, isSub_bool_list, isSub_bool_tuple, isSub_bool_dict, isSub_int_int, isSub_int_bool, isSub_int_str, isSub_int_list, isSub_int_tuple, isSub_int_dict, isSub_str_int, isSub_str_bool, isSub_str_str, isSub_str_list, isSub_str_tuple, isSub_str_dict, isSub_list_int, isSub_list_bool, isSub_list_str, isSub_list_list, isSub_list_tuple, isSub_list_dict, isSub_tuple_int, isSub_tuple_bool, isSub_tuple_str, isSub_tuple_list, isSub_tuple_tuple, isSub_tuple_dict, isSub_dict_int, isSub_dict_bool, isSub_dict_str, isSub_dict_list, isSub_dict_tuple, isSub_dict_dict, isSubA_NoneType, isSubA_bool, isSubA_int, isSubA_str, isSubA_list, isSubA_tuple, isSubA_dict, rSetOf, rSortedSet, rSetAnd, rSetSub, rLenSet, rSortI, rSetOr, rSetB, HO.set.injEq, HO.ins.injEq, st_all_of, st_is_in, st_members, st_without, st_rounded, st_end_of, st_end_on, st_least_ends, st_last_begins, st_begin_below, st_best_stack, st__law_tape, st__law_draw, st__law_up, st__law_few, st__law_stacked, st__law_orders, st_law, $ls,*])
  | `(tactic| simp only [rd, $ls,*]) => `(tactic| simp only [rs, tIfS, $ls,*])
section
variable {P : Program} {w : World} {K : PySem.W.Frag} {mg : Str → Option Value} {base : Heap}
def spOrd : Nat → Sp
  | 0 => fun _ _ _ _ => False
  | n + 1 => fun vs H Q _ => ∃ (a : Addr) (xs : List Nat), vs = [.ref a] ∧ H a = some (.lst (xs.map fun (t : Nat) => V.int (t : Int))) ∧ xs.length ≤ n ∧ n ≤ 7 ∧ ∀ (l : Addr) (ps : List (Addr × List Nat)) (H' : Hp), H l = none → Same H H' → H' l = some (.lst (ps.map fun p => V.ref p.1)) → (∀ p ∈ ps, H p.1 = none ∧ H' p.1 = some (.lst (p.2.map fun (t : Nat) => V.int (t : Int)))) → (∀ q, (∃ p ∈ ps, p.2 = q) ↔ q.Perm xs) → ps.length ≤ 8 ^ xs.length → Q (.ref l) H'
theorem ok_ordersS (T : Txt K mg) {L n : Nat} (G__law_orders : OwnOk P w K mg base L "_law_orders" ["_law_some"] (spOrd n)) : OwnOk P w K mg base (L + 1) "_law_orders" ["_law_some"] (spOrd (n + 1)) := by
  refine T.f__law_orders.ok sc__law_orders (fun vs H Q E h => ?_) (fun f cdv A outer s H vs Q E hr h => ?_)
  · obtain ⟨t, xs, rfl, _⟩ := h
    rfl
  · obtain ⟨a, xs, rfl, ha, hxn, hn7, k⟩ := h
    refine ⟨_, (QSs.run (qpss_cons (qps_if (qpt_cmpR (op_eqI hr) v__law_orders_0 (qpe_lst qpa_nil) (nomark _)) (qpss_one (qps_ret (qpe_lst (qpa_cons (qpe_lst qpa_nil) qpa_nil se_List)))) qpss_nil) (qpss_cons (qps_set (i := 1) sc__law_orders.nd rfl (by first | exact Or.inl rfl | exact Or.inr rfl) (qpe_lst qpa_nil)) (qpss_cons (qps_for PassesOwn.never rfl (qpi_enumK K gl__law_orders_enumerate T.b_enumerate (qpa_cons v__law_orders_0 qpa_nil se_Name)) (qpg_tupH (n := 2) (by rfl) (qpgs_cons (qpg_name (i := 2) sc__law_orders.nd rfl (by first | exact Or.inl rfl | exact Or.inr rfl)) (qpgs_cons (qpg_name (i := 3) sc__law_orders.nd rfl (by first | exact Or.inl rfl | exact Or.inr rfl)) qpgs_nil))) (qpss_one (qps_set (i := 1) sc__law_orders.nd rfl (by first | exact Or.inl rfl | exact Or.inr rfl) (qpe_op op_cat v__law_orders_1 (qpe_lc (own := [("_law_rest", 4)]) (by rfl) sc__law_orders.nd (qpi_listK K (qpe_own G__law_orders hr gl__law_orders__law_orders (qpa_cons (qpe_op op_cat (qpe_slice sl_listH v__law_orders_0 qpo_none (qpo_some v__law_orders_2)) (qpe_slice sl_listH v__law_orders_0 (qpo_some (qpe_op op_add v__law_orders_2 qpe_int)) qpo_none)) qpa_nil se_BinOp) (by omega) bd__law_orders se_BinOp hp_nil)) (blkOk_by (own := [("_law_rest", 4)]) (N := N__law_orders) (sc := defScope s__law_orders) (by decide +kernel)) (fun _ _ _ _ _ => (qpg_name (i := 4) sc__law_orders.nd rfl (by first | exact Or.inl rfl | exact Or.inr rfl))) (fun _ _ _ _ _ => qpts_nil) (fun _ _ _ _ _ => (qpe_op op_cat (qpe_lst (qpa_cons (qpv 3) qpa_nil se_Name)) (qpv 4)))))))) (qpss_one (qps_ret v__law_orders_1)))))), ?_⟩
    simp only [rd, and_true]
    have hax : H a = some (.lst ((xs.map fun (t : Nat) => (t : Int)).map V.int)) := by rw [List.map_map]; exact ha
    refine ⟨by decide, fun p hp => ⟨_, (Same.new hp) _ _ hax, [], rfl, ?_⟩⟩
    by_cases z : xs = []
    · subst z
      rw [decide_eq_true (by rfl)]
      refine iteT ⟨by decide, fun p1 h1 => ⟨by decide, fun p2 h2 => ?_⟩⟩
      have s1 := (Same.new (o := .lst []) hp).trans (Same.new (o := .lst []) h1)
      have s2 := s1.trans (Same.new (o := .lst [V.ref p1]) h2)
      refine k p2 [(p1, [])] _ (s1.free h2) s2 upd_same (fun q hq => ?_) (fun q => ?_) (Nat.le_refl 1)
      · cases List.mem_singleton.mp hq
        exact ⟨(Same.new (o := .lst []) hp).free h1, (Same.new (o := .lst [V.ref p1]) h2) _ _ upd_same⟩
      · rw [List.perm_nil]
        constructor
        · rintro ⟨y, hy, rfl⟩
          cases List.mem_singleton.mp hy
          rfl
        · rintro rfl
          exact ⟨_, List.mem_singleton.mpr rfl, rfl⟩
    rw [decide_eq_false (by intro e; exact z (List.map_eq_nil_iff.mp e))]
    refine iteF ⟨by decide, fun F hF => ?_⟩
    have sp := Same.new (o := .lst []) hp
    have sF := sp.trans (Same.new (o := .lst []) hF)
    have nF := sp.free hF
    refine ⟨_, rfl, a, _, rfl, .inl (.inl (sF _ _ ha)), for_enum (xs := xs.map fun (t : Nat) => V.int (t : Int)) (fun i σ Hx => ∃ (F : Addr) (ps : List (Addr × List Nat)) (o2 o3 : Option V), σ = [some (.ref a), some (.ref F), o2, o3, none] ∧ Same H Hx ∧ H F = none ∧ Hx F = some (.lst (ps.map fun p => V.ref p.1)) ∧ (∀ p ∈ ps, H p.1 = none ∧ Hx p.1 = some (.lst (p.2.map fun (t : Nat) => V.int (t : Int)))) ∧ (∀ q, (∃ p ∈ ps, p.2 = q) ↔ ∃ j x r, j < i ∧ xs[j]? = some x ∧ q = x :: r ∧ r.Perm (xs.eraseIdx j)) ∧ ps.length ≤ i * 8 ^ (xs.length - 1))
      ⟨F, [], none, none, rfl, sF, nF, upd_same, fun p h => absurd h (by simp), fun q => ⟨fun ⟨_, h, _⟩ => absurd h (by simp), fun ⟨j, _, _, h, _⟩ => absurd h (by omega)⟩, by simp⟩ (fun i σ Hx _ h => by obtain ⟨_, _, _, _, _, sx, _⟩ := h; exact sx _ _ ha) ?_ ?_⟩
    · rintro i x Tu σ Hx hx ⟨F, ps, o2, o3, rfl, sx0, nF, hFx0, hps0, hiff, hlen⟩ hTu
      rw [List.getElem?_map] at hx
      obtain ⟨u, eu, rfl⟩ := Option.map_eq_some_iff.mp hx
      have sx := sx0.trans (Same.new (o := .tup [.int (i : Nat), .int (u : Nat)]) hTu)
      have hFx := (Same.new (o := .tup [.int (i : Nat), .int (u : Nat)]) hTu) _ _ hFx0
      have hps : ∀ p ∈ ps, H p.1 = none ∧ (upd Hx Tu (.tup [.int (i : Nat), .int (u : Nat)])) p.1 = some (.lst (p.2.map fun (t : Nat) => V.int (t : Int))) := fun p h => ⟨(hps0 p h).1, (Same.new (o := .tup [.int (i : Nat), .int (u : Nat)]) hTu) _ _ (hps0 p h).2⟩
      refine ⟨_, _, rfl, upd_same, ?_⟩
      generalize upd Hx Tu (.tup [.int (i : Nat), .int (u : Nat)]) = Hy at *
      have hxa := sx _ _ ha
      simp only [rd, hxa, hFx]
      have hil : i < xs.length := (List.getElem?_eq_some_iff.mp eu).1
      have hxl : xs.length ≤ 7 := by omega
      cases n with
      | zero => omega
      | succ n' =>
      refine ⟨_, rfl, _, rfl, (i : Int), rfl, a, _, rfl, hxa, fun p1 h1 => ?_⟩
      have hxa1 := (Same.new (o := .lst (cutV (xs.map fun (t : Nat) => V.int (t : Int)) none (some (i : Int)))) h1) _ _ hxa
      refine ⟨_, rfl, _, rfl, _, _, rfl, rfl, _, rfl, a, _, rfl, hxa1, fun p2 h2 => ?_⟩
      rw [cut_take (by omega)] at *
      rw [cut_drop (by omega)] at *
      rw [show ((i : Int) + 1).toNat = i + 1 by omega, Int.toNat_natCast] at *
      refine ⟨p1, p2, _, _, rfl, rfl, (Same.new (o := .lst ((xs.map fun (t : Nat) => V.int (t : Int)).drop (i + 1))) h2) _ _ upd_same, upd_same, ?_, fun p3 h3 => ?_⟩
      · refine Nat.le_of_lt (small_line ?_)
        rw [List.length_take, List.length_drop, List.length_map]
        omega
      refine ⟨p3, xs.eraseIdx i, rfl, ?_, ?_, by omega, fun l qs H4 nl s4 hl hqs hqi hql => ?_⟩
      · rw [upd_same, List.eraseIdx_eq_take_drop_succ, List.map_append, List.map_take, List.map_drop]
      · rw [List.length_eraseIdx_of_lt hil]
        omega
      have sH4 := (((sx.trans (Same.new h1)).trans (Same.new h2)).trans (Same.new h3)).trans s4
      have hF4 := (((Same.new h1).trans (Same.new h2)).trans (Same.new h3)).trans s4 _ _ hFx
      have hps4 : ∀ p ∈ ps, H p.1 = none ∧ H4 p.1 = some (.lst (p.2.map fun (t : Nat) => V.int (t : Int))) := fun p h => ⟨(hps p h).1, (((Same.new h1).trans (Same.new h2)).trans (Same.new h3)).trans s4 _ _ (hps p h).2⟩
      have hql7 : qs.length ≤ 8 ^ (xs.length - 1) := by rw [List.length_eraseIdx_of_lt hil] at hql; exact hql
      have h87 : 8 ^ (xs.length - 1) ≤ 8 ^ 6 := Nat.pow_le_pow_right (by decide) (by omega)
      refine ⟨l, rfl, ⟨_, .inl (.inl hl)⟩, fun D hD => ?_⟩
      refine lc_list (xs := qs.map fun p => V.ref p.1) (fun j Hk => ∃ rs : List (Addr × List Nat), Same H4 Hk ∧ Hk D = some (.lst (rs.map fun p => V.ref p.1)) ∧ (∀ p ∈ rs, p.1 ≠ D ∧ H4 p.1 = none ∧ Hk p.1 = some (.lst (p.2.map fun (t : Nat) => V.int (t : Int)))) ∧ rs.map (fun p => p.2) = (qs.take j).map fun p => u :: p.2)
        ⟨[], Same.new hD, upd_same, fun p h => absurd h (by simp), rfl⟩ (fun j Hk _ h => by obtain ⟨_, sk, _⟩ := h; exact .inl (.inl (sk _ _ hl))) ?_ ?_
      · rintro j x Hk hx ⟨rs, sk, hDk, hrs, hrq⟩
        rw [List.getElem?_map] at hx
        obtain ⟨y, ey, rfl⟩ := Option.map_eq_some_iff.mp hx
        have hy := sk _ _ (hqs y (List.mem_of_getElem? ey)).2
        refine ⟨rfl, _, rfl, (show 1 ≤ sizeLine by decide), fun p4 h4 => ?_⟩
        have s4' := Same.new (o := .lst [V.int (u : Int)]) h4
        refine ⟨_, rfl, p4, y.1, _, _, rfl, rfl, upd_same, s4' _ _ hy, ?_, fun p5 h5 => ?_⟩
        · rw [List.length_map, show sizeLine = 16777216 from rfl]
          have e2 := ((hqi y.2).mp ⟨y, List.mem_of_getElem? ey, rfl⟩).length_eq
          rw [List.length_eraseIdx_of_lt hil] at e2
          show 1 + _ ≤ _
          omega
        have s5 := s4'.trans (Same.new (o := .lst ([V.int (u : Int)] ++ y.2.map fun (t : Nat) => V.int (t : Int))) h5)
        have hjl : j < qs.length := (List.getElem?_eq_some_iff.mp ey).1
        have hrl : rs.length = j := by have := congrArg List.length hrq; rw [List.length_map, List.length_map, List.length_take] at this; omega
        have hD5 := s5 _ _ hDk
        have nD5 : p5 ≠ D := fun z => by rw [z] at h5; rw [s4' _ _ hDk] at h5; cases h5
        refine ⟨_, hD5, by rw [List.length_map, show sizeLine = 16777216 from rfl]; omega, rs ++ [(p5, u :: y.2)], Same.upd (sk.trans s5) hD, by rw [upd_same, List.map_append]; rfl, fun p hp => ?_, ?_⟩
        · rcases List.mem_append.mp hp with h | h
          · have := hrs p h
            refine ⟨this.1, this.2.1, ?_⟩
            rw [upd_ne this.1]
            exact s5 _ _ this.2.2
          · cases List.mem_singleton.mp h
            exact ⟨nD5, (sk.trans s4').free h5, by rw [upd_ne nD5, upd_same]; rfl⟩
        · rw [List.map_append, hrq, List.take_succ, ey, List.map_append]
          rfl
      · rintro Hk ⟨rs, sk, hDk, hrs, hrq⟩
        rw [List.length_map, List.take_length] at hrq
        have hrl : rs.length = qs.length := by have := congrArg List.length hrq; rwa [List.length_map, List.length_map] at this
        have hi8 : i * 8 ^ (xs.length - 1) ≤ 7 * 8 ^ 6 := Nat.mul_le_mul (by omega) h87
        refine ⟨D, rfl, _, sk _ _ hF4, _, hDk, ?_, fun F2 hF2 => ?_⟩
        · rw [List.length_map, List.length_map, show sizeLine = 16777216 from rfl]
          omega
        have s5 := Same.new (o := .lst ((ps.map fun p => V.ref p.1) ++ rs.map fun p => V.ref p.1)) hF2
        refine ⟨(sH4.trans sk).trans s5, (sH4.trans sk).free hF2, ps ++ rs, by rw [List.map_append], fun p hp => ?_, fun q => ?_, ?_⟩
        · rcases List.mem_append.mp hp with h | h
          · exact ⟨(hps4 p h).1, (sk.trans s5) _ _ (hps4 p h).2⟩
          · exact ⟨sH4.free (hrs p h).2.1, s5 _ _ (hrs p h).2.2⟩
        · constructor
          · rintro ⟨p, hp, rfl⟩
            rcases List.mem_append.mp hp with h | h
            · obtain ⟨j, x, r, j1, j2⟩ := (hiff p.2).mp ⟨p, h, rfl⟩
              exact ⟨j, by omega, x, j2.1, r, j2.2⟩
            · have : p.2 ∈ qs.map fun p => u :: p.2 := hrq ▸ List.mem_map.mpr ⟨p, h, rfl⟩
              obtain ⟨y, hy, ey⟩ := List.mem_map.mp this
              exact ⟨i, by omega, u, eu, y.2, ey.symm, (hqi y.2).mp ⟨y, hy, rfl⟩⟩
          · rintro ⟨j, hj, x, hx2, r, rfl, hr⟩
            by_cases zj : j < i
            · obtain ⟨p, hp, e⟩ := (hiff (x :: r)).mpr ⟨j, x, r, zj, hx2, rfl, hr⟩
              exact ⟨p, List.mem_append.mpr (.inl hp), e⟩
            · obtain rfl : j = i := by omega
              rw [eu] at hx2
              obtain rfl : u = x := Option.some.inj hx2
              obtain ⟨y, hy, ey⟩ := (hqi r).mpr hr
              have : u :: r ∈ rs.map fun p => p.2 := by rw [hrq]; exact List.mem_map.mpr ⟨y, hy, by rw [ey]⟩
              obtain ⟨p, hp, e⟩ := List.mem_map.mp this
              exact ⟨p, List.mem_append.mpr (.inr hp), e⟩
        · rw [List.length_append, Nat.add_mul]
          omega
    · rintro σ Hx ⟨F, ps, o2, o3, rfl, sx, nF, hFx, hps, hiff, hlen⟩
      simp only [rd, and_true]
      rw [List.length_map] at hiff hlen
      have hl0 : 0 < xs.length := List.length_pos_iff.mpr z
      refine k F ps Hx nF sx hFx hps (fun q => ?_) ?_
      · rw [hiff q]
        constructor
        · rintro ⟨j, x, r, hj, hx, rfl, hr⟩
          exact (hr.cons x).trans (pop_perm hx)
        · intro hq
          cases q with
          | nil => exact absurd hq.symm.eq_nil z
          | cons x r =>
            obtain ⟨j, hj, e⟩ := List.mem_iff_getElem.mp (hq.mem_iff.mp (List.mem_cons_self ..))
            have hx : xs[j]? = some x := by rw [List.getElem?_eq_getElem hj, e]
            exact ⟨j, x, r, hj, hx, rfl, (hq.trans (pop_perm hx).symm).cons_inv⟩
      · refine Nat.le_trans hlen ?_
        refine Nat.le_trans (Nat.mul_le_mul_right _ (show xs.length ≤ 8 by omega)) ?_
        rw [← Nat.pow_succ', show (xs.length - 1).succ = xs.length by omega]
        exact Nat.le_refl _
theorem ok_orders (T : Txt K mg) : ∀ n : Nat, OwnOk P w K mg base (n + 1) "_law_orders" ["_law_some"] (spOrd n)
  | 0 => T.f__law_orders.ok sc__law_orders (fun vs H Q E h => h.elim) (fun f cdv A outer s H vs Q E hr h => h.elim)
  | n + 1 => ok_ordersS T (ok_orders T n)
end
end K26
end
section
set_option Elab.async false
set_option linter.all false
set_option maxRecDepth 100000
set_option maxHeartbeats 4000000
namespace PySem.SeqAt
open AutoSeq1 (wpAny_loadPart')
open MeetsSeq MeetsSeq2 MeetsSeq3 SeqRoads2
def LtAt (A : Around) (s : Shared) (y x : Value) (b : Bool) : Prop :=
  ∀ (prog : Program) (w : World) (E : Value → Shared → Prop) (Q : Value → Shared → Prop), Q (.bool b) s → wpAny (model prog w) A (richCompare .Lt y x) Q E s
theorem LtAt.ints {A : Around} {s : Shared} {i j : Int} {t u : Tok} : LtAt A s (.int i t) (.int j u) (decide (i < j)) := fun prog w E Q h => P.lt_int h
/-- where two rows of things part, at p, and what `<` then says -/
def PartAt (A : Around) (s : Shared) (xs ys : Array Value) (p : Nat) (r : Bool) : Prop :=
  p ≤ xs.size ∧ p ≤ ys.size ∧ (∀ j (h1 : j < xs.size) (h2 : j < ys.size), j < p → EqAt A s xs[j] ys[j] true) ∧
  ((p = xs.size ∨ p = ys.size) ∧ r = decide (xs.size < ys.size) ∨ ∃ (h1 : p < xs.size) (h2 : p < ys.size), EqAt A s xs[p] ys[p] false ∧ LtAt A s xs[p] ys[p] r)
theorem lt_loopAt (l b : Addr) (items items2 : Array Value) (n n2 : Nat) (dd dd2 : Option Addr) (sl sl2 : Array (Option Value)) (p : Nat) (r : Bool) (k : Nat) :
    ∀ i : Nat, p - i = k → i ≤ p → Meets (Builtin.«list.__eq__.loop» ⟨[.ref l, .ref b, rawInt i, rawInt 0], []⟩)
      (fun A R s => s.heap.get? l = some { cls := .type "list", dict := dd, data := .seq items n, slots := sl } ∧ s.heap.get? b = some { cls := .type "list", dict := dd2, data := .seq items2 n2, slots := sl2 } ∧
        PartAt A.in1 s items items2 p r ∧
        R (.ok (.ret (.bool r))) s) := by
  induction k with
  | zero =>
    intro i hk hip prog w A R s h
    obtain ⟨hp, g, d, tk, os⟩ := s; obtain ⟨hl, hb, ⟨p1, p2, he, ho⟩, h⟩ := h
    have hip' : i = p := by omega
    subst hip'
    wp_walk using wpAny_loadPart' hl, wpAny_loadPart' hb
    rcases ho with ⟨h0, hr⟩ | ⟨h1, h2, e1, e2⟩
    · rcases h0 with h0 | h0
      · have hi1 : items[((i : Nat) : Int).toNat]? = none := by simp; omega
        rw [hi1]
        wp_walk using wpAny_loadPart' hl, wpAny_loadPart' hb
        show R (.ok (.ret (.bool (decide (items.size < items2.size))))) _
        rw [← hr]
        exact h
      · have hi1 : items2[((i : Nat) : Int).toNat]? = none := by simp; omega
        rw [hi1]
        cases items[((i : Nat) : Int).toNat]? <;> (wp_walk using wpAny_loadPart' hl, wpAny_loadPart' hb; show R (.ok (.ret (.bool (decide (items.size < items2.size))))) _; rw [← hr]; exact h)
    · have hi1 : items[((i : Nat) : Int).toNat]? = some items[i] := by simp [h1]
      have hi2 : items2[((i : Nat) : Int).toNat]? = some items2[i] := by simp [h2]
      rw [hi1, hi2]
      refine wpAny_bind (e1 prog w _ _ ?_)
      wp_walk using wpAny_loadPart' hl, wpAny_loadPart' hb
      rw [hi1, hi2]
      show wpAny _ _ (richCompare .Lt items[i] items2[i] >>= _) _ _ _
      refine wpAny_bind (e2 prog w _ _ ?_)
      wp_walk
      exact h
  | succ k ih =>
    intro i hk hip prog w A R s h
    obtain ⟨hp, g, d, tk, os⟩ := s; obtain ⟨hl, hb, ⟨p1, p2, he, ho⟩, h⟩ := h
    wp_walk using wpAny_loadPart' hl, wpAny_loadPart' hb
    have hlt : i < items.size := by omega
    have hlt2 : i < items2.size := by omega
    have hi1 : items[((i : Nat) : Int).toNat]? = some items[i] := by simp [hlt]
    have hi2 : items2[((i : Nat) : Int).toNat]? = some items2[i] := by simp [hlt2]
    have hc : ((i : Int) + 1) = ((i + 1 : Nat) : Int) := by push_cast; rfl
    rw [hi1, hi2]
    refine wpAny_bind (he i hlt hlt2 (by omega) prog w _ _ ?_)
    wp_walk
    rw [hc]
    exact ⟨plainId_quiet plain_eq_loop _, codeAny_builtin entry_eq_loop (by
      rw [Around.under_plainId plain_eq_loop _]
      exact ih (i + 1) (by omega) (by omega) prog w A R _ ⟨hl, hb, ⟨p1, p2, he, ho⟩, h⟩)⟩
theorem list_ltAt (l b : Addr) (items items2 : Array Value) (n n2 : Nat) (dd dd2 : Option Addr) (sl sl2 : Array (Option Value)) (p : Nat) (r : Bool) :
    Meets (Builtin.«list.__lt__» ⟨[.ref l, .ref b], []⟩)
      (fun A R s => s.heap.get? l = some { cls := .type "list", dict := dd, data := .seq items n, slots := sl } ∧ s.heap.get? b = some { cls := .type "list", dict := dd2, data := .seq items2 n2, slots := sl2 } ∧
        PartAt A.in1 s items items2 p r ∧ R (.ok (.ret (.bool r))) s) := by
  intro prog w A R s h
  obtain ⟨hp, g, d, tk, os⟩ := s; obtain ⟨hl, hb, he, h⟩ := h
  have f3 := AutoSeq1.sub_list_list
  wp_walk using wpAny_loadPart' hl, wpAny_loadPart' hb
  exact ⟨plainId_quiet plain_eq_loop _, codeAny_builtin entry_eq_loop (by
    rw [Around.under_plainId plain_eq_loop _]
    exact lt_loopAt l b items items2 n n2 dd dd2 sl sl2 p r _ 0 rfl (Nat.zero_le _) prog w A R _ ⟨hl, hb, he, h⟩)⟩
theorem LtAt.lists {A : Around} {s : Shared} {l b : Addr} {items items2 : Array Value} {p : Nat} {r : Bool} (hl : s.heap.IsList l items) (hb : s.heap.IsList b items2) (hu : A.units < cLine) (he : PartAt A.in1 s items items2 p r) : LtAt A s (.ref l) (.ref b) r := fun prog w E Q h => by
  obtain ⟨⟨cls, dd, data, sl⟩, ho, hc, n, hd⟩ := id hl
  obtain ⟨⟨cls2, dd2, data2, sl2⟩, ho2, hc2, n2, hd2⟩ := id hb
  simp only at hc hd hc2 hd2
  subst hc hd hc2 hd2
  exact richCompare_meets_room (op := .Lt) ⟨_, ho, rfl⟩ ⟨_, ho2, rfl⟩ F.slot_list_lt F.entry_list_lt (F.args_list_lt_2 _ _) (list_ltAt l b items items2 n n2 dd dd2 sl sl2 p r)
    ⟨ho, ho2, he, show Value.bool r ≠ Value.notImplemented ∧ Q (.bool r) s from ⟨(fun x => nomatch x), h⟩⟩ hu
theorem tuple_ltAt (l b : Addr) (items items2 : Array Value) (n n2 : Nat) (dd dd2 : Option Addr) (sl sl2 : Array (Option Value)) (p : Nat) (r : Bool) :
    Meets (Builtin.«tuple.__lt__» ⟨[.ref l, .ref b], []⟩)
      (fun A R s => s.heap.get? l = some { cls := .type "tuple", dict := dd, data := .seq items n, slots := sl } ∧ s.heap.get? b = some { cls := .type "tuple", dict := dd2, data := .seq items2 n2, slots := sl2 } ∧
        PartAt A.in1 s items items2 p r ∧ R (.ok (.ret (.bool r))) s) :=
  .of_wp fun prog w A R s h => by
    obtain ⟨hp, g, d, tk, os⟩ := s; obtain ⟨hl, hb, ⟨p1, p2, he, ho⟩, h⟩ := h
    have f2 := AutoSeq1.sub_tuple_tuple
    have hZ : (items.toList.zip items2.toList).length = min items.size items2.size := by simp
    wp_walk using wpAny_loadPart' hl, wpAny_loadPart' hb, wpAny_forIn_list _ (fun rest b s' => b.1 = none ∧ s' = ⟨hp, g, d, tk, os⟩ ∧ ∃ i, i ≤ p ∧ rest = (items.toList.zip items2.toList).drop i) _
    case turn =>
      rintro ⟨y, x⟩ rest b s' ⟨hb', rfl, i, hip, hz⟩
      have hlt : i < (items.toList.zip items2.toList).length := by
        rcases Nat.lt_or_ge i (items.toList.zip items2.toList).length with h' | h'
        · exact h'
        · rw [List.drop_of_length_le h'] at hz; cases hz
      have hm : i < min items.size items2.size := hZ ▸ hlt
      have h1 : i < items.size := Nat.lt_of_lt_of_le hm (Nat.min_le_left _ _)
      have h2 : i < items2.size := Nat.lt_of_lt_of_le hm (Nat.min_le_right _ _)
      rw [List.drop_eq_getElem_cons hlt] at hz
      injection hz with hyx hrest
      have hy : y = items[i] := by have := congrArg Prod.fst hyx; simpa using this
      have hx : x = items2[i] := by have := congrArg Prod.snd hyx; simpa using this
      subst hy hx
      by_cases z : i < p
      · refine wpAny_bind (he i h1 h2 z prog w _ _ ?_)
        wp_walk
        exact ⟨rfl, rfl, i + 1, z, hrest⟩
      · obtain rfl : i = p := by omega
        rcases ho with ⟨h0, hr⟩ | ⟨_, _, e1, e2⟩
        · omega
        refine wpAny_bind (e1 prog w _ _ ?_)
        simp only [Bool.not_false, if_true]
        refine wpAny_bind (wpAny_rule ?_)
        refine wpAny_bind (e2 prog w _ _ ?_)
        wp_walk
        exact ⟨_, rfl, h⟩
    case fin =>
      rintro ⟨b1, b2⟩ s' ⟨hb', rfl, i, hip, hz⟩
      simp only at hb'
      subst hb'
      have hge : min items.size items2.size ≤ i := by
        rcases Nat.lt_or_ge i (items.toList.zip items2.toList).length with h' | h'
        · rw [List.drop_eq_getElem_cons h'] at hz; cases hz
        · exact hZ ▸ h'
      rcases ho with ⟨h0, hr⟩ | ⟨h1, h2, e1, e2⟩
      · wp_walk
        exact ⟨_, rfl, by rw [hr] at h; simpa [Builtin.Tuple.tupleCompareSizes] using h⟩
      · omega
    case h =>
      exact ⟨rfl, rfl, 0, Nat.zero_le _, rfl⟩
theorem LtAt.tuples {A : Around} {s : Shared} {l b : Addr} {items items2 : Array Value} {p : Nat} {r : Bool} (hl : s.heap.IsTuple l items) (hb : s.heap.IsTuple b items2) (hu : A.units < cLine) (he : PartAt A.in1 s items items2 p r) : LtAt A s (.ref l) (.ref b) r := fun prog w E Q h => by
  obtain ⟨⟨cls, dd, data, sl⟩, ho, hc, n, hd⟩ := id hl
  obtain ⟨⟨cls2, dd2, data2, sl2⟩, ho2, hc2, n2, hd2⟩ := id hb
  simp only at hc hd hc2 hd2
  subst hc hd hc2 hd2
  exact richCompare_meets_room (op := .Lt) ⟨_, ho, rfl⟩ ⟨_, ho2, rfl⟩ F.slot_tuple_lt F.entry_tuple_lt (F.args_tuple_lt_2 _ _) (tuple_ltAt l b items items2 n n2 dd dd2 sl sl2 p r)
    ⟨ho, ho2, he, show Value.bool r ≠ Value.notImplemented ∧ Q (.bool r) s from ⟨(fun x => nomatch x), h⟩⟩ hu
end PySem.SeqAt
end
section
set_option Elab.async false
set_option linter.all false
set_option maxRecDepth 100000
namespace L2
open PySem PySem.Spec PyProof.Rows PySem.SeqAt
open Sem (wp)
theorem part_ex : ∀ (xs ys : List Nat), ∃ p, p ≤ xs.length ∧ p ≤ ys.length ∧ (∀ j, j < p → xs[j]? = ys[j]?) ∧ ((p = xs.length ∨ p = ys.length) ∧ (xs < ys ↔ xs.length < ys.length) ∨ ∃ a b, xs[p]? = some a ∧ ys[p]? = some b ∧ a ≠ b ∧ (xs < ys ↔ a < b))
  | [], ys => ⟨0, by simp, by simp, fun j h => absurd h (by omega), .inl ⟨.inl rfl, by cases ys <;> simp⟩⟩
  | x :: xs, [] => ⟨0, by simp, by simp, fun j h => absurd h (by omega), .inl ⟨.inr rfl, by simp⟩⟩
  | x :: xs, y :: ys => by
    by_cases z : x = y
    · subst z
      obtain ⟨p, h1, h2, h3, h4⟩ := part_ex xs ys
      refine ⟨p + 1, by simpa using h1, by simpa using h2, fun j hj => ?_, ?_⟩
      · cases j with
        | zero => rfl
        | succ j => rw [List.getElem?_cons_succ, List.getElem?_cons_succ]; exact h3 j (by omega)
      · have e : (x :: xs < x :: ys) ↔ xs < ys := by rw [List.cons_lt_cons_iff]; simp
        rw [e]
        rcases h4 with ⟨h5, h6⟩ | ⟨a, b, h5, h6, h7, h8⟩
        · exact .inl ⟨by simpa using h5, by rw [h6]; simp⟩
        · exact .inr ⟨a, b, by rw [List.getElem?_cons_succ]; exact h5, by rw [List.getElem?_cons_succ]; exact h6, h7, h8⟩
    · exact ⟨0, by simp, by simp, fun j h => absurd h (by omega), .inr ⟨x, y, rfl, rfl, z, by rw [List.cons_lt_cons_iff]; simp [z]⟩⟩
def nV (xs : List Nat) : List V := xs.map fun (t : Nat) => V.int (t : Int)
theorem vals_nat : ∀ {xs : List Nat} {its : List Value}, Vals (nV xs) its → its.length = xs.length ∧ ∀ (j a : Nat), xs[j]? = some a → ∃ t, its[j]? = some (Value.int (a : Int) t)
  | [], _, .nil => ⟨rfl, fun j a h => by simp at h⟩
  | x :: xs, _, .cons h r => by
    obtain ⟨t, rfl⟩ := h
    obtain ⟨h1, h2⟩ := vals_nat (xs := xs) r
    refine ⟨by rw [List.length_cons, List.length_cons, h1], fun j a hj => ?_⟩
    cases j with
    | zero => simp at hj; subst hj; exact ⟨t, rfl⟩
    | succ j => rw [List.getElem?_cons_succ] at hj ⊢; exact h2 j a hj
theorem nat_inj {xs ys : List Nat} {its : List Value} (h1 : Vals (nV xs) its) (h2 : Vals (nV ys) its) : xs = ys := by
  obtain ⟨l1, g1⟩ := vals_nat h1
  obtain ⟨l2, g2⟩ := vals_nat h2
  refine List.ext_getElem (by omega) fun j hj hj2 => ?_
  obtain ⟨t, ht⟩ := g1 j _ (List.getElem?_eq_getElem hj)
  obtain ⟨u, hu⟩ := g2 j _ (List.getElem?_eq_getElem hj2)
  rw [ht] at hu
  injection hu with hu
  injection hu with hu
  exact Int.ofNat.inj hu
section
variable {A : Around} {s : Shared}
theorem eqAt_nats {l b : Addr} {xs ys : List Nat} {is js : List Value} (hl : s.heap.IsList l is.toArray) (hb : s.heap.IsList b js.toArray) (rx : Vals (nV xs) is) (ry : Vals (nV ys) js) (hu : A.units < cLine) : EqAt A s (.ref l) (.ref b) (decide (xs = ys)) := by
  obtain ⟨l1, g1⟩ := vals_nat rx
  obtain ⟨l2, g2⟩ := vals_nat ry
  by_cases hlb : l = b
  · subst hlb
    obtain ⟨o, ho, hc, n, hd⟩ := hl
    obtain ⟨o2, ho2, hc2, n2, hd2⟩ := hb
    rw [ho] at ho2
    cases ho2
    rw [hd] at hd2
    injection hd2 with e1 _
    have e2 : is = js := by simpa using e1
    subst e2
    rw [decide_eq_true (nat_inj rx ry)]
    exact .same _
  · refine .of_refs hlb ?_
    by_cases hs : xs.length = ys.length
    · have e : decide (xs = ys) = (List.range is.toArray.size).all fun j => decide (xs[j]? = ys[j]?) := by
        rw [Bool.eq_iff_iff, decide_eq_true_iff, List.all_eq_true]
        constructor
        · rintro rfl j _
          exact decide_eq_true rfl
        · intro h
          refine List.ext_getElem? fun j => ?_
          by_cases hj : j < xs.length
          · exact of_decide_eq_true (h j (by rw [List.mem_range, List.size_toArray]; omega))
          · rw [List.getElem?_eq_none (by omega), List.getElem?_eq_none (by omega)]
      rw [e]
      refine RcAt.lists hl hb (by simp; omega) hu fun j h1 h2 => ?_
      have h1' : j < is.length := by simpa using h1
      have h2' : j < js.length := by simpa using h2
      obtain ⟨t, ht⟩ := g1 j _ (List.getElem?_eq_getElem (show j < xs.length by omega))
      obtain ⟨u, hu⟩ := g2 j _ (List.getElem?_eq_getElem (show j < ys.length by omega))
      rw [List.getElem?_eq_getElem h1'] at ht
      rw [List.getElem?_eq_getElem h2'] at hu
      injection ht with ht
      injection hu with hu
      rw [List.getElem?_eq_getElem (show j < xs.length by omega), List.getElem?_eq_getElem (show j < ys.length by omega)]
      show EqAt A.in1 s is[j] js[j] _
      rw [ht, hu]
      have := EqAt.int_int (A := A.in1) (s := s) ((xs[j]'(by omega) : Nat) : Int) t ((ys[j]'(by omega) : Nat) : Int) u
      have e3 : decide (some (xs[j]'(by omega)) = some (ys[j]'(by omega))) = (((xs[j]'(by omega) : Nat) : Int) == ((ys[j]'(by omega) : Nat) : Int)) := by
        rw [Bool.eq_iff_iff, decide_eq_true_iff, beq_iff_eq, Option.some.injEq]
        omega
      rw [e3]
      exact this
    · rw [decide_eq_false (fun e => hs (by rw [e]))]
      exact RcAt.lists_lengths hl hb (by simp; omega) hu
theorem ltAt_nats {l b : Addr} {xs ys : List Nat} {is js : List Value} (hl : s.heap.IsList l is.toArray) (hb : s.heap.IsList b js.toArray) (rx : Vals (nV xs) is) (ry : Vals (nV ys) js) (hu : A.units < cLine) : LtAt A s (.ref l) (.ref b) (decide (xs < ys)) := by
  obtain ⟨l1, g1⟩ := vals_nat rx
  obtain ⟨l2, g2⟩ := vals_nat ry
  obtain ⟨p, h1, h2, h3, h4⟩ := part_ex xs ys
  have gx : ∀ j (h : j < is.toArray.size) a, xs[j]? = some a → ∃ t, is.toArray[j] = Value.int (a : Int) t := fun j h a ha => by
    obtain ⟨t, ht⟩ := g1 j a ha
    refine ⟨t, ?_⟩
    rw [List.getElem?_eq_getElem (by simpa using h)] at ht
    exact Option.some.inj ht
  have gy : ∀ j (h : j < js.toArray.size) a, ys[j]? = some a → ∃ t, js.toArray[j] = Value.int (a : Int) t := fun j h a ha => by
    obtain ⟨t, ht⟩ := g2 j a ha
    refine ⟨t, ?_⟩
    rw [List.getElem?_eq_getElem (by simpa using h)] at ht
    exact Option.some.inj ht
  refine LtAt.lists hl hb hu (p := p) ⟨by simp; omega, by simp; omega, fun j hj1 hj2 hp => ?_, ?_⟩
  · have e := h3 j hp
    have ex := List.getElem?_eq_getElem (show j < xs.length by omega)
    obtain ⟨t, ht⟩ := gx j hj1 _ ex
    obtain ⟨u, hu⟩ := gy j hj2 _ (e ▸ ex)
    rw [ht, hu]
    have := EqAt.int_int (A := A.in1) (s := s) ((xs[j]'(by omega) : Nat) : Int) t ((xs[j]'(by omega) : Nat) : Int) u
    rwa [beq_self_eq_true] at this
  · rcases h4 with ⟨h5, h6⟩ | ⟨a, b', h5, h6, h7, h8⟩
    · refine .inl ⟨by simp; omega, ?_⟩
      rw [Bool.eq_iff_iff, decide_eq_true_iff, decide_eq_true_iff, h6]
      simp
      omega
    · have p1 : p < xs.length := (List.getElem?_eq_some_iff.mp h5).1
      have p2 : p < ys.length := (List.getElem?_eq_some_iff.mp h6).1
      have q1 : p < is.toArray.size := by simp; omega
      have q2 : p < js.toArray.size := by simp; omega
      obtain ⟨t, ht⟩ := gx p q1 _ h5
      obtain ⟨u, hu⟩ := gy p q2 _ h6
      refine .inr ⟨q1, q2, ?_, ?_⟩
      · rw [ht, hu]
        have := EqAt.int_int (A := A.in1) (s := s) (a : Int) t (b' : Int) u
        rwa [beq_eq_false_iff_ne.mpr (by omega)] at this
      · rw [ht, hu]
        have := LtAt.ints (A := A.in1) (s := s) (i := (a : Int)) (j := (b' : Int)) (t := t) (u := u)
        have e : decide (xs < ys) = decide ((a : Int) < (b' : Int)) := by
          rw [Bool.eq_iff_iff, decide_eq_true_iff, decide_eq_true_iff, h8]
          omega
        rw [e]
        exact this
end
end L2
end
section
set_option Elab.async false
set_option linter.all false
set_option maxRecDepth 100000
namespace L2
open PySem PySem.Spec PyProof.Rows PySem.SeqAt
open Sem (wp)
/-- rows (number, list of numbers): how `<` orders them -/
def rowLt (x y : Int × List Nat) : Prop := x.1 < y.1 ∨ x.1 = y.1 ∧ x.2 < y.2
instance (x y : Int × List Nat) : Decidable (rowLt x y) := by unfold rowLt; infer_instance
def RowV (h : Heap) (v : Value) (x : Int × List Nat) : Prop := ∃ (a l : Addr) (t : Tok) (its : List Value), v = .ref a ∧ h.IsTuple a #[.int x.1 t, .ref l] ∧ h.IsList l its.toArray ∧ Vals (nV x.2) its
section
variable {A : Around} {s : Shared}
theorem rowLtAt {v u : Value} {x y : Int × List Nat} (hv : RowV s.heap v x) (hu' : RowV s.heap u y) (hu : A.units + 4 < cLine) : LtAt A s v u (decide (rowLt x y)) := by
  obtain ⟨a, l, t, is, rfl, ht, hl, rl⟩ := hv
  obtain ⟨b, m, r, js, rfl, hr, hm, rm⟩ := hu'
  have E0 := EqAt.int_int (A := A.in1) (s := s) x.1 t y.1 r
  have E1 := eqAt_nats (A := A.in1) hl hm rl rm (by show A.units + 1 < _; omega)
  have L0 := LtAt.ints (A := A.in1) (s := s) (i := x.1) (j := y.1) (t := t) (u := r)
  have L1 := ltAt_nats (A := A.in1) hl hm rl rm (by show A.units + 1 < _; omega)
  by_cases z : x.1 = y.1
  · have e0 : (x.1 == y.1) = true := beq_iff_eq.mpr z
    rw [e0] at E0
    by_cases w : x.2 = y.2
    · rw [decide_eq_true w] at E1
      refine LtAt.tuples ht hr (by omega) (p := 2) ⟨Nat.le_refl 2, Nat.le_refl 2, fun j h1 h2 hj => ?_, .inl ⟨.inl rfl, ?_⟩⟩
      · match j, hj with
        | 0, _ => exact E0
        | 1, _ => exact E1
      · rw [decide_eq_false]
        · rfl
        · rintro (h | ⟨_, h⟩)
          · omega
          · rw [w] at h
            exact List.lt_irrefl _ h
    · rw [decide_eq_false w] at E1
      have e : decide (rowLt x y) = decide (x.2 < y.2) := by
        rw [Bool.eq_iff_iff, decide_eq_true_iff, decide_eq_true_iff]
        unfold rowLt
        constructor
        · rintro (h | h)
          · omega
          · exact h.2
        · exact fun h => .inr ⟨z, h⟩
      rw [e]
      refine LtAt.tuples ht hr (by omega) (p := 1) ⟨show 1 ≤ 2 by decide, show 1 ≤ 2 by decide, fun j h1 h2 hj => ?_, .inr ⟨show 1 < 2 by decide, show 1 < 2 by decide, E1, L1⟩⟩
      match j, hj with
      | 0, _ => exact E0
  · have e0 : (x.1 == y.1) = false := beq_eq_false_iff_ne.mpr z
    rw [e0] at E0
    have e : decide (rowLt x y) = decide (x.1 < y.1) := by
      rw [Bool.eq_iff_iff, decide_eq_true_iff, decide_eq_true_iff]
      unfold rowLt
      constructor
      · rintro (h | h)
        · exact h
        · exact absurd h.1 z
      · exact .inl
    rw [e]
    exact LtAt.tuples ht hr (by omega) (p := 0) ⟨show 0 ≤ 2 by decide, show 0 ≤ 2 by decide, fun j h1 h2 hj => absurd hj (by omega), .inr ⟨show 0 < 2 by decide, show 0 < 2 by decide, E0, L0⟩⟩
end
theorem rowLt_trans {x y z : Int × List Nat} (h1 : rowLt x y) (h2 : rowLt y z) : rowLt x z := by
  unfold rowLt at *
  rcases h1 with h1 | ⟨h1, h3⟩ <;> rcases h2 with h2 | ⟨h2, h4⟩
  · exact .inl (by omega)
  · exact .inl (by omega)
  · exact .inl (by omega)
  · exact .inr ⟨by omega, List.lt_trans h3 h4⟩
theorem rowLt_irr (x : Int × List Nat) : ¬ rowLt x x := by
  rintro (h | ⟨_, h⟩)
  · omega
  · exact List.lt_irrefl _ h
theorem argBest_row (f : Nat → Int × List Nat) : ∀ n, argBest (fun i j => decide (rowLt (f i) (f j))) n ≤ n ∧ ∀ j, j ≤ n → ¬ rowLt (f j) (f (argBest (fun i j => decide (rowLt (f i) (f j))) n)) := by
  intro n
  induction n with
  | zero =>
    refine ⟨Nat.le_refl _, fun j hj => ?_⟩
    obtain rfl : j = 0 := by omega
    exact rowLt_irr _
  | succ n ih =>
    obtain ⟨i1, i2⟩ := ih
    simp only [argBest]
    generalize argBest (fun i j => decide (rowLt (f i) (f j))) n = b at *
    by_cases z : rowLt (f (n + 1)) (f b)
    · rw [if_pos (decide_eq_true z)]
      refine ⟨Nat.le_refl _, fun j hj h => ?_⟩
      by_cases e : j = n + 1
      · subst e
        exact rowLt_irr _ h
      · exact i2 j (by omega) (rowLt_trans h z)
    · rw [if_neg (by rw [decide_eq_false z]; decide)]
      refine ⟨by omega, fun j hj => ?_⟩
      by_cases e : j = n + 1
      · subst e
        exact z
      · exact i2 j (by omega)
section
variable {prog : Program} {w : World} {A : Around} {R : Result → Shared → Prop} {I : Addr} {fp wr : List Addr} {n : Nat} {P : Nat → Value → Prop} {St : Nat → Heap → Prop}
/-- comparing, with facts of the heap at hand -/
def CmpK (prog : Program) (w : World) (A : Around) (K : Heap → Prop) (P : Nat → Value → Prop) (bt : Nat → Nat → Bool) : Prop :=
  ∀ i j vi vj (s : Shared) (Q : Value → Shared → Prop) (E : Value → Shared → Prop), K s.heap → P i vi → P j vj → Q (.bool (bt i j)) s → wpAny (model prog w) A (richCompare .Lt vi vj) Q E s
theorem minW_loop (K : Heap → Prop) (W : Walks prog w A.in1 I fp wr n P St) (bt : Nat → Nat → Bool) (hcmp : CmpK prog w A.in1 K P bt) (S : Addr) (hSf : S ∉ fp)
    (hK : ∀ h h', K h → (∀ b o, b ∉ wr → b ≠ S → h.get? b = some o → h'.get? b = some o) → K h') :
    ∀ (k j : Nat) (s : Shared) (vb : Value) (c : Nat), n - (j + 1) = k → j + 1 ≤ n → K s.heap → St (j + 1) s.heap → P (argBest bt j) vb →
    s.heap.get? S = some { cls := .type "list", dict := none, data := .seq #[vb, vb] c, slots := #[] } →
    (∀ v h' tk, P (argBest bt (n - 1)) v → (∀ b o, b ∉ wr → b ≠ S → s.heap.get? b = some o → h'.get? b = some o) → R (.ok (.ret v)) { s with heap := h', toks := tk }) →
    codeAny (model prog w) A (.builtin "min.loop" ⟨[.ref I, .none, .ref S], []⟩) R s := by
  have hSw : S ∉ wr := fun h => hSf (W.sub _ h)
  have nm : (toString "min" ++ toString ".loop" : String) = "min.loop" := by decide
  intro k
  induction k with
  | zero =>
    intro j s vb c hk hj hKs hst hPb hS hR
    have hin : j + 1 = n := by omega
    refine codeAny_builtin F.entry_min_loop ?_; rw [Around.under_plainId F.plain_min_loop _]; show wpAny _ A.in1 (seqItems? (.ref S) >>= _) _ _ s
    refine wpAny_bind (wpAny_seqItems hS rfl ?_); show wpAny _ A.in1 (tryCatch (pyNext (.ref I)) _ >>= _) _ _ s
    refine wpAny_bind (wpAny_tryCatch (W.done s _ _ (hin ▸ hst) fun g tk hk' => ?_))
    have hS' := hk' S _ hSw hS
    show wpAny _ A.in1 (updateSeq S (fun _ => #[]) >>= _) _ _ _
    refine wpAny_bind ?_; refine wpAny_updateSeq hS' rfl (wpAny_bind (wpAny_letGo (wpAny_pure ?_)))
    refine hR vb _ tk (by rw [← hin]; exact hPb) fun b o hbw hbS e => (Heap.get?_update_other _ _ (Ne.symm hbS)).trans (hk' b o hbw e)
  | succ k ih =>
    intro j s vb c hk hj hKs hst hPb hS hR
    have hlt : j + 1 < n := by omega
    refine codeAny_builtin F.entry_min_loop ?_; rw [Around.under_plainId F.plain_min_loop _]; show wpAny _ A.in1 (seqItems? (.ref S) >>= _) _ _ s
    refine wpAny_bind (wpAny_seqItems hS rfl ?_); show wpAny _ A.in1 (tryCatch (pyNext (.ref I)) _ >>= _) _ _ s
    refine wpAny_bind (wpAny_tryCatch (W.item (j + 1) s _ _ hlt hst fun v g tk hP hst' hk' => ?_))
    have hS' := hk' S _ hSw hS
    have hKg : K g := hK _ _ hKs fun b o hbw _ e => hk' b o hbw e
    show wpAny _ A.in1 (tryCatch (holding [v, v] (richCompare .Lt v vb >>= _)) _ >>= _) _ _ _
    refine wpAny_bind (wpAny_tryCatch (wpAny_holding (wpAny_bind (hcmp (j + 1) (argBest bt j) v vb _ _ _ hKg hP hPb ?_)))); refine wpAny_bind (wpAny_holding (wpAny_truthy_bool ?_)); refine wpAny_bind (wpAny_letGo (wpAny_pure ?_))
    cases hb : bt (j + 1) (argBest bt j) with
    | true =>
      simp only [if_true]; refine wpAny_bind ?_; refine wpAny_updateSeq hS' rfl (wpAny_bind (wpAny_letGo ?_)); rw [nm]
      refine wpAny_pure ⟨plainId_quiet F.plain_min_loop _, ih (j + 1) _ v _ (by omega) hlt (hK _ _ hKg fun b o _ hbS e => (Heap.get?_update_other _ _ (Ne.symm hbS)).trans e) (W.frame _ _ _ hst' fun b hbf o e => ?_) (by simp only [argBest, hb, if_true]; exact hP) (Heap.get?_update_self _ hS' rfl) fun v' g2 tk2 hP' hk2 => ?_⟩
      · exact (Heap.get?_update_other _ _ (fun h : S = b => hSf (by rw [h]; exact hbf))).trans e
      · exact hR v' g2 tk2 hP' fun b o hbw hbS e => hk2 b o hbw hbS ((Heap.get?_update_other _ _ (Ne.symm hbS)).trans (hk' b o hbw e))
    | false =>
      simp only [Bool.false_eq_true, if_false]; refine wpAny_bind (wpAny_letGo ?_); rw [nm]
      refine wpAny_pure ⟨plainId_quiet F.plain_min_loop _, ih (j + 1) _ vb c (by omega) hlt hKg hst' (by simp only [argBest, hb, Bool.false_eq_true, if_false]; exact hPb) hS' fun v' g2 tk2 hP' hk2 => ?_⟩
      exact hR v' g2 tk2 hP' fun b o hbw hbS e => hk2 b o hbw hbS (hk' b o hbw e)
theorem minW_first (K : Heap → Prop) (W : Walks prog w A.in1 I fp wr n P St) (bt : Nat → Nat → Bool) (hcmp : CmpK prog w A.in1 K P bt) (S : Addr) (hSf : S ∉ fp)
    (hK : ∀ h h', K h → (∀ b o, b ∉ wr → b ≠ S → h.get? b = some o → h'.get? b = some o) → K h') (hn : 0 < n) {s : Shared} {c : Nat} (hKs : K s.heap) (hst : St 0 s.heap)
    (hS : s.heap.get? S = some { cls := .type "list", dict := none, data := .seq #[] c, slots := #[] })
    (hR : ∀ v g tk, P (argBest bt (n - 1)) v → (∀ b o, b ∉ wr → b ≠ S → s.heap.get? b = some o → g.get? b = some o) → R (.ok (.ret v)) { s with heap := g, toks := tk }) :
    codeAny (model prog w) A (.builtin "min.loop" ⟨[.ref I, .none, .ref S], []⟩) R s := by
  have hSw : S ∉ wr := fun h => hSf (W.sub _ h)
  have nm : (toString "min" ++ toString ".loop" : String) = "min.loop" := by decide
  refine codeAny_builtin F.entry_min_loop ?_; rw [Around.under_plainId F.plain_min_loop _]; show wpAny _ A.in1 (seqItems? (.ref S) >>= _) _ _ s
  refine wpAny_bind (wpAny_seqItems hS rfl ?_); show wpAny _ A.in1 (tryCatch (pyNext (.ref I)) _ >>= _) _ _ s
  refine wpAny_bind (wpAny_tryCatch (W.item 0 s _ _ hn hst fun v g tk hP hst' hk' => ?_))
  have hS' := hk' S _ hSw hS
  show wpAny _ A.in1 (updateSeq S (fun _ => #[v, v]) >>= _) _ _ _
  refine wpAny_bind ?_; refine wpAny_updateSeq hS' rfl ?_; rw [nm]
  refine wpAny_pure ⟨plainId_quiet F.plain_min_loop _, minW_loop K W bt hcmp S hSf hK _ 0 _ v _ rfl hn (hK _ _ hKs fun b o hbw hbS e => (Heap.get?_update_other _ _ (Ne.symm hbS)).trans (hk' b o hbw e)) (W.frame _ _ _ hst' fun b hbf o e => ?_) hP (Heap.get?_update_self _ hS' rfl) fun v' g2 tk2 hP' hk2 => ?_⟩
  · exact (Heap.get?_update_other _ _ (fun h : S = b => hSf (by rw [h]; exact hbf))).trans e
  · exact hR v' g2 tk2 hP' fun b o hbw hbS e => hk2 b o hbw hbS ((Heap.get?_update_other _ _ (Ne.symm hbS)).trans (hk' b o hbw e))
end
theorem RowV.keeps {h h' : Heap} {v : Value} {x : Int × List Nat} (r : RowV h v x) (hk : ∀ b o, h.get? b = some o → h'.get? b = some o) : RowV h' v x := by
  obtain ⟨a, l, t, its, e, ⟨o, ho, hr⟩, ⟨o2, ho2, hr2⟩, rv⟩ := r
  exact ⟨a, l, t, its, e, ⟨o, hk _ _ ho, hr⟩, ⟨o2, hk _ _ ho2, hr2⟩, rv⟩
theorem vals_prefs {α : Type} : ∀ {ps : List (Addr × α)} {its : List Value}, Vals (ps.map fun p => V.ref p.1) its → its = ps.map fun p => Value.ref p.1
  | [], _, .nil => rfl
  | x :: xs, _, .cons h r => by
    have e := vals_prefs (ps := xs) r
    rw [e, List.map_cons]
    congr 1
def rMinT : List V → Hp → VK → Prop := fun vs H Q => ∃ (a : Addr) (ps : List (Addr × Int × List Nat)), vs = [V.ref a] ∧ H a = some (.lst (ps.map fun p => V.ref p.1)) ∧ 0 < ps.length ∧ (∀ p ∈ ps, ∃ l, H p.1 = some (.tup [.int p.2.1, .ref l]) ∧ H l = some (.lst (nV p.2.2))) ∧
  ∀ p ∈ ps, (∀ y ∈ ps, ¬ rowLt y.2 p.2) → Q (.ref p.1) H
theorem cr_minT {X : Cx} {k : Nat} (hc : X.calm = true) (hr : Room k X.A) : CallR X (.builtin "min") rMinT := by
  intro pins s σ H vs us Q I r h
  obtain ⟨a, ps, rfl, ha, hne, hp, q⟩ := h
  obtain ⟨its, rv, hl, _⟩ := I.list (.inl (.inl ha))
  rw [Vals.ref1 r]
  have e := vals_prefs rv
  subst e
  have rows : ∀ p ∈ ps, RowV s.heap (.ref p.1) p.2 := fun p hm => by
    obtain ⟨l, h1, h2⟩ := hp p hm
    obtain ⟨i1, r1, p1, _⟩ := I.tuple (.inl (.inl h1))
    obtain ⟨i2, r2, p2, _⟩ := I.list (.inl (.inl h2))
    cases r1 with
    | cons ra r1 =>
      cases r1 with
      | cons rb r1 =>
        cases r1
        obtain ⟨t, rfl⟩ := ra
        cases rb
        exact ⟨p.1, l, t, i2, rfl, p1, p2.isList, r2⟩
  have hls := hl.isList
  have hlt : a < s.heap.objs.size := by obtain ⟨_, e, _⟩ := hls; exact Heap.lt_size e
  have nm : (toString "min" ++ toString ".loop" : String) = "min.loop" := by decide
  refine call_function_tree F.kind_min F.plain_min F.entry_min (F.args_min1 _) ?_
  show wpAny _ X.A.in1 (Builtin.Builtins.bindParams "min" ["key", "default"] 0 ⟨[], []⟩ >>= _) _ _ s
  refine wpAny_bind (wpAny_of_eq (show Builtin.Builtins.bindParams "min" ["key", "default"] 0 ⟨[], []⟩ = pure [none, none] from rfl) ?_)
  refine wpAny_bind (wpAny_pure ?_)
  refine wpAny_bind (wpAny_pyIter_list hls ?_)
  refine wpAny_bind (wpAny_newObj_type ?_)
  rw [nm]
  have W := Walks.list (prog := X.prog) (w := X.w) (A := X.A.in1) (I.ok.hd hc) s.heap.objs.size a (Nat.ne_of_lt hlt) (ps.map fun p => Value.ref p.1).toArray
  have hsz : (ps.map fun p => Value.ref p.1).toArray.size = ps.length := by simp
  have hit : (s.heap.push { cls := .type "list_iterator", data := .fields #[.ref a, .int 0 0] }).IsListIter s.heap.objs.size a 0 := ⟨_, Heap.get?_push_size _ rfl, rfl, rfl⟩
  have hl1 := hls.push (o := { cls := .type "list_iterator", data := .fields #[.ref a, .int 0 0] })
  have kp : ∀ b o, s.heap.get? b = some o → (s.heap.push { cls := .type "list_iterator", data := .fields #[.ref a, .int 0 0] }).get? b = some o := fun b o e => Heap.get?_push_of_some _ e
  have hs1 : (s.heap.push { cls := .type "list_iterator", data := .fields #[.ref a, .int 0 0] }).objs.size = s.heap.objs.size + 1 := Heap.size_push _ _
  generalize (s.heap.push { cls := .type "list_iterator", data := .fields #[.ref a, .int 0 0] }) = h1 at *
  have old : ∀ b o, s.heap.get? b = some o → b < s.heap.objs.size := fun b o e => Heap.lt_size e
  have fk : ∀ (i : Nat) (v : Value), (ps.map fun p => Value.ref p.1).toArray[i]? = some v → i < ps.length ∧ RowV s.heap v (ps.getD i (0, 0, [])).2 ∧ v = .ref (ps.getD i (0, 0, [])).1 ∧ ps.getD i (0, 0, []) ∈ ps := fun i v hv => by
    rw [List.getElem?_toArray, List.getElem?_map] at hv
    obtain ⟨p, ep, rfl⟩ := Option.map_eq_some_iff.mp hv
    rw [List.getD_eq_getElem?_getD, ep]
    exact ⟨(List.getElem?_eq_some_iff.mp ep).1, rows p (List.mem_of_getElem? ep), rfl, List.mem_of_getElem? ep⟩
  have hcmp : CmpK X.prog X.w X.A.in1 (fun h => ∀ b o, s.heap.get? b = some o → h.get? b = some o) (fun i v => (ps.map fun p => Value.ref p.1).toArray[i]? = some v) (fun i j => decide (rowLt (ps.getD i (0, 0, [])).2 (ps.getD j (0, 0, [])).2)) := fun i j vi vj s' Q' E' hK hi hj hq =>
    rowLtAt ((fk i vi hi).2.1.keeps hK) ((fk j vj hj).2.1.keeps hK) (by have := hr.units; show X.A.units + 1 + 4 < _; omega) _ _ _ _ hq
  refine wpAny_pure ⟨plainId_quiet F.plain_min_loop _, minW_first (fun h => ∀ b o, s.heap.get? b = some o → h.get? b = some o) W _ hcmp h1.objs.size (fun hm => ?_) (fun h h' hK hk b o e => hk b o (fun hm => ?_) (fun z => ?_) (hK b o e)) (by rw [hsz]; exact hne) (fun b o e => Heap.get?_push_of_some _ (kp b o e)) (W.frame _ _ _ ⟨hit, hl1⟩ fun b _ o e => Heap.get?_push_of_some _ e) (Heap.get?_push_size _ rfl) fun v g tk hP hk => ?_⟩
  · rcases List.mem_cons.mp hm with z | hm
    · have z' : @Eq Nat _ _ := z
      omega
    · have z' : @Eq Nat _ _ := List.mem_singleton.mp hm
      have hlt' : @LT.lt Nat _ _ _ := hlt
      omega
  · have z' : @Eq Nat _ _ := List.mem_singleton.mp hm
    have o' : @LT.lt Nat _ _ _ := old b o e
    omega
  · have z' : @Eq Nat _ _ := z
    have o' : @LT.lt Nat _ _ _ := old b o e
    omega
  · obtain ⟨_, _, e3, e4⟩ := fk _ v hP
    obtain ⟨_, b2⟩ := argBest_row (fun i => (ps.getD i (0, 0, [])).2) ((ps.map fun p => Value.ref p.1).toArray.size - 1)
    refine ⟨.ref _, H, I.kept (fun b o e => hk b o (fun hm => ?_) (fun z => ?_) (Heap.get?_push_of_some _ (kp b o e))), e3, q _ e4 fun y hy => ?_⟩
    · have z' : @Eq Nat _ _ := List.mem_singleton.mp hm
      have o' : @LT.lt Nat _ _ _ := old b o e
      omega
    · have z' : @Eq Nat _ _ := z
      have o' : @LT.lt Nat _ _ _ := old b o e
      omega
    · obtain ⟨j, hj, ej⟩ := List.mem_iff_getElem.mp hy
      have := b2 j (by rw [hsz]; omega)
      have ey : ps.getD j (0, 0, []) = y := by rw [List.getD_eq_getElem?_getD, List.getElem?_eq_getElem hj]; exact ej
      rw [ey] at this
      exact this
end L2
end
section
set_option Elab.async false
set_option linter.all false
set_option maxRecDepth 100000
set_option maxHeartbeats 0
namespace K26
open PySem L2
local macro_rules
  | `(tactic| simp only [rs, $ls,*]) => `(tactic| simp only [tVar, tC, tOp, tUn, rI, rI0, rU, tCB, tCons, tNil, tCall, tRet, tRetN, tSeq, tNext, tAsg, tPar3, gName, tAnd, tOr, tNot, tAndV, tOrV, tNotV, tIf, tTest, tB, tLst, tTup, gSub, rSetL, tPar, tDrop, tBM, rEq, rNe, scal, t2I, gTup, gTupH, gTupL, gCons, gNil,  tSl, rSlLH, tRev, tPart, tNoPart, tDNewK, tDisp, tPairs, tTm, List.map_cons, List.map_nil, List.length_cons, List.length_nil, List.replicate, List.append_nil, List.nil_append, List.cons_append, List.getElem?_cons_zero, List.getElem?_cons_succ, List.getElem?_nil, List.set_cons_zero, List.set_cons_succ, Option.some.injEq, V.int.injEq, V.ref.injEq, V.bl.injEq, V.str.injEq, V.ty.injEq, HO.lst.injEq, HO.tup.injEq, HO.rng.injEq, HO.dK.injEq, exists_eq_left, exists_eq_left', exists_eq_right, exists_eq_right', exists_and_left, exists_and_right, exists_eq, exists_eq', false_and, and_false, false_or, or_false, true_and, and_true, ite_true, ite_false, if_true, if_false, Bool.false_eq_true, reduceIte, List.cons.injEq, and_assoc, decide_true, decide_false, Bool.not_true, Bool.not_false, reduceCtorEq, upd_same, rIxLH, rCatTH, rCatE, tApp, tLm, tLm0, rPopI, rPopL, tDGs, sDPs, rSetDs, rNeI, rEqI, rNeR, rEqR, rCat, tMaxD, rAllT, rMaxH, rAnyH, rAllH, rInH, rIxTH, tyN_non, tyN_bl, tyN_int, tyN_str, tyN_ref, tyR_lst, tyR_tup, tyR_dK, at0, at1, at2, at3, at4, ix0, ix1, ix2, Nat.reduceAdd, Nat.reduceSub, Nat.zero_add, Int.zero_add, Nat.add_zero, Int.reducePow, Int.reduceNeg, Int.reduceToNat, Nat.reducePow, isSub_NoneType_int, isSub_NoneType_bool, isSub_NoneType_str, isSub_NoneType_list, isSub_NoneType_tuple, isSub_NoneType_dict, isSub_bool_int, isSub_bool_bool, isSub_bool_str, isSub_bool_list, isSub_bool_tuple, isSub_bool_dict, isSub_int_int, isSub_int_bool, isSub_int_str, isSub_int_list, isSub_int_tuple, isSub_int_dict, isSub_str_int, isSub_str_bool, isSub_str_str, isSub_str_list, isSub_str_tuple, isSub_str_dict, isSub_list_int, isSub_list_bool, isSub_list_str, isSub_list_list, isSub_list_tuple, isSub_list_dict, isSub_tuple_int, isSub_tuple_bool, isSub_tuple_str, isSub_tuple_list, isSub_tuple_tuple, isSub_tuple_dict, isSub_dict_int, isSub_dict_bool, isSub_dict_str, isSub_dict_list, isSub_dict_tuple, isSub_dict_dict, isSubA_NoneType, isSubA_bool, isSubA_int, isSubA_str, isSubA_list, isSubA_tuple, isSubA_dict, rSetOf, rSortedSet, rSetAnd, rSetSub, rLenSet, rSortI, rSetOr, rSetB, HO.set.injEq, HO.ins.injEq, st_all_of, st_is_in, st_members, st_without, st_rounded, st_end_of, st_end_on, st_least_ends, st_last_begins, st_begin_below, st_best_stack, st__law_tape, st__law_draw, st__law_up, st__law_few, st__law_stacked, st__law_orders, st_law, $ls,*])
  | `(tactic| simp only [rd, $ls,*]) => `(tactic| simp only [rs, tIfS, $ls,*])
section
variable {P : Program} {w : World} {K : PySem.W.Frag} {mg : Str → Option Value} {base : Heap}
theorem tSeq_by {A B : TS} {D : Ends} {σ : St} {H : Hp} (Z : St → Hp → Prop) (h : ∀ N : St → Hp → Prop, (∀ σ H, Z σ H → N σ H) → A { D with nx := N } σ H) (hB : ∀ σ H, Z σ H → B D σ H) : tSeq A B D σ H := h _ hB
theorem isOrd_all {n : Nat} {q : List Nat} : IsOrd (2 ^ n - 1) q ↔ q.Perm (List.range n) := by
  have ht : ∀ t, (2 ^ n - 1).testBit t = decide (t < n) := fun t => Nat.testBit_two_pow_sub_one n t
  constructor
  · rintro ⟨h1, h2⟩
    refine (List.perm_ext_iff_of_nodup h1 List.nodup_range).mpr fun t => ?_
    rw [h2 t, ht t, List.mem_range, decide_eq_true_iff]
  · intro h
    refine ⟨h.nodup_iff.mpr List.nodup_range, fun t => ?_⟩
    rw [h.mem_iff, List.mem_range, ht t, decide_eq_true_iff]
theorem best_one {f : Nat → Int → Int} {n : Nat} {es : List Int} {e : Int} {os : List Nat} {x : Int × List Nat} (mono : ∀ t x y, x ≤ y → f t x ≤ f t y) (hg : GpE f 0 1 (2 ^ n) es) (he : es[2 ^ n - 1]? = some e) (ho : Fst f e (2 ^ n - 1) 0 os)
    (hx : x.2.Perm (List.range n)) (hx1 : x.1 = stk f x.2 0) (hmin : ∀ q : List Nat, q.Perm (List.range n) → ¬ rowLt (stk f q 0, q) x) : x = (e, os) := by
  have hn1 : 1 ≤ 2 ^ n := Nat.one_le_two_pow
  obtain ⟨_, h2⟩ := hg.least mono (2 ^ n - 1) (by omega) e he
  obtain ⟨o1, o2, o3⟩ := ho.ok
  have l1 := h2 os o1
  have l2 := h2 x.2 (isOrd_all.mpr hx)
  have eo : stk f os 0 = e := by omega
  have m := hmin os (isOrd_all.mp o1)
  rw [eo] at m
  have ex : x.1 = e := by
    rcases Int.lt_or_le e x.1 with z | z
    · exact absurd (.inl z) m
    · omega
  rcases o3 x.2 (isOrd_all.mpr hx) (by omega) with z | z
  · rw [z, ← ex]
  · exact absurd (.inr ⟨ex.symm, z⟩) m
theorem tOf_fit {H : Hp} {tl : List Th} (h : ThL H tl) (hl : tl.length ≤ 20) : (toPy (.tup (tl.map thD))).showable = true ∧ (toPy (.tup (tl.map thD))).depth ≤ 50 ∧ (txt (.tup (tl.map thD))).length ≤ sizeLine := by
  have e1 := bulk_ths (tl := tl)
  have e3 := depth_ths (tl := tl)
  refine str_fit ?_ ?_ ?_
  · simp only [ShD]
    exact sh_ths h
  · simp only [toPy, PyData.bulk]
    omega
  · simp only [toPy, PyData.depth]
    omega
theorem lay_row : ∀ {xs : List Nat}, PyData.canLayAll0 (toPyL (xs.map fun (t : Nat) => D.int (t : Int))) = true
  | [] => by simp [toPyL, PyData.canLayAll0]
  | x :: xs => by
    have := lay_row (xs := xs)
    simp only [List.map_cons, toPyL, PyData.canLayAll0, this, Bool.and_true, toPy, PyData.canLay0]
theorem depth_row : ∀ {xs : List Nat}, PyData.depthAll (toPyL (xs.map fun (t : Nat) => D.int (t : Int))) ≤ 1
  | [] => by simp only [List.map_nil, toPyL, PyData.depthAll]; omega
  | x :: xs => by
    have := depth_row (xs := xs)
    simp only [List.map_cons, toPyL, PyData.depthAll, toPy, PyData.depth] at this ⊢
    omega
def rowD (x : Int × List Nat) : D := .tup [.int x.1, .lst (x.2.map fun (t : Nat) => D.int (t : Int))]
theorem shp_row {x : Int × List Nat} : shp (rowD x) := by
  have h1 := lay_row (xs := x.2)
  have h2 := depth_row (xs := x.2)
  unfold shp SeqAt.shaped rowD
  simp only [toPy, toPyL, PyData.canLay0, PyData.canLayAll0, PyData.depth, PyData.depthAll, h1, Bool.true_and, Bool.and_true, decide_eq_true_eq]
  omega
theorem rp_nats {H : Hp} : ∀ {xs : List Nat}, RpL H (nV xs) (xs.map fun (t : Nat) => D.int (t : Int))
  | [] => .nil
  | x :: xs => .cons (.int _) rp_nats
theorem rp_row {H : Hp} {r l : Addr} {x : Int × List Nat} (h1 : H r = some (.tup [.int x.1, .ref l])) (h2 : H l = some (.lst (nV x.2))) : Rp H (.ref r) (rowD x) := .tup h1 (.cons (.int _) (.cons (.lst h2 rp_nats) .nil))
def spLaw (K : PySem.W.Frag) : Sp := fun vs H Q _ => ∃ (a : Addr) (ns : List Int), vs = [.ref a] ∧ SqL K H a (ns.map V.int) ∧ ns.length ≤ 63 ∧ ∀ H', Q (.bl true) H'
theorem ok_law (T : Txt K mg) {f : Addr} {fd : FuncData} (F : Fun K "law" "law" s_law f fd) : FnOk P w K mg base CX0 10 f fd ["_law_script"] (spLaw K) := by
  have G__law_draw := ok_draw (P := P) (w := w) (base := base) T
  have G__law_tape := ok_tape (P := P) (w := w) (base := base) T
  have G__law_few := ok_few (P := P) (w := w) (base := base) T G__law_draw
  have G__law_up := ok_up (P := P) (w := w) (base := base) T
  have G__law_stacked := ok_stacked (P := P) (w := w) (base := base) T G__law_up
  have G__law_orders := ok_orders (P := P) (w := w) (base := base) T 8
  have G_best_stack := ok_best (P := P) (w := w) (base := base) T
  refine F.ok sc_law (fun vs H Q E h => ?_) (fun cdv A outer s H vs Q E hr h => ?_)
  · obtain ⟨a, ns, rfl, _⟩ := h
    rfl
  · obtain ⟨a, ns, rfl, hS, hlen, k⟩ := h
    refine ⟨_, (QSs.run (qpss_cons (qps_for PassesOwn.never rfl (qpi_range1 gl_law_range T.b_range (qpa_cons (qpe_op op_add qpe_int (qpe_callB (call_min2 rfl) gl_law_min T.b_min bb_min (qpa_cons qpe_int (qpa_cons (qpe_callB call_len_seq gl_law_len T.b_len bb_len (qpa_cons v_law_0 qpa_nil se_Name) bn_len bd_len se_Name hp_nil) qpa_nil se_Call) se_Constant) bn_min bd_min se_Constant (hp_cons se_Call hp_nil))) qpa_nil se_BinOp)) (qpg_name (i := 1) sc_law.nd rfl (by first | exact Or.inl rfl | exact Or.inr rfl)) (qpss_cons (qps_set (i := 2) sc_law.nd rfl (by first | exact Or.inl rfl | exact Or.inr rfl) (qpe_own G__law_tape hr gl_law__law_tape (qpa_cons v_law_0 (qpa_cons v_law_1 qpa_nil se_Name) se_Name) (by omega) bd__law_tape se_Name (hp_cons se_Name hp_nil))) (qpss_cons (qps_set (i := 3) sc_law.nd rfl (by first | exact Or.inl rfl | exact Or.inr rfl) (qpe_ifExp (qpt (qpw_and (qpt_cmpR op_eq v_law_1 qpe_int (nomark _)) (qpw_and1 (qpt_cmpR op_eq (qpe_own G__law_draw hr gl_law__law_draw (qpa_cons v_law_2 (qpa_cons qpe_int qpa_nil se_Constant) se_Name) (by omega) bd__law_draw se_Name (hp_cons se_Constant hp_nil)) qpe_int (nomark _))))) (qpe_op op_add qpe_int (qpe_own G__law_draw hr gl_law__law_draw (qpa_cons v_law_2 (qpa_cons qpe_int qpa_nil se_Constant) se_Name) (by omega) bd__law_draw se_Name (hp_cons se_Constant hp_nil))) (qpe_own G__law_draw hr gl_law__law_draw (qpa_cons v_law_2 (qpa_cons qpe_int qpa_nil se_Constant) se_Name) (by omega) bd__law_draw se_Name (hp_cons se_Constant hp_nil)))) (qpss_cons (qps_set (i := 4) sc_law.nd rfl (by first | exact Or.inl rfl | exact Or.inr rfl) (qpe_own G__law_few hr gl_law__law_few (qpa_cons v_law_2 (qpa_cons v_law_3 qpa_nil se_Name) se_Name) (by omega) bd__law_few se_Name (hp_cons se_Name hp_nil))) (qpss_cons (qps_par (i := 7) (j := 8) (by rfl) sc_law.nd rfl rfl (by decide) rfl rfl (qpa_cons (qpe_callTy (call_strD hr) gl_law_str T.b_str bb_str (qpa_cons v_law_4 qpa_nil se_Name) bn_str bd_str se_Name hp_nil) (qpa_cons (qpe_lc (own := [("_law_order", 10)]) (by rfl) sc_law.nd (qpi_listK K (qpe_own G__law_orders hr gl_law__law_orders (qpa_cons (qpe_callTy (call_listR rfl) gl_law_list T.b_list bb_list (qpa_cons (qpe_callTy call_rng1 gl_law_range T.b_range bb_range (qpa_cons v_law_3 qpa_nil se_Name) bn_range bd_range se_Name hp_nil) qpa_nil se_Call) bn_list bd_list se_Call hp_nil) qpa_nil se_Call) (by omega) bd__law_orders se_Call hp_nil)) (blkOk_by (own := [("_law_order", 10)]) (N := N_law) (sc := defScope s_law) (by decide +kernel)) (fun _ _ _ _ _ => (qpg_name (i := 10) sc_law.nd rfl (by first | exact Or.inl rfl | exact Or.inr rfl))) (fun _ _ _ _ _ => qpts_nil) (fun _ _ _ _ _ => (qpe_tup (qpa_cons (qpe_own G__law_stacked hr (by rfl) (qpa_cons (qpv 4) (qpa_cons (qpv 10) qpa_nil se_Name) se_Name) (by omega) bd__law_stacked se_Name (hp_cons se_Name hp_nil)) (qpa_cons (qpv 10) qpa_nil se_Name) se_Call)))) qpa_nil se_ListComp) se_Call) (by rfl)) (qpss_cons (qps_set (i := 5) sc_law.nd rfl (by first | exact Or.inl rfl | exact Or.inr rfl) (qpe_callB (cr_minT rfl hr) gl_law_min T.b_min bb_min (qpa_cons v_law_8 qpa_nil se_Name) bn_min bd_min se_Name hp_nil)) (qpss_one (qps_for PassesOwn.never rfl (qpi_range1 gl_law_range T.b_range (qpa_cons qpe_int qpa_nil se_Constant)) (qpg_name (i := 6) sc_law.nd rfl (by first | exact Or.inl rfl | exact Or.inr rfl)) (qpss_cons (qps_set (i := 9) sc_law.nd rfl (by first | exact Or.inl rfl | exact Or.inr rfl) (qpe_own G_best_stack hr gl_law_best_stack (qpa_cons v_law_4 qpa_nil se_Name) (by omega) bd_best_stack se_Name hp_nil)) (qpss_cons (qps_if (qpt (qpw_or (qpt_not (qpt_val (qpe_callB call_isi gl_law_isinstance T.b_isinstance bb_isinstance (qpa_cons v_law_9 (qpa_cons (qpe_bltn (v := .ty "tuple") gl_law_tuple T.b_tuple bb_tuple rfl bn_tuple bd_tuple) qpa_nil se_Name) se_Name) bn_isinstance bd_isinstance se_Name (hp_cons se_Name hp_nil)))) (qpw_or (qpt_cmpR op_ne (qpe_callB call_lenTH gl_law_len T.b_len bb_len (qpa_cons v_law_9 qpa_nil se_Name) bn_len bd_len se_Name hp_nil) qpe_int (nomark _)) (qpw_or1 (qpt_not (qpt_val (qpe_callB call_isi gl_law_isinstance T.b_isinstance bb_isinstance (qpa_cons (qpe_ix ix_tupH v_law_9 qpe_int (fun _ _ => rfl)) (qpa_cons (qpe_bltn (v := .ty "list") gl_law_list T.b_list bb_list rfl bn_list bd_list) qpa_nil se_Name) se_Subscript) bn_isinstance bd_isinstance se_Subscript (hp_cons se_Name hp_nil)))))))) (qpss_one (qps_ret qpe_bl)) qpss_nil) (qpss_cons (qps_if (qpt (qpw_or (qpt_cmpR (op_neR hr) v_law_9 v_law_5 (nomark _)) (qpw_or1 (qpt_cmpR op_ne (qpe_callTy (call_strD hr) gl_law_str T.b_str bb_str (qpa_cons v_law_4 qpa_nil se_Name) bn_str bd_str se_Name hp_nil) v_law_7 (nomark _))))) (qpss_one (qps_ret qpe_bl)) qpss_nil) (qpss_one (qps_expr (qpe_app (qpe_ix ix_tupH v_law_9 qpe_int (fun _ _ => rfl)) qpe_int se_Constant)))))))))))))) (qpss_one (qps_ret qpe_bl)))), ?_⟩
    simp only [rd, and_true]
    refine ⟨_, rfl, a, rfl, _, .inl hS, _, _, rfl, _, _, rfl, rfl, _, rfl, ?_, ?_, for_range (lo := 0) (fun i σ Hc => ∃ o1 o2 o3 o4 o5 o6 o7 o8 o9 o10, σ = [some (.ref a), o1, o2, o3, o4, o5, o6, o7, o8, o9, o10] ∧ Same H Hc) ⟨_, _, _, _, _, _, _, _, _, _, rfl, Same.refl _⟩ ?_ ?_⟩
    · split <;> omega
    · split <;> omega
    · rintro i σ Hc hi ⟨o1, o2, o3, o4, o5, o6, o7, o8, o9, o10, rfl, hs⟩
      have hi7 : i < 7 := by
        rw [List.length_map] at hi
        split at hi <;> omega
      refine tSeq_by (fun σ Hd => ∃ p, σ = [some (.ref a), some (.int i), some (.ref p), o3, o4, o5, o6, o7, o8, o9, o10] ∧ Tape Hd p 0 ∧ Same H Hd ∧ H p = none) (fun N hN => ?_) ?_
      · simp only [rd, and_true]
        exact ⟨a, ns, i, rfl, hs.seq hS, by omega, fun p H1 hp t1 s1 => hN _ _ ⟨p, rfl, t1, hs.trans s1, hs.free hp⟩⟩
      rintro σ Hd ⟨p, rfl, tp, hs, hp0⟩
      refine tSeq_by (fun σ Hd => ∃ m : Nat, σ = [some (.ref a), some (.int i), some (.ref p), some (.int m), o4, o5, o6, o7, o8, o9, o10] ∧ Tape Hd p 2 ∧ Same H Hd ∧ m ≤ 7) (fun N hN => ?_) ?_
      · simp only [rd, and_true]
        refine ite2 (fun _ => ?_) (fun _ => ?_)
        · refine draw_step tp (by decide) (by decide) (by decide) fun d0 H2 d00 d01 t2 e2 => ⟨rfl, ite2 (fun _ => ?_) (fun _ => ?_)⟩
          · refine draw_step t2 (by decide) (by decide) (by decide) fun d1 H3 d10 d11 t3 e3 => ⟨_, rfl, hN _ _ ⟨(6 + d1).toNat, ?_, t3, (hs.over hp0 e2).over hp0 e3, by omega⟩⟩
            rw [Int.toNat_of_nonneg (by omega)]
          · refine draw_step t2 (by decide) (by decide) (by decide) fun d1 H3 d10 d11 t3 e3 => hN _ _ ⟨d1.toNat, ?_, t3, (hs.over hp0 e2).over hp0 e3, by omega⟩
            rw [Int.toNat_of_nonneg (by omega)]
        · refine draw_step tp (by decide) (by decide) (by decide) fun d1 H3 d10 d11 t3 e3 => hN _ _ ⟨d1.toNat, ?_, t3.mono (by decide), hs.over hp0 e3, by omega⟩
          rw [Int.toNat_of_nonneg (by omega)]
      rintro σ Hd ⟨m, rfl, tp, hs, m7⟩
      refine tSeq_by (fun σ Hd => ∃ t tl, σ = [some (.ref a), some (.int i), some (.ref p), some (.int m), some (.ref t), o5, o6, o7, o8, o9, o10] ∧ Same H Hd ∧ ThsAt Hd t tl ∧ tl.length = m) (fun N hN => ?_) ?_
      · simp only [rd, and_true]
        exact ⟨p, 2, m, rfl, tp, by decide, by decide, by omega, fun t tl H3 t3 e3 hT hl => hN _ _ ⟨t, tl, rfl, hs.over hp0 e3, hT, hl⟩⟩
      rintro σ Hd ⟨t, tl, rfl, hs, hT, hl⟩
      refine tSeq_by (fun σ Hd => ∃ (D : Addr) (ps : List (Addr × Int × List Nat)), σ = [some (.ref a), some (.int i), some (.ref p), some (.int m), some (.ref t), o5, o6, some (.str (txt (.tup (tl.map thD)))), some (.ref D), o9, o10] ∧ Same H Hd ∧ ThsAt Hd t tl ∧ Hd D = some (.lst (ps.map fun p => V.ref p.1)) ∧ (∀ p ∈ ps, ∃ l, Hd p.1 = some (.tup [.int p.2.1, .ref l]) ∧ Hd l = some (.lst (nV p.2.2))) ∧ (∀ x : Int × List Nat, x ∈ ps.map (·.2) ↔ x.2.Perm (List.range m) ∧ x.1 = stk (eo tl) x.2 0)) (fun N hN => ?_) ?_
      · simp only [rd, and_true]
        obtain ⟨f1, f2, f3⟩ := tOf_fit hT.all (by omega)
        refine ⟨_, hT.rp, f1, f2, f3, ?_⟩
        refine ⟨_, rfl, (m : Int), rfl, fun r hr' => ⟨r, rfl, 0, (m : Int), upd_same, by decide, by decide, by omega, by omega, by omega, fun l hl' => ?_⟩⟩
        have eR : rngL 0 ((m : Int) - 0).toNat = nV (List.range m) := by
          unfold rngL nV
          have : ((m : Int) - 0).toNat = m := by omega
          rw [this]
          apply List.map_congr_left
          intro k _
          simp
        rw [eR] at *
        have s1 := (Same.new (o := .rng 0 (m : Int)) hr').trans (Same.new (o := .lst (nV (List.range m))) hl')
        refine ⟨l, List.range m, rfl, upd_same, by rw [List.length_range]; exact m7, by decide, fun L qs H4 nL s4 hL hqs hqi hql => ⟨L, rfl, ⟨_, .inl (.inl hL)⟩, fun D hD => ?_⟩⟩
        have s14 := s1.trans s4
        have hT4 := hT.kpt s14.kpt
        have hql7 : qs.length ≤ 8 ^ 7 := Nat.le_trans hql (by rw [List.length_range]; exact Nat.pow_le_pow_right (by decide) m7)
        refine lc_list (xs := qs.map fun p => V.ref p.1) (fun j Hk => ∃ ps : List (Addr × Int × List Nat), Same H4 Hk ∧ Hk D = some (.lst (ps.map fun p => V.ref p.1)) ∧ (∀ p ∈ ps, p.1 ≠ D ∧ ∃ l, Hk p.1 = some (.tup [.int p.2.1, .ref l]) ∧ H4 l = some (.lst (nV p.2.2))) ∧ ps.map (fun p => p.2) = (qs.take j).map fun y => (stk (eo tl) y.2 0, y.2))
          ⟨[], Same.new hD, upd_same, fun p h => absurd h (by simp), rfl⟩ (fun j Hk _ h => by obtain ⟨_, sk, _⟩ := h; exact .inl (.inl (sk _ _ hL))) ?_ ?_
        · rintro j x Hk hx ⟨ps, sk, hDk, hps, hpq⟩
          rw [List.getElem?_map] at hx
          obtain ⟨y, ey, rfl⟩ := Option.map_eq_some_iff.mp hx
          have hy4 := (hqs y (List.mem_of_getElem? ey)).2
          have hy := sk _ _ hy4
          have hTk := hT4.kpt sk.kpt
          have hpy := (hqi y.2).mp ⟨y, List.mem_of_getElem? ey, rfl⟩
          refine ⟨rfl, _, rfl, _, rfl, t, y.1, tl, y.2, rfl, hTk, hy, fun u hu => by have := List.mem_range.mp (hpy.mem_iff.mp hu); omega, _, rfl, (show 2 ≤ sizeLine by decide), fun p4 h4 => ?_⟩
          have s5 := Same.new (o := .tup [.int (stk (eo tl) y.2 0), .ref y.1]) h4
          have hjl : j < qs.length := (List.getElem?_eq_some_iff.mp ey).1
          have hpl : ps.length = j := by have := congrArg List.length hpq; rw [List.length_map, List.length_map, List.length_take] at this; omega
          have nD4 : p4 ≠ D := fun z => by rw [z, hDk] at h4; cases h4
          refine ⟨_, s5 _ _ hDk, by rw [List.length_map, show sizeLine = 16777216 from rfl]; omega, ps ++ [(p4, stk (eo tl) y.2 0, y.2)], Same.upd (sk.trans s5) hD, by rw [upd_same, List.map_append]; rfl, fun p hp => ?_, ?_⟩
          · rcases List.mem_append.mp hp with h | h
            · obtain ⟨q1, l', q2, q3⟩ := hps p h
              refine ⟨q1, l', ?_, q3⟩
              rw [upd_ne q1]
              exact s5 _ _ q2
            · cases List.mem_singleton.mp h
              exact ⟨nD4, y.1, by rw [upd_ne nD4, upd_same], hy4⟩
          · rw [List.map_append, hpq, List.take_succ, ey, List.map_append]
            rfl
        · rintro Hk ⟨ps, sk, hDk, hps, hpq⟩
          rw [List.length_map, List.take_length] at hpq
          refine hN _ _ ⟨D, ps, rfl, (hs.trans s14).trans sk, hT4.kpt sk.kpt, hDk, fun p hp => ?_, fun x => ?_⟩
          · obtain ⟨_, l', q2, q3⟩ := hps p hp
            exact ⟨l', q2, sk _ _ q3⟩
          · rw [hpq, List.mem_map]
            constructor
            · rintro ⟨y, hy, rfl⟩
              exact ⟨(hqi y.2).mp ⟨y, hy, rfl⟩, rfl⟩
            · rintro ⟨h1, h2⟩
              obtain ⟨y, hy, ey⟩ := (hqi x.2).mpr h1
              exact ⟨y, hy, by rw [ey, ← h2]⟩
      rintro σ Hd ⟨D, ps, rfl, hs, hT, hD, hrow, hiff⟩
      refine tSeq_by (fun σ Hd => ∃ (d l : Addr) (x : Int × List Nat), σ = [some (.ref a), some (.int i), some (.ref p), some (.int m), some (.ref t), some (.ref d), o6, some (.str (txt (.tup (tl.map thD)))), some (.ref D), o9, o10] ∧ Same H Hd ∧ ThsAt Hd t tl ∧ Hd d = some (.tup [.int x.1, .ref l]) ∧ Hd l = some (.lst (nV x.2)) ∧ x.2.Perm (List.range m) ∧ x.1 = stk (eo tl) x.2 0 ∧ ∀ q : List Nat, q.Perm (List.range m) → ¬ rowLt (stk (eo tl) q 0, q) x) (fun N hN => ?_) ?_
      · simp only [rd, and_true]
        have pos : 0 < ps.length := by
          have := (hiff (stk (eo tl) (List.range m) 0, List.range m)).mpr ⟨List.Perm.refl _, rfl⟩
          obtain ⟨y, hy, _⟩ := List.mem_map.mp this
          exact List.length_pos_of_mem hy
        refine ⟨D, ps, rfl, hD, pos, hrow, fun y hy hmin => ?_⟩
        obtain ⟨l, h1, h2⟩ := hrow y hy
        obtain ⟨h3, h4⟩ := (hiff y.2).mp (List.mem_map.mpr ⟨y, hy, rfl⟩)
        refine hN _ _ ⟨y.1, l, y.2, rfl, hs, hT, h1, h2, h3, h4, fun q hq hlt => ?_⟩
        obtain ⟨z, hz, ez⟩ := List.mem_map.mp ((hiff (stk (eo tl) q 0, q)).mpr ⟨hq, rfl⟩)
        exact hmin z hz (by rw [ez]; exact hlt)
      rintro σ Hd ⟨d, l, x, rfl, hs, hT, hd, hl2, hx1, hx2, hx3⟩
      refine ⟨_, rfl, by decide, by decide, for_range (lo := 0) (n := (2 : Int).toNat) (fun j σ Hd => ∃ o6 o9, σ = [some (.ref a), some (.int i), some (.ref p), some (.int m), some (.ref t), some (.ref d), o6, some (.str (txt (.tup (tl.map thD)))), some (.ref D), o9, o10] ∧ Same H Hd ∧ ThsAt Hd t tl ∧ Hd d = some (.tup [.int x.1, .ref l]) ∧ Hd l = some (.lst (nV x.2))) ⟨_, _, rfl, hs, hT, hd, hl2⟩ ?_ ?_⟩
      · rintro j σ Hd hj ⟨o6, o9, rfl, hs, hT, hd, hl2⟩
        simp only [rd, and_true]
        refine ⟨t, tl, rfl, hT, by omega, fun r l2 e es os H2 nr nl s2 hr2 hl3 g1 g2 g3 => ?_⟩
        rw [hl] at g1 g2 g3
        obtain rfl : x = (e, os) := best_one (eo_mono hT) g1 g2 g3 hx1 hx2 hx3
        have hT2 := hT.kpt s2.kpt
        obtain ⟨f1, f2, f3⟩ := tOf_fit hT2.all (by omega)
        simp only [rd, hr2, hl3]
        have hl3' : H2 l2 = some (.lst (nV os)) := hl3
        have hd2 := s2 _ _ hd
        have hl4 := s2 _ _ hl2
        have hol : os.length = m := by have := hx1.length_eq; rwa [List.length_range] at this
        rw [show (!decide (((2 : Nat) : Int) = 2)) = false from rfl]
        refine iteF ⟨rowD (e, os), rp_row (x := (e, os)) hr2 hl3', rowD (e, os), rp_row (x := (e, os)) hd2 hl4, shp_row, shp_row, ?_⟩
        rw [eqD_refl shp_row]
        refine iteF ⟨_, hT2.rp, f1, f2, f3, ?_⟩
        rw [decide_eq_true (show txt (L2.D.tup (List.map thD tl)) = txt (L2.D.tup (List.map thD tl)) from rfl)]
        refine iteF ⟨?_, Same.upd (hs.trans s2) (hs.free nl), hT2.kpt (KpT.upd hl3), ?_, ?_⟩
        · rw [List.length_map, hol]
          exact small_line (by omega)
        · rw [upd_ne (ne_of_none hd nl)]
          exact hd2
        · rw [upd_ne (ne_of_none hl2 nl)]
          exact hl4
      · rintro σ Hd ⟨o6, o9, rfl, hs, _⟩
        exact ⟨_, _, _, _, _, _, _, _, _, _, rfl, hs⟩
    · rintro σ Hc ⟨o1, o2, o3, o4, o5, o6, o7, o8, o9, o10, rfl, hs⟩
      simp only [rd, and_true]
      exact k _
end
end K26
end
set_option Elab.async false
set_option linter.all false
set_option maxRecDepth 100000
set_option maxHeartbeats 0
namespace K26
open PySem L2
theorem txt_mk {K : PySem.W.Frag} {h : Heap} {mg : Str → Option Value} (X : K.In h) (G : h.Ns mainGlobals mg)
    {f_all_of : Addr} {od_all_of an_all_of : Option Addr} {sl_all_of : Array (Option Value)} {oc_all_of kV_all_of dc_all_of pm_all_of cd_all_of ct_all_of : Value}
    {f_is_in : Addr} {od_is_in an_is_in : Option Addr} {sl_is_in : Array (Option Value)} {oc_is_in kV_is_in dc_is_in pm_is_in cd_is_in ct_is_in : Value}
    {f_members : Addr} {od_members an_members : Option Addr} {sl_members : Array (Option Value)} {oc_members kV_members dc_members pm_members cd_members ct_members : Value}
    {f_without : Addr} {od_without an_without : Option Addr} {sl_without : Array (Option Value)} {oc_without kV_without dc_without pm_without cd_without ct_without : Value}
    {f_rounded : Addr} {od_rounded an_rounded : Option Addr} {sl_rounded : Array (Option Value)} {oc_rounded kV_rounded dc_rounded pm_rounded cd_rounded ct_rounded : Value}
    {f_end_of : Addr} {od_end_of an_end_of : Option Addr} {sl_end_of : Array (Option Value)} {oc_end_of kV_end_of dc_end_of pm_end_of cd_end_of ct_end_of : Value}
    {f_end_on : Addr} {od_end_on an_end_on : Option Addr} {sl_end_on : Array (Option Value)} {oc_end_on kV_end_on dc_end_on pm_end_on cd_end_on ct_end_on : Value}
    {f_least_ends : Addr} {od_least_ends an_least_ends : Option Addr} {sl_least_ends : Array (Option Value)} {oc_least_ends kV_least_ends dc_least_ends pm_least_ends cd_least_ends ct_least_ends : Value}
    {f_last_begins : Addr} {od_last_begins an_last_begins : Option Addr} {sl_last_begins : Array (Option Value)} {oc_last_begins kV_last_begins dc_last_begins pm_last_begins cd_last_begins ct_last_begins : Value}
    {f_begin_below : Addr} {od_begin_below an_begin_below : Option Addr} {sl_begin_below : Array (Option Value)} {oc_begin_below kV_begin_below dc_begin_below pm_begin_below cd_begin_below ct_begin_below : Value}
    {f_best_stack : Addr} {od_best_stack an_best_stack : Option Addr} {sl_best_stack : Array (Option Value)} {oc_best_stack kV_best_stack dc_best_stack pm_best_stack cd_best_stack ct_best_stack : Value}
    {f__law_tape : Addr} {od__law_tape an__law_tape : Option Addr} {sl__law_tape : Array (Option Value)} {oc__law_tape kV__law_tape dc__law_tape pm__law_tape cd__law_tape ct__law_tape : Value}
    {f__law_draw : Addr} {od__law_draw an__law_draw : Option Addr} {sl__law_draw : Array (Option Value)} {oc__law_draw kV__law_draw dc__law_draw pm__law_draw cd__law_draw ct__law_draw : Value}
    {f__law_up : Addr} {od__law_up an__law_up : Option Addr} {sl__law_up : Array (Option Value)} {oc__law_up kV__law_up dc__law_up pm__law_up cd__law_up ct__law_up : Value}
    {f__law_few : Addr} {od__law_few an__law_few : Option Addr} {sl__law_few : Array (Option Value)} {oc__law_few kV__law_few dc__law_few pm__law_few cd__law_few ct__law_few : Value}
    {f__law_stacked : Addr} {od__law_stacked an__law_stacked : Option Addr} {sl__law_stacked : Array (Option Value)} {oc__law_stacked kV__law_stacked dc__law_stacked pm__law_stacked cd__law_stacked ct__law_stacked : Value}
    {f__law_orders : Addr} {od__law_orders an__law_orders : Option Addr} {sl__law_orders : Array (Option Value)} {oc__law_orders kV__law_orders dc__law_orders pm__law_orders cd__law_orders ct__law_orders : Value}
    {f_law : Addr} {od_law an_law : Option Addr} {sl_law : Array (Option Value)} {oc_law kV_law dc_law pm_law cd_law ct_law : Value}
    (z_abs : PySem.W.nsIn K mainGlobals "abs" = some none)
    (z_enumerate : PySem.W.nsIn K mainGlobals "enumerate" = some none)
    (z_int : PySem.W.nsIn K mainGlobals "int" = some none)
    (z_isinstance : PySem.W.nsIn K mainGlobals "isinstance" = some none)
    (z_len : PySem.W.nsIn K mainGlobals "len" = some none)
    (z_list : PySem.W.nsIn K mainGlobals "list" = some none)
    (z_max : PySem.W.nsIn K mainGlobals "max" = some none)
    (z_min : PySem.W.nsIn K mainGlobals "min" = some none)
    (z_range : PySem.W.nsIn K mainGlobals "range" = some none)
    (z_str : PySem.W.nsIn K mainGlobals "str" = some none)
    (z_tuple : PySem.W.nsIn K mainGlobals "tuple" = some none)
    (a_all_of : PySem.W.nsIn K mainGlobals "all_of" = some (some (.ref f_all_of))) (l_all_of : K.lookup f_all_of = some ⟨oc_all_of, od_all_of, .func (PySem.W.fnOf "all_of" "all_of" (defArgs s_all_of) (defBody s_all_of) (defScope s_all_of) .none kV_all_of dc_all_of pm_all_of an_all_of cd_all_of ct_all_of), sl_all_of⟩) (c_all_of : PySem.W.codeIn K cd_all_of "all_of" = true) (k_all_of : PySem.W.keepIn K (.ref f_all_of) = true)
    (a_is_in : PySem.W.nsIn K mainGlobals "is_in" = some (some (.ref f_is_in))) (l_is_in : K.lookup f_is_in = some ⟨oc_is_in, od_is_in, .func (PySem.W.fnOf "is_in" "is_in" (defArgs s_is_in) (defBody s_is_in) (defScope s_is_in) .none kV_is_in dc_is_in pm_is_in an_is_in cd_is_in ct_is_in), sl_is_in⟩) (c_is_in : PySem.W.codeIn K cd_is_in "is_in" = true) (k_is_in : PySem.W.keepIn K (.ref f_is_in) = true)
    (a_members : PySem.W.nsIn K mainGlobals "members" = some (some (.ref f_members))) (l_members : K.lookup f_members = some ⟨oc_members, od_members, .func (PySem.W.fnOf "members" "members" (defArgs s_members) (defBody s_members) (defScope s_members) .none kV_members dc_members pm_members an_members cd_members ct_members), sl_members⟩) (c_members : PySem.W.codeIn K cd_members "members" = true) (k_members : PySem.W.keepIn K (.ref f_members) = true)
    (a_without : PySem.W.nsIn K mainGlobals "without" = some (some (.ref f_without))) (l_without : K.lookup f_without = some ⟨oc_without, od_without, .func (PySem.W.fnOf "without" "without" (defArgs s_without) (defBody s_without) (defScope s_without) .none kV_without dc_without pm_without an_without cd_without ct_without), sl_without⟩) (c_without : PySem.W.codeIn K cd_without "without" = true) (k_without : PySem.W.keepIn K (.ref f_without) = true)
    (a_rounded : PySem.W.nsIn K mainGlobals "rounded" = some (some (.ref f_rounded))) (l_rounded : K.lookup f_rounded = some ⟨oc_rounded, od_rounded, .func (PySem.W.fnOf "rounded" "rounded" (defArgs s_rounded) (defBody s_rounded) (defScope s_rounded) .none kV_rounded dc_rounded pm_rounded an_rounded cd_rounded ct_rounded), sl_rounded⟩) (c_rounded : PySem.W.codeIn K cd_rounded "rounded" = true) (k_rounded : PySem.W.keepIn K (.ref f_rounded) = true)
    (a_end_of : PySem.W.nsIn K mainGlobals "end_of" = some (some (.ref f_end_of))) (l_end_of : K.lookup f_end_of = some ⟨oc_end_of, od_end_of, .func (PySem.W.fnOf "end_of" "end_of" (defArgs s_end_of) (defBody s_end_of) (defScope s_end_of) .none kV_end_of dc_end_of pm_end_of an_end_of cd_end_of ct_end_of), sl_end_of⟩) (c_end_of : PySem.W.codeIn K cd_end_of "end_of" = true) (k_end_of : PySem.W.keepIn K (.ref f_end_of) = true)
    (a_end_on : PySem.W.nsIn K mainGlobals "end_on" = some (some (.ref f_end_on))) (l_end_on : K.lookup f_end_on = some ⟨oc_end_on, od_end_on, .func (PySem.W.fnOf "end_on" "end_on" (defArgs s_end_on) (defBody s_end_on) (defScope s_end_on) .none kV_end_on dc_end_on pm_end_on an_end_on cd_end_on ct_end_on), sl_end_on⟩) (c_end_on : PySem.W.codeIn K cd_end_on "end_on" = true) (k_end_on : PySem.W.keepIn K (.ref f_end_on) = true)
    (a_least_ends : PySem.W.nsIn K mainGlobals "least_ends" = some (some (.ref f_least_ends))) (l_least_ends : K.lookup f_least_ends = some ⟨oc_least_ends, od_least_ends, .func (PySem.W.fnOf "least_ends" "least_ends" (defArgs s_least_ends) (defBody s_least_ends) (defScope s_least_ends) .none kV_least_ends dc_least_ends pm_least_ends an_least_ends cd_least_ends ct_least_ends), sl_least_ends⟩) (c_least_ends : PySem.W.codeIn K cd_least_ends "least_ends" = true) (k_least_ends : PySem.W.keepIn K (.ref f_least_ends) = true)
    (a_last_begins : PySem.W.nsIn K mainGlobals "last_begins" = some (some (.ref f_last_begins))) (l_last_begins : K.lookup f_last_begins = some ⟨oc_last_begins, od_last_begins, .func (PySem.W.fnOf "last_begins" "last_begins" (defArgs s_last_begins) (defBody s_last_begins) (defScope s_last_begins) .none kV_last_begins dc_last_begins pm_last_begins an_last_begins cd_last_begins ct_last_begins), sl_last_begins⟩) (c_last_begins : PySem.W.codeIn K cd_last_begins "last_begins" = true) (k_last_begins : PySem.W.keepIn K (.ref f_last_begins) = true)
    (a_begin_below : PySem.W.nsIn K mainGlobals "begin_below" = some (some (.ref f_begin_below))) (l_begin_below : K.lookup f_begin_below = some ⟨oc_begin_below, od_begin_below, .func (PySem.W.fnOf "begin_below" "begin_below" (defArgs s_begin_below) (defBody s_begin_below) (defScope s_begin_below) .none kV_begin_below dc_begin_below pm_begin_below an_begin_below cd_begin_below ct_begin_below), sl_begin_below⟩) (c_begin_below : PySem.W.codeIn K cd_begin_below "begin_below" = true) (k_begin_below : PySem.W.keepIn K (.ref f_begin_below) = true)
    (a_best_stack : PySem.W.nsIn K mainGlobals "best_stack" = some (some (.ref f_best_stack))) (l_best_stack : K.lookup f_best_stack = some ⟨oc_best_stack, od_best_stack, .func (PySem.W.fnOf "best_stack" "best_stack" (defArgs s_best_stack) (defBody s_best_stack) (defScope s_best_stack) .none kV_best_stack dc_best_stack pm_best_stack an_best_stack cd_best_stack ct_best_stack), sl_best_stack⟩) (c_best_stack : PySem.W.codeIn K cd_best_stack "best_stack" = true) (k_best_stack : PySem.W.keepIn K (.ref f_best_stack) = true)
    (a__law_tape : PySem.W.nsIn K mainGlobals "_law_tape" = some (some (.ref f__law_tape))) (l__law_tape : K.lookup f__law_tape = some ⟨oc__law_tape, od__law_tape, .func (PySem.W.fnOf "_law_tape" "_law_tape" (defArgs s__law_tape) (defBody s__law_tape) (defScope s__law_tape) .none kV__law_tape dc__law_tape pm__law_tape an__law_tape cd__law_tape ct__law_tape), sl__law_tape⟩) (c__law_tape : PySem.W.codeIn K cd__law_tape "_law_tape" = true) (k__law_tape : PySem.W.keepIn K (.ref f__law_tape) = true)
    (a__law_draw : PySem.W.nsIn K mainGlobals "_law_draw" = some (some (.ref f__law_draw))) (l__law_draw : K.lookup f__law_draw = some ⟨oc__law_draw, od__law_draw, .func (PySem.W.fnOf "_law_draw" "_law_draw" (defArgs s__law_draw) (defBody s__law_draw) (defScope s__law_draw) .none kV__law_draw dc__law_draw pm__law_draw an__law_draw cd__law_draw ct__law_draw), sl__law_draw⟩) (c__law_draw : PySem.W.codeIn K cd__law_draw "_law_draw" = true) (k__law_draw : PySem.W.keepIn K (.ref f__law_draw) = true)
    (a__law_up : PySem.W.nsIn K mainGlobals "_law_up" = some (some (.ref f__law_up))) (l__law_up : K.lookup f__law_up = some ⟨oc__law_up, od__law_up, .func (PySem.W.fnOf "_law_up" "_law_up" (defArgs s__law_up) (defBody s__law_up) (defScope s__law_up) .none kV__law_up dc__law_up pm__law_up an__law_up cd__law_up ct__law_up), sl__law_up⟩) (c__law_up : PySem.W.codeIn K cd__law_up "_law_up" = true) (k__law_up : PySem.W.keepIn K (.ref f__law_up) = true)
    (a__law_few : PySem.W.nsIn K mainGlobals "_law_few" = some (some (.ref f__law_few))) (l__law_few : K.lookup f__law_few = some ⟨oc__law_few, od__law_few, .func (PySem.W.fnOf "_law_few" "_law_few" (defArgs s__law_few) (defBody s__law_few) (defScope s__law_few) .none kV__law_few dc__law_few pm__law_few an__law_few cd__law_few ct__law_few), sl__law_few⟩) (c__law_few : PySem.W.codeIn K cd__law_few "_law_few" = true) (k__law_few : PySem.W.keepIn K (.ref f__law_few) = true)
    (a__law_stacked : PySem.W.nsIn K mainGlobals "_law_stacked" = some (some (.ref f__law_stacked))) (l__law_stacked : K.lookup f__law_stacked = some ⟨oc__law_stacked, od__law_stacked, .func (PySem.W.fnOf "_law_stacked" "_law_stacked" (defArgs s__law_stacked) (defBody s__law_stacked) (defScope s__law_stacked) .none kV__law_stacked dc__law_stacked pm__law_stacked an__law_stacked cd__law_stacked ct__law_stacked), sl__law_stacked⟩) (c__law_stacked : PySem.W.codeIn K cd__law_stacked "_law_stacked" = true) (k__law_stacked : PySem.W.keepIn K (.ref f__law_stacked) = true)
    (a__law_orders : PySem.W.nsIn K mainGlobals "_law_orders" = some (some (.ref f__law_orders))) (l__law_orders : K.lookup f__law_orders = some ⟨oc__law_orders, od__law_orders, .func (PySem.W.fnOf "_law_orders" "_law_orders" (defArgs s__law_orders) (defBody s__law_orders) (defScope s__law_orders) .none kV__law_orders dc__law_orders pm__law_orders an__law_orders cd__law_orders ct__law_orders), sl__law_orders⟩) (c__law_orders : PySem.W.codeIn K cd__law_orders "_law_orders" = true) (k__law_orders : PySem.W.keepIn K (.ref f__law_orders) = true)
    (a_law : PySem.W.nsIn K mainGlobals "law" = some (some (.ref f_law))) (l_law : K.lookup f_law = some ⟨oc_law, od_law, .func (PySem.W.fnOf "law" "law" (defArgs s_law) (defBody s_law) (defScope s_law) .none kV_law dc_law pm_law an_law cd_law ct_law), sl_law⟩) (c_law : PySem.W.codeIn K cd_law "law" = true) (k_law : PySem.W.keepIn K (.ref f_law) = true) : Txt K mg :=
  ⟨PySem.W.mg_none_of X G z_abs,
   PySem.W.mg_none_of X G z_enumerate,
   PySem.W.mg_none_of X G z_int,
   PySem.W.mg_none_of X G z_isinstance,
   PySem.W.mg_none_of X G z_len,
   PySem.W.mg_none_of X G z_list,
   PySem.W.mg_none_of X G z_max,
   PySem.W.mg_none_of X G z_min,
   PySem.W.mg_none_of X G z_range,
   PySem.W.mg_none_of X G z_str,
   PySem.W.mg_none_of X G z_tuple,
   (have F := fun_mk (st := s_all_of) l_all_of c_all_of k_all_of; ⟨_, _, F, PySem.W.mg_of X G a_all_of, F.binds fun _ _ _ _ _ _ us hl => match us, hl with | [_], _ => rfl⟩),
   (have F := fun_mk (st := s_is_in) l_is_in c_is_in k_is_in; ⟨_, _, F, PySem.W.mg_of X G a_is_in, F.binds fun _ _ _ _ _ _ us hl => match us, hl with | [_, _], _ => rfl⟩),
   (have F := fun_mk (st := s_members) l_members c_members k_members; ⟨_, _, F, PySem.W.mg_of X G a_members, F.binds fun _ _ _ _ _ _ us hl => match us, hl with | [_], _ => rfl⟩),
   (have F := fun_mk (st := s_without) l_without c_without k_without; ⟨_, _, F, PySem.W.mg_of X G a_without, F.binds fun _ _ _ _ _ _ us hl => match us, hl with | [_, _], _ => rfl⟩),
   (have F := fun_mk (st := s_rounded) l_rounded c_rounded k_rounded; ⟨_, _, F, PySem.W.mg_of X G a_rounded, F.binds fun _ _ _ _ _ _ us hl => match us, hl with | [_, _], _ => rfl⟩),
   (have F := fun_mk (st := s_end_of) l_end_of c_end_of k_end_of; ⟨_, _, F, PySem.W.mg_of X G a_end_of, F.binds fun _ _ _ _ _ _ us hl => match us, hl with | [_, _], _ => rfl⟩),
   (have F := fun_mk (st := s_end_on) l_end_on c_end_on k_end_on; ⟨_, _, F, PySem.W.mg_of X G a_end_on, F.binds fun _ _ _ _ _ _ us hl => match us, hl with | [_, _], _ => rfl⟩),
   (have F := fun_mk (st := s_least_ends) l_least_ends c_least_ends k_least_ends; ⟨_, _, F, PySem.W.mg_of X G a_least_ends, F.binds fun _ _ _ _ _ _ us hl => match us, hl with | [_], _ => rfl⟩),
   (have F := fun_mk (st := s_last_begins) l_last_begins c_last_begins k_last_begins; ⟨_, _, F, PySem.W.mg_of X G a_last_begins, F.binds fun _ _ _ _ _ _ us hl => match us, hl with | [_, _], _ => rfl⟩),
   (have F := fun_mk (st := s_begin_below) l_begin_below c_begin_below k_begin_below; ⟨_, _, F, PySem.W.mg_of X G a_begin_below, F.binds fun _ _ _ _ _ _ us hl => match us, hl with | [_, _], _ => rfl⟩),
   (have F := fun_mk (st := s_best_stack) l_best_stack c_best_stack k_best_stack; ⟨_, _, F, PySem.W.mg_of X G a_best_stack, F.binds fun _ _ _ _ _ _ us hl => match us, hl with | [_], _ => rfl⟩),
   (have F := fun_mk (st := s__law_tape) l__law_tape c__law_tape k__law_tape; ⟨_, _, F, PySem.W.mg_of X G a__law_tape, F.binds fun _ _ _ _ _ _ us hl => match us, hl with | [_, _], _ => rfl⟩),
   (have F := fun_mk (st := s__law_draw) l__law_draw c__law_draw k__law_draw; ⟨_, _, F, PySem.W.mg_of X G a__law_draw, F.binds fun _ _ _ _ _ _ us hl => match us, hl with | [_, _], _ => rfl⟩),
   (have F := fun_mk (st := s__law_up) l__law_up c__law_up k__law_up; ⟨_, _, F, PySem.W.mg_of X G a__law_up, F.binds fun _ _ _ _ _ _ us hl => match us, hl with | [_, _], _ => rfl⟩),
   (have F := fun_mk (st := s__law_few) l__law_few c__law_few k__law_few; ⟨_, _, F, PySem.W.mg_of X G a__law_few, F.binds fun _ _ _ _ _ _ us hl => match us, hl with | [_, _], _ => rfl⟩),
   (have F := fun_mk (st := s__law_stacked) l__law_stacked c__law_stacked k__law_stacked; ⟨_, _, F, PySem.W.mg_of X G a__law_stacked, F.binds fun _ _ _ _ _ _ us hl => match us, hl with | [_, _], _ => rfl⟩),
   (have F := fun_mk (st := s__law_orders) l__law_orders c__law_orders k__law_orders; ⟨_, _, F, PySem.W.mg_of X G a__law_orders, F.binds fun _ _ _ _ _ _ us hl => match us, hl with | [_], _ => rfl⟩),
   (have F := fun_mk (st := s_law) l_law c_law k_law; ⟨_, _, F, PySem.W.mg_of X G a_law, F.binds fun _ _ _ _ _ _ us hl => match us, hl with | [_], _ => rfl⟩)⟩

theorem all_mk {l : PySem.W.OpenLaw} {w : World} {K : PySem.W.Frag} {h : Heap} {mg : Str → Option Value} {fa : Addr} (X : K.In h) (G : h.Ns mainGlobals mg) (hfa : mg "law" = some (.ref fa))
    (T : Txt K mg) {f_law : Addr} {od_law an_law : Option Addr} {sl_law : Array (Option Value)} {oc_law kV_law dc_law pm_law cd_law ct_law : Value}
    (a_law : PySem.W.nsIn K mainGlobals "law" = some (some (.ref f_law))) (l_law : K.lookup f_law = some ⟨oc_law, od_law, .func (PySem.W.fnOf "law" "law" (defArgs s_law) (defBody s_law) (defScope s_law) .none kV_law dc_law pm_law an_law cd_law ct_law), sl_law⟩) (c_law : PySem.W.codeIn K cd_law "law" = true) (k_law : PySem.W.keepIn K (.ref f_law) = true) :
    ∃ fd : FuncData, (∀ (s : Shared) (v : Value), BindsTo s fd ⟨[v], []⟩ [("_law_script", v)]) ∧ ∀ base : Heap, K.In base → base.Ns mainGlobals mg → FnOk l.prog w K mg base CX0 10 fa fd ["_law_script"] (spLaw K) := by
  have e := hfa.symm.trans (PySem.W.mg_of X G a_law)
  cases e
  have F := fun_mk (st := s_law) l_law c_law k_law
  exact ⟨PySem.W.fnOf "law" "law" (defArgs s_law) (defBody s_law) (defScope s_law) .none kV_law dc_law pm_law an_law cd_law ct_law, fun s v => .of_eq rfl, fun base _ _ => ok_law T F⟩
theorem walk {l : PySem.W.OpenLaw} {q : Program} {loose : List Str} {XP : (Str → Option Value) → Heap → Prop} {YP : World → Heap → Prop} {d : DefRec} {K : Params → PySem.W.Frag} (hn : l.most = some 63) (hdf : d.params.defaults = [])
    (hY : ∀ (w : World) (h : Heap), YP w h → (K w.params).In h)
    (F : ∀ (w : World) (mg : Str → Option Value) (fa : Addr) (h : Heap), (K w.params).In h → h.Ns mainGlobals mg → mg d.name = some (.ref fa) →
      ∃ fd : FuncData, (∀ (s : Shared) (u : Value), BindsTo s fd ⟨[u], []⟩ [("_law_script", u)]) ∧ ∀ base : Heap, (K w.params).In base → base.Ns mainGlobals mg → FnOk l.prog w (K w.params) mg base CX0 10 fa fd ["_law_script"] (spLaw (K w.params))) :
    PySem.W.WalkO q loose XP YP l.row.toRowW d [] (fun f vs => PySem.call f vs) :=
  L2.walk_of (n := 63) (k := 10) (x := "_law_script") (CX := fun _ => CX0) (sp := fun w => spLaw (K w.params)) hn (by decide) hdf ⟨rfl, by decide, by decide, rfl⟩ hY F (fun _ _ a ns hl _ hS => ⟨a, ns, rfl, hS, hl, fun _ => rfl⟩) fun _ _ _ _ _ z => z
end K26
open PySem PySem.W PyProof.Rows
set_option maxRecDepth 100000 in
set_option maxHeartbeats 0 in
theorem PySem.Challenge.cw_frameshare_k26_best_stacks_holds : PySem.Challenge.rw_frameshare_k26_best_stacks.Holds := by
  w_on; o_law; k_head; (case hw => w_witness2)
  k_fill
  refine K26.walk (l := PySem.Challenge.rw_frameshare_k26_best_stacks) rfl rfl (fun w h Y => PySem.W.kIn_of Y) ?F
  case F =>
    intro w mg fa h KX G hmg
    refine' K26.all_mk KX G hmg ?T ?a_law0 ?l_law0 ?c_law0 ?k_law0
    case T =>
      refine' K26.txt_mk KX G ?z_abs ?z_enumerate ?z_int ?z_isinstance ?z_len ?z_list ?z_max ?z_min ?z_range ?z_str ?z_tuple ?a_all_of ?l_all_of ?c_all_of ?k_all_of ?a_is_in ?l_is_in ?c_is_in ?k_is_in ?a_members ?l_members ?c_members ?k_members ?a_without ?l_without ?c_without ?k_without ?a_rounded ?l_rounded ?c_rounded ?k_rounded ?a_end_of ?l_end_of ?c_end_of ?k_end_of ?a_end_on ?l_end_on ?c_end_on ?k_end_on ?a_least_ends ?l_least_ends ?c_least_ends ?k_least_ends ?a_last_begins ?l_last_begins ?c_last_begins ?k_last_begins ?a_begin_below ?l_begin_below ?c_begin_below ?k_begin_below ?a_best_stack ?l_best_stack ?c_best_stack ?k_best_stack ?a__law_tape ?l__law_tape ?c__law_tape ?k__law_tape ?a__law_draw ?l__law_draw ?c__law_draw ?k__law_draw ?a__law_up ?l__law_up ?c__law_up ?k__law_up ?a__law_few ?l__law_few ?c__law_few ?k__law_few ?a__law_stacked ?l__law_stacked ?c__law_stacked ?k__law_stacked ?a__law_orders ?l__law_orders ?c__law_orders ?k__law_orders ?a_law ?l_law ?c_law ?k_law
      (case z_abs => k_is)
      (case z_enumerate => k_is)
      (case z_int => k_is)
      (case z_isinstance => k_is)
      (case z_len => k_is)
      (case z_list => k_is)
      (case z_max => k_is)
      (case z_min => k_is)
      (case z_range => k_is)
      (case z_str => k_is)
      (case z_tuple => k_is)
      (case a_all_of => k_is)
      (case l_all_of => k_is)
      (case c_all_of => k_is)
      (case k_all_of => k_is)
      (case a_is_in => k_is)
      (case l_is_in => k_is)
      (case c_is_in => k_is)
      (case k_is_in => k_is)
      (case a_members => k_is)
      (case l_members => k_is)
      (case c_members => k_is)
      (case k_members => k_is)
      (case a_without => k_is)
      (case l_without => k_is)
      (case c_without => k_is)
      (case k_without => k_is)
      (case a_rounded => k_is)
      (case l_rounded => k_is)
      (case c_rounded => k_is)
      (case k_rounded => k_is)
      (case a_end_of => k_is)
      (case l_end_of => k_is)
      (case c_end_of => k_is)
      (case k_end_of => k_is)
      (case a_end_on => k_is)
      (case l_end_on => k_is)
      (case c_end_on => k_is)
      (case k_end_on => k_is)
      (case a_least_ends => k_is)
      (case l_least_ends => k_is)
      (case c_least_ends => k_is)
      (case k_least_ends => k_is)
      (case a_last_begins => k_is)
      (case l_last_begins => k_is)
      (case c_last_begins => k_is)
      (case k_last_begins => k_is)
      (case a_begin_below => k_is)
      (case l_begin_below => k_is)
      (case c_begin_below => k_is)
      (case k_begin_below => k_is)
      (case a_best_stack => k_is)
      (case l_best_stack => k_is)
      (case c_best_stack => k_is)
      (case k_best_stack => k_is)
      (case a__law_tape => k_is)
      (case l__law_tape => k_is)
      (case c__law_tape => k_is)
      (case k__law_tape => k_is)
      (case a__law_draw => k_is)
      (case l__law_draw => k_is)
      (case c__law_draw => k_is)
      (case k__law_draw => k_is)
      (case a__law_up => k_is)
      (case l__law_up => k_is)
      (case c__law_up => k_is)
      (case k__law_up => k_is)
      (case a__law_few => k_is)
      (case l__law_few => k_is)
      (case c__law_few => k_is)
      (case k__law_few => k_is)
      (case a__law_stacked => k_is)
      (case l__law_stacked => k_is)
      (case c__law_stacked => k_is)
      (case k__law_stacked => k_is)
      (case a__law_orders => k_is)
      (case l__law_orders => k_is)
      (case c__law_orders => k_is)
      (case k__law_orders => k_is)
      (case a_law => k_is)
      (case l_law => k_is)
      (case c_law => k_is)
      (case k_law => k_is)
    (case a_law0 => k_is); (case l_law0 => k_is); (case c_law0 => k_is); (case k_law0 => k_is)
#print axioms PySem.Challenge.cw_frameshare_k26_best_stacks_holds
