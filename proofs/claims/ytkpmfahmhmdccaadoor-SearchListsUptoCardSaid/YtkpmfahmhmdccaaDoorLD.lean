/-
  The store: what it holds, as a map's datum; how it lies in memory; a look at a place.
-/
import Derived.Test.YtkpmfahmhmdccaaDoorLC
import Derived.Maps.OwnSet
namespace Go.Proofs.YtkpmfahmhmdccaaDoor.Fil
open Go.RowKit Go.Maps

/-- What is at a place. -/
structure Th where
  kind : Int
  id : Int
  text : Str
def Th.no : Th := ⟨0, 0, []⟩
def Th.small (t : Th) : Bool := decide (t.text.length ≤ 1048576)
def thv (t : Th) : Value := .agg #[.int .i64 t.kind, .int .i64 t.id, str t.text]
abbrev Dt := DataW Unit
def thD (t : Th) : Dt := .agg [.lit (.int .i64 t.kind), .lit (.int .i64 t.id), .lit (.string t.text)]
def thOf : Dt → Th
  | .agg [.lit (.int _ k), .lit (.int _ i), .lit (.string s)] => ⟨k, i, s⟩
  | _ => Th.no
theorem thOf_thD (t : Th) : thOf (thD t) = t := rfl
/-- How a thing reads. -/
def thList : List Value → Option (Dt × List MemPlace)
  | [.int .i64 k, .int .i64 i, .string s] => if Th.small ⟨k, i, s.data.toList⟩ then some (thD ⟨k, i, s.data.toList⟩, []) else none
  | _ => none
def thElem : Value → Option (Dt × List MemPlace)
  | .agg cs => thList cs.toList
  | _ => none
theorem thElem_mk (t : Th) (h : t.small = true) : thElem (thv t) = some (thD t, []) := by
  obtain ⟨k, i, s⟩ := t
  show (if Th.small ⟨k, i, s⟩ then some (thD ⟨k, i, s⟩, []) else none) = _
  rw [if_pos h]
theorem thElem_inv {v : Value} {z : Dt × List MemPlace} (h : thElem v = some z) : ∃ t : Th, v = thv t ∧ z = (thD t, []) ∧ t.small = true := by
  cases v <;> try (cases h; done)
  rename_i cs
  obtain ⟨l⟩ := cs
  change thList l = some z at h
  unfold thList at h
  split at h
  · rename_i k i s
    split at h
    · rename_i hs
      injection h with h
      exact ⟨⟨k, i, s.data.toList⟩, by rw [thv], h.symm, hs⟩
    · cases h
  · cases h

def getD (D : Dt) (k : Str) : Th := thOf (D.atKey (.string k) (thD Th.no))
theorem getD_put (D : Dt) (k : Str) (t : Th) (hD : IsMap D) : getD (D.put (.string k) (thD t)) k = t := by
  unfold getD
  rw [atKey_put_same hD (by trivial), thOf_thD]
theorem getD_put_ne (D : Dt) (k k' : Str) (d : Dt) (h : k' ≠ k) : getD (D.put (.string k) d) k' = getD D k' := by
  unfold getD
  rw [atKey_put_other (by intro e; injection e with e; exact h e)]
theorem getD_del (D : Dt) (k : Str) : getD (D.del (.string k)) k = Th.no := by
  unfold getD
  rw [atKey_del_same, thOf_thD]
theorem getD_del_ne (D : Dt) (k k' : Str) (h : k' ≠ k) : getD (D.del (.string k)) k' = getD D k' := by
  unfold getD
  rw [atKey_del_other (by intro e; injection e with e; exact h e)]
theorem has_of_kind (D : Dt) (k : Str) (h : (getD D k).kind ≠ 0) : has D (.string k) = true := by
  cases hh : has D (.string k)
  · exfalso
    apply h
    unfold getD
    rw [atKey_of_not_has hh]
    rfl
  · rfl

theorem keyLaw : Keyed Tryd.prog 9 := string_keyed Tryd.underlying9
theorem keyOf_str (k : Str) (h : k.length ≤ 9223372036854775807) : keyOf Tryd.prog 9 (str k) = some (.string k) :=
  WideMaps.keyOf_string_mk Tryd.underlying9 (by simpa [maxLen, ByteArray.size] using h)

/-- What a store holds, and how many files were put. -/
structure St where
  d : Dt
  puts : Nat
/-! A way. -/
def wayF (D : Dt) : Nat → Str → Nat → List Str → Str × Int
  | _, at_, _, [] => (at_, 0)
  | 0, _, _, _ :: _ => ([], -1)
  | f + 1, at_, links, p :: ps =>
    if p = dots then wayF D f (above at_) links ps
    else
      let t := getD D (below at_ p)
      if t.kind = 0 then ([], 31)
      else if t.kind = 3 then
        if links = 8 then ([], 35)
        else wayF D f (if isAbs t.text then rootS else at_) (links + 1) ((partsOf t.text).getD [] ++ ps)
      else if t.kind = 1 ∧ ps ≠ [] then ([], 34)
      else wayF D f (below at_ p) links ps
def way (D : Dt) (ps : List Str) : Str × Int := wayF D 2000 rootS 0 ps
end Go.Proofs.YtkpmfahmhmdccaaDoor.Fil
