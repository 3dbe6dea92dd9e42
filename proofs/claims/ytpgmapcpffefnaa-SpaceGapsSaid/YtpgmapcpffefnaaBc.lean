/-
  The law of what is written and read, walked.
-/
import Derived.Test.YtpgmapcpffefnaaBs
import Derived.Test.YtpgmapcpffefnaaBt
import Derived.Laws.IdiomStrings
namespace Go.Proofs.Ytpgmapcpffefnaa
open Go.RowKit

abbrev str (l : Str) : Value := .string ⟨l.toArray⟩
theorem conv_string {w : World} {P : Nat → Prop} {A : Option Addr} {n c : Nat} {l : Str} (h : Src w P A n c (cells l)) : (convert 31 9 (.slice A n c)).run Try.prog w = .ok (str l) w := by
  have hl : l.length = n := by have := h.len; simpa [cells_len] using this
  subst hl
  cases A with
  | none =>
    have h0 := (h.nil rfl).1
    have : l = [] := List.eq_nil_of_length_eq_zero h0
    subst this
    exact run_convert_bytes_nil w 31 5 Try.underlying31 Try.underlying5 _ _ 9 Try.underlying9
  | some a =>
    exact run_convert_bytes_back w 31 9 5 a c l Try.underlying31 Try.underlying5 Try.underlying9 fun j hj => h.at_ a rfl j _ (by simp [cells, hj])
theorem put_hold (ss : List Seg) (a : Int) (ms : Str) (x n : Int) : holdS (putS ss a ms) x n = (holdS ss x n).map fun s => if inS a ms.length s = true then ⟨s.at_, s.size, s.perm, over s.f (a - s.at_).toNat ms⟩ else s := by
  unfold holdS putS
  rw [find_map]
  congr 2
  funext s
  split <;> rfl
theorem put_goes (ss : List Seg) (a : Int) (ms : Str) (x n need : Int) : goesS (putS ss a ms) x n need = goesS ss x n need := by
  unfold goesS
  rw [put_hold]
  cases holdS ss x n with
  | none => rfl
  | some s =>
    simp only [Option.map_some]
    split
    · rfl
    · split <;> rfl
theorem goes_hold {ss : List Seg} {a n need : Int} (h : goesS ss a n need = 0) : ∃ s, holdS ss a n = some s := by
  unfold goesS at h
  split at h
  · cases h
  · cases hh : holdS ss a n with
    | none => rw [hh] at h; cases h
    | some s => exact ⟨s, rfl⟩
theorem put_got {ss : List Seg} {a need : Int} {ms : Str} (h : goesS ss a ms.length need = 0) : gotS (putS ss a ms) a ms.length = ms := by
  obtain ⟨s, hs⟩ := goes_hold h
  obtain ⟨_, h1, h2⟩ := hold_in hs
  unfold gotS
  rw [put_hold, hs]
  simp only [Option.map_some]
  rw [if_pos (show inS a ms.length s = true by unfold inS; simpa using ⟨h1, h2⟩)]
  apply List.ext_getElem
  · simp
  · intro j h3 h4
    simp only [List.getElem_map, List.getElem_range]
    unfold over
    rw [if_pos (by omega), List.getD_eq_getElem?_getD, show (a - s.at_).toNat + j - (a - s.at_).toNat = j by omega, List.getElem?_eq_getElem h4]
    rfl
theorem put_other {ss : List Seg} {a x : Int} {ms : Str} (h : ¬ (a ≤ x ∧ x - a < ms.length)) : gotS (putS ss a ms) x 1 = gotS ss x 1 := by
  unfold gotS
  rw [put_hold]
  cases hs : holdS ss x 1 with
  | none => rfl
  | some s =>
    obtain ⟨_, h1, h2⟩ := hold_in hs
    simp only [Option.map_some]
    split
    · rename_i hin
      unfold inS at hin
      simp only [decide_eq_true_eq] at hin
      have e1 : (List.range (1 : Int).toNat) = [0] := rfl
      rw [e1]
      simp only [List.map_cons, List.map_nil]
      unfold over
      rw [if_neg (by omega)]
    · rfl
theorem goes_near {ss : List Seg} (hg : Good ss) {a n need : Int} (h : goesS ss a n need = 0) : 4096 ≤ a ∧ a ≤ 4294967296 := by
  obtain ⟨s, hs⟩ := goes_hold h
  obtain ⟨h0, h1, h2⟩ := hold_in hs
  have := hg.fit s h0
  have := (goes_len h).1
  omega
theorem Src.on {w w' : World} {P : Nat → Prop} {A : Option Addr} {n c : Nat} {xs : List Value} (h : Src w P A n c xs) (hb : Below w.heap.size w w') : Src w' (fun k => k < w'.heap.size) A n c xs := (h.lt.below hb (fun _ h => h)).lt
/-- What a read yields. -/
def readS (ss : List Seg) (a n need : Int) : Str := if goesS ss a n need = 0 then gotS ss a n else []
theorem Wq.took {w0 w : World} {g : Nat} {ss : List Seg} {Q : Nat → Prop} (h : Wq w0 w g ss Q) {f : Nat} {args : Array Value} {a n need : Int} (hc : ∀ F, Lies w w0.heap.size g F ss → Calls Try.prog f args w (TookS w ss a n need)) :
    Calls Try.prog f args w fun e w' => ∃ A c, e = .returned (.tuple #[.slice A (readS ss a n need).length c, .int .i64 (goesS ss a n need)]) ∧ Src w' (fun k => row A = some k) A (readS ss a n need).length c (cells (readS ss a n need)) ∧ Wq w0 w' g ss (fun k => Q k ∨ row A = some k) ∧ Below w.heap.size w w' := by
  obtain ⟨F, hl, _⟩ := h.2
  refine (hc F hl).mono fun e w' ⟨hb, A, l, c, h1, h2, h3⟩ => ?_
  subst h2
  refine ⟨A, c, h1, (Src.of_own h3).weak fun k hk => by rw [row_own] at hk; exact hk.1, (h.quiet hb).weak fun k hk => hk.imp id fun e => h3.lt k (by rw [row_own]; exact e), hb⟩
set_option maxRecDepth 100000 in
set_option maxHeartbeats 4000000 in
theorem keeps_any (A0 : Option Addr) (n0 c0 : Nat) (xs : List Ac) (a : Int) (b : Str) (x : Int) (A2 : Option Addr) (c2 : Nat) (ha : I64 a) (hx : I64 x) (w : World) (h : Acs w (fun k => k < w.heap.size) A0 n0 c0 xs) (hs : Src w (fun k => k < w.heap.size) A2 b.length c2 (cells b)) (hn : n0 ≤ 140737488351232) :
    Calls Try.prog 6 #[.slice A0 n0 c0, .int .i64 a, .slice A2 b.length c2, .int .i64 x] w fun e w' => e = .returned (.bool true) ∧ Below w.heap.size w w' := by
  have HX := Lib.hid h
  have HS := Lib.hid hs
  have HA := Lib.hid ha
  have HXX := Lib.hid hx
  clear h hs ha hx
  go_enter Try.func6, Try.ntmps6
  go_wp2_with fail
  refine (awake_any w).mono ?_
  rintro e w1 ⟨rfl, hb⟩
  have HP := Lib.hid (played_any A0 n0 c0 xs w w1 hb HX.out hn)
  clear hb
  go_wp2_with fail
  refine HP.out.mono ?_
  rintro e w2 ⟨g, rfl, h2⟩
  have hg := good_play xs good_nil
  have HG := Lib.hid hg
  have HR := Lib.hid (h2.q.took fun F hl => Peek_s (a := x) 1 HXX.out hl)
  generalize playS [] xs = ss at *
  clear HP h2 hg
  go_wp2_with fail
  refine HR.out.mono ?_
  rintro e w3 ⟨A3, c3, rfl, hs3, h3, _⟩
  have C := Lib.hid (h3.act fun F hl hq => Poke_s (a := a) (P := fun k => k < w.heap.size) HA.out hl (HS.out.below h3.1 (fun _ h => h)) fun q hq' => ⟨fun hf => by have := (hl.lt hf).1; omega, Nat.lt_of_lt_of_le hq' h3.1.size⟩)
  have HS3 := Lib.hid hs3
  clear HR h3 hs3
  by_cases hp : goesS ss a b.length 0 = 0
  · have hst : storeS ss a b 0 = (0, putS ss a b) := by unfold storeS; rw [if_pos hp]
    rw [hst] at C
    clear hst
    simp only at C
    go_wp2_with fail
    refine C.out.mono ?_
    rintro e w4 ⟨rfl, h4, hk4⟩
    have HS4 := Lib.hid (HS3.out.keep fun k hk _ => hk4 k (.inr hk))
    have HR := Lib.hid (h4.took fun F hl => Peek_s (a := a) b.length HA.out hl)
    have hrd : readS (putS ss a b) a b.length 0 = b := by unfold readS; rw [put_goes, if_pos hp, put_got hp]
    rw [hrd, put_goes, hp] at HR
    clear C h4 hk4 hrd
    go_wp2_with fail
    refine HR.out.mono ?_
    rintro e w5 ⟨A5, c5, rfl, hs5, h5, hb5⟩
    have HS5 := Lib.hid hs5
    have HS4' := Lib.hid (HS4.out.on hb5)
    have HR2 := Lib.hid (h5.took fun F hl => Peek_s (a := x) 1 HXX.out hl)
    rw [put_goes] at HR2
    clear HR hs5 h5 hb5
    have HRD := Lib.hid (show goesS ss x 1 0 = 0 → ¬ (a ≤ x ∧ x - a < b.length) → readS (putS ss a b) x 1 0 = readS ss x 1 0 from fun h0 h1 => by
      unfold readS
      rw [put_goes, if_pos h0, put_other h1, if_pos h0])
    have HNX := Lib.hid (fun h0 => goes_near (need := 0) (n := 1) (a := x) HG.out h0)
    have hna := goes_near HG.out hp
    generalize readS (putS ss a b) x 1 0 = bs1 at *
    generalize readS ss x 1 0 = bs0 at *
    generalize goesS ss x 1 0 = E at *
    clear hp
    go_wp2_with fail
    refine HR2.out.mono ?_
    rintro e w6 ⟨A6, c6, rfl, hs6, h6, hb6⟩
    have cv0 := conv_string (HS4'.out.on hb6)
    have cv1 := conv_string (HS5.out.on hb6)
    have cv2 := conv_string hs6
    have cv3 := conv_string (HS.out.below h6.1 (fun _ h => h))
    have HE := Lib.hid h6.1
    clear HR2 hs6 h6 hb6 HS4 HS5 HS4'
    by_cases hE : E = 0
    · have hnx := HNX.out hE
      have e1 : wrap64 (x - a) = x - a := IntWalk.wrap64_in _ (by omega)
      have HRE := Lib.hid (HRD.out hE)
      subst hE
      clear HRD HNX
      by_cases hax : a ≤ x
      · by_cases hd : x - a < b.length
        · go_wp2_with fail
          first | go_ret | skip
          exact ⟨rfl, HE.out⟩
        · have hrr := HRE.out fun h => hd h.2
          subst hrr
          clear HRE
          go_wp2_with fail
          first | go_ret | skip
          exact ⟨by simp, HE.out⟩
      · have hrr := HRE.out fun h => hax h.1
        subst hrr
        clear HRE
        go_wp2_with fail
        first | go_ret | skip
        exact ⟨by simp, HE.out⟩
    · have b1 : (E == 0) = false := by simpa using hE
      have b2 : (E != 0) = true := by simpa using hE
      clear HRD HNX
      go_wp2_with fail
      first | go_ret | skip
      exact ⟨rfl, HE.out⟩
  · have hst : (storeS ss a b 0).1 = goesS ss a b.length 0 := by unfold storeS; rw [if_neg hp]
    rw [hst] at C
    generalize goesS ss a b.length 0 = E at *
    have b1 : (E == 0) = false := by simpa using hp
    have b2 : (E != 0) = true := by simpa using hp
    clear hst
    go_wp2_with fail
    refine C.out.mono ?_
    rintro e w4 ⟨rfl, h4, _⟩
    have HE := Lib.hid h4.1
    clear h4 C
    go_wp2_with fail
    first | go_ret | skip
    exact ⟨rfl, HE.out⟩
end Go.Proofs.Ytpgmapcpffefnaa
