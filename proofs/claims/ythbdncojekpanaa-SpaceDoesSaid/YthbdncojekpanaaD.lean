/-
  The reading functions of a space: end, gap, free, reach, isStart.
-/
import Derived.Test.YthbdncojekpanaaC
import Derived.Deep.RegionHeld3
namespace Go.Proofs.Ythbdncojekpanaa
open Go.RowKit

theorem end_any (b o : Nat) (a s : Int) (w : World) (h0 : w.cell? ⟨b, o, none⟩ = some (.int .i64 a)) (h1 : w.cell? ⟨b, o + 1, none⟩ = some (.int .i64 s)) (hw : I64 (a + s)) :
    Calls Try.prog 60 #[.pointer (some ⟨b, o, none⟩)] w fun e w' => e = .returned (.int .i64 (a + s)) ∧ Below w.heap.size w w' := by
  have e1 : wrap64 (a + s) = a + s := IntWalk.wrap64_in _ (by have := hw.1; have := hw.2; omega)
  have e2 : IntKind.i64.wrap (a + s) = a + s := by rw [IntKind.wrap_i64]; have := hw.1; have := hw.2; omega
  clear hw
  go_enter Try.func60, Try.ntmps60
  go_wp2_with fail
  first | (go_region_with (fail)) | fail
  all_goals
    go_wp2_with fail
    go_ret
    exact ⟨by first | rfl | simp [*], below_drew (Below.refl _ _)⟩

/-- A range within the limits. -/
def startB (a n : Int) : Bool := decide (a % 64 = 0) && (decide (4096 ≤ a) && decide (a ≤ 4294967296 - n))
theorem tmod64 (a : Int) : (a.tmod 64 == 0) = decide (a % 64 = 0) := by
  rw [Bool.eq_iff_iff]
  simp only [beq_iff_eq, decide_eq_true_eq]
  constructor
  · intro h
    exact Int.emod_eq_zero_of_dvd (Int.dvd_of_tmod_eq_zero h)
  · intro h
    exact Int.tmod_eq_zero_of_dvd (Int.dvd_of_emod_eq_zero h)
theorem isStart_any (a n : Int) (hn : 1 ≤ n ∧ n ≤ 1048576) (w : World) : Calls Try.prog 55 #[.int .i64 a, .int .i64 n] w fun e w' => e = .returned (.bool (startB a n)) ∧ w = w' := by
  have e1 : wrap64 (4294967296 - n) = 4294967296 - n := IntWalk.wrap64_in _ (by omega)
  have ht := tmod64 a
  have HR := Lib.hid (show startB a n = (decide (a % 64 = 0) && (decide (4096 ≤ a) && decide (a ≤ 4294967296 - n))) from rfl)
  generalize startB a n = R at *
  by_cases h0 : a % 64 = 0
  · rw [decide_eq_true h0] at ht HR
    by_cases h1 : 4096 ≤ a
    · rw [decide_eq_true h1] at HR
      by_cases h2 : a ≤ 4294967296 - n
      · rw [decide_eq_true h2] at HR
        go_enter Try.func55, Try.ntmps55
        go_wp2_with fail
        go_ret
        exact ⟨by rw [HR.out]; rfl, rfl⟩
      · rw [decide_eq_false h2] at HR
        go_enter Try.func55, Try.ntmps55
        go_wp2_with fail
        go_ret
        exact ⟨by rw [HR.out]; rfl, rfl⟩
    · rw [decide_eq_false h1] at HR
      go_enter Try.func55, Try.ntmps55
      go_wp2_with fail
      go_ret
      exact ⟨by rw [HR.out]; rfl, rfl⟩
  · rw [decide_eq_false h0] at ht HR
    go_enter Try.func55, Try.ntmps55
    go_wp2_with fail
    go_ret
    exact ⟨by rw [HR.out]; rfl, rfl⟩

/-- The least address from a on where so many bytes are free. -/
def gapFrom (n : Int) : Int → List Raw → Option Int
  | a, [] => if a + n ≤ 4294967296 then some a else none
  | a, r :: rs => if a + n ≤ r.b.at_ then some a else gapFrom n (r.b.at_ + r.b.size) rs
/-- Within the limits, each. -/
def In (rs : List Raw) : Prop := ∀ r ∈ rs, 4096 ≤ r.b.at_ ∧ 0 ≤ r.b.size ∧ r.b.at_ + r.b.size ≤ 4294967296
theorem gapFrom_cons (n a : Int) (rs : List Raw) (k : Nat) (hk : k < rs.length) : gapFrom n a (rs.drop k) = if a + n ≤ rs[k].b.at_ then some a else gapFrom n (rs[k].b.at_ + rs[k].b.size) (rs.drop (k + 1)) := by
  rw [List.drop_eq_getElem_cons hk, gapFrom]
theorem gapFrom_nil (n a : Int) (rs : List Raw) (k : Nat) (hk : rs.length ≤ k) : gapFrom n a (rs.drop k) = if a + n ≤ 4294967296 then some a else none := by
  rw [List.drop_of_length_le hk, gapFrom]
def Gapped (w : World) (r : Option Int) (e : Ending) (w' : World) : Prop :=
  Below w.heap.size w w' ∧ e = .returned (match r with
    | some a => .tuple #[.int .i64 a, .int .i64 0]
    | none => .tuple #[.int .i64 0, .int .i64 3])

set_option maxRecDepth 100000 in
set_option maxHeartbeats 2000000 in
theorem gap_any (A : Option Addr) (n c g : Nat) (rs : List Raw) (s : Int) (hs : 1 ≤ s ∧ s ≤ 1048576) (w : World) (hc : w.cell? ⟨g, 0, none⟩ = some (.slice A n c)) (h : Bls w A n c rs) (hin : In rs) (hn : n ≤ 1152921504606846976) :
    Calls Try.prog 35 #[.pointer (some ⟨g, 0, none⟩), .int .i64 s] w (Gapped w (gapFrom s 4096 rs)) := by
  have H := Lib.hid h
  have hl := h.len
  have HIN := Lib.hid hin
  clear h hin
  generalize hG : gapFrom s 4096 rs = G
  have HG := Lib.hid hG
  clear hG
  go_enter Try.func35, Try.ntmps35
  go_wp2_with fail
  go_loopw [6, 14] (fun t6 t14 wr => ∃ (k : Nat) (a : Int), k ≤ n ∧ t14 = .int .i64 k ∧ t6 = .int .i64 a ∧ 4096 ≤ a ∧ a ≤ 4294967296 ∧ G = gapFrom s a (rs.drop k) ∧ Below w.heap.size w wr) (fun _ t14 _ => n - (intOf t14).toNat)
  case atStart => exact ⟨0, 4096, Nat.zero_le _, rfl, rfl, by omega, by omega, HG.out.symm, Below.refl _ _⟩
  case round =>
    obtain ⟨k, a, hk, rfl, rfl, ha1, ha2, hGa, hb⟩ := hrel
    have HGA := Lib.hid hGa
    have HB := Lib.hid hb
    clear hGa hb
    have e1 : wrap64 (a + s) = a + s := IntWalk.wrap64_in _ (by omega)
    by_cases hlt : k < n
    · have hkr : k < rs.length := by omega
      obtain ⟨ad, rfl⟩ : ∃ ad, A = some ad := by
        cases A with
        | none => have := (H.out.nil rfl).1; omega
        | some ad => exact ⟨ad, rfl⟩
      obtain ⟨b, o, rfl⟩ := H.out.plain ad rfl
      obtain ⟨c0, c1, c2, c3⟩ := (H.out.below HB.out).at_ b o k rfl hkr
      obtain ⟨i1, i2, i3⟩ := HIN.out rs[k] (List.getElem_mem hkr)
      have HGC := Lib.hid (gapFrom_cons s a rs k hkr)
      generalize hpm : rs[k].b.perm = p0 at *
      generalize hA0 : rs[k].A = A0 at *
      generalize hl0 : rs[k].b.bytes.length = l0 at *
      generalize hcc : rs[k].c = cc at *
      generalize rs[k].b.size = s0 at *
      generalize rs[k].b.at_ = a0 at *
      have HX := Lib.hid (Bx.new wr #[.int .i64 a0, .int .i64 s0, .int .i64 p0, .slice A0 l0 cc] 69)
      have HBA := Lib.hid (HB.out.alloc HB.out.size (.cells #[.int .i64 a0, .int .i64 s0, .int .i64 p0, .slice A0 l0 cc] 69))
      have HEN := Lib.hid (fun w1 h0 h1 => end_any wr.heap.size 0 a0 s0 w1 h0 h1 ⟨by omega, by omega⟩)
      clear hpm hA0 hl0 hcc
      by_cases hfit : a + s ≤ a0
      · have HF := Lib.hid (show G = some a by rw [HGA.out, HGC.out, if_pos hfit])
        clear HGA HGC HEN HX
        go_wp2_with fail
        go_ret2
        rw [HF.out]
        exact ⟨HBA.out, rfl⟩
      · have HF := Lib.hid (show G = gapFrom s (a0 + s0) (rs.drop (k + 1)) by rw [HGA.out, HGC.out, if_neg hfit])
        clear HGA HGC
        go_wp2_with fail
        refine (HEN.out _ (HX.out.c 0) (HX.out.c 1)).mono ?_
        rintro e w1 ⟨rfl, hb1⟩
        have HB1 := Lib.hid (HBA.out.trans (hb1.mono HBA.out.size))
        clear hb1 HEN HX HBA c0 c1 c2 c3
        go_wp2_with fail
        exact ⟨⟨k + 1, a0 + s0, by omega, by go_num, rfl, by omega, by omega, HF.out, HB1.out⟩, by simp [intOf]; omega⟩
    · have HGC := Lib.hid (gapFrom_nil s a rs k (by omega))
      by_cases hfit : a + s ≤ 4294967296
      · have HF := Lib.hid (show G = some a by rw [HGA.out, HGC.out, if_pos hfit])
        clear HGA HGC
        go_wp2_with fail
        go_ret2
        rw [HF.out]
        exact ⟨HB.out, rfl⟩
      · have HF := Lib.hid (show G = none by rw [HGA.out, HGC.out, if_neg hfit])
        clear HGA HGC
        go_wp2_with fail
        go_ret2
        rw [HF.out]
        exact ⟨HB.out, rfl⟩
end Go.Proofs.Ythbdncojekpanaa
