/-
  Symbols in memory, one behind the other; whether some of them have versions: the program's answer and the document's.
-/
import Derived.Test.YtpcgedngikpnoaaYC
namespace Go.Proofs.Ytpcgedngikpnoaa
set_option maxRecDepth 100000
set_option linter.unusedSimpArgs false
set_option linter.unusedVariables false
open Go.RowKit

theorem plainAdd (b o k : Nat) : (⟨b, o, none⟩ : Addr).add k = ⟨b, o + k, none⟩ := by unfold Addr.add; split <;> simp_all
/-- Symbols in memory. -/
structure Syl (w : World) (P : Nat → Prop) (A : Option Addr) (n c : Nat) (ss : List Sym) : Prop where
  len : ss.length = n
  nil : A = none → n = 0 ∧ c = 0
  cap : n ≤ c
  blk : ∀ ad, A = some ad → 0 < n → P ad.block
  at_ : ∀ ad, A = some ad → ∀ k (hk : k < ss.length) j u, (symA ss[k])[j]? = some u → w.cell? (ad.add (k * 9 + j)) = some u
section
variable {w w' : World} {P Q : Nat → Prop} {A : Option Addr} {n c : Nat} {ss : List Sym}
theorem Syl.keep (h : Syl w P A n c ss) (hk : ∀ k, P k → k < w.heap.size → w'.heap[k]? = w.heap[k]?) : Syl w' P A n c ss :=
  ⟨h.len, h.nil, h.cap, h.blk, fun ad hA k hk' j u hu => by
    have h0 := h.at_ ad hA k hk' j u hu
    have hb := h.blk ad hA (by rw [← h.len]; omega)
    have hh := World.block_lt_of_cell? w _ h0
    rw [addBlock] at hh
    exact (World.cell?_of_block (w := w) (w' := w') (by rw [addBlock]; exact hk _ hb hh)).trans h0⟩
theorem Syl.below {B : Nat} (h : Syl w P A n c ss) (hb : Below B w w') (hP : ∀ k, P k → k < B) : Syl w' P A n c ss :=
  h.keep fun k hk _ => hb.block k (hP k hk)
theorem Syl.plain {ad : Addr} (h : Syl w P (some ad) n c ss) (h0 : 0 < n) : ∃ b o, ad = ⟨b, o, none⟩ := by
  obtain ⟨b, o, spot⟩ := ad
  have hs : spot = none := by
    have h0 := World.cell?_spot (h.at_ _ rfl 0 (by rw [h.len]; exact h0) 0 _ rfl)
    simpa [Addr.add] using h0
  subst hs
  exact ⟨b, o, rfl⟩
theorem Syl.get {b o : Nat} (h : Syl w P (some ⟨b, o, none⟩) n c ss) (k : Nat) (hk : k < ss.length) :
    w.cell? ⟨b, o + k * 9, none⟩ = some (str ss[k].name) ∧ w.cell? ⟨b, o + k * 9 + 1, none⟩ = some (str ss[k].ver) ∧ w.cell? ⟨b, o + k * 9 + 2, none⟩ = some (.bool ss[k].old) ∧ w.cell? ⟨b, o + k * 9 + 3, none⟩ = some (.int .i64 ss[k].kind) ∧
    w.cell? ⟨b, o + k * 9 + 4, none⟩ = some (.bool ss[k].weak) ∧ w.cell? ⟨b, o + k * 9 + 5, none⟩ = some (.int .i64 ss[k].vis) ∧ w.cell? ⟨b, o + k * 9 + 6, none⟩ = some (.bool ss[k].dfd) ∧ w.cell? ⟨b, o + k * 9 + 7, none⟩ = some (.int .i64 ss[k].val) ∧ w.cell? ⟨b, o + k * 9 + 8, none⟩ = some (.int .i64 ss[k].size) := by
  have := fun j u => h.at_ _ rfl k hk j u
  simp only [plainAdd] at this
  exact ⟨this 0 _ rfl, by simpa only [Nat.add_assoc] using this 1 (str ss[k].ver) rfl, by simpa only [Nat.add_assoc] using this 2 (.bool ss[k].old) rfl, by simpa only [Nat.add_assoc] using this 3 (.int .i64 ss[k].kind) rfl, by simpa only [Nat.add_assoc] using this 4 (.bool ss[k].weak) rfl, by simpa only [Nat.add_assoc] using this 5 (.int .i64 ss[k].vis) rfl, by simpa only [Nat.add_assoc] using this 6 (.bool ss[k].dfd) rfl, by simpa only [Nat.add_assoc] using this 7 (.int .i64 ss[k].val) rfl, by simpa only [Nat.add_assoc] using this 8 (.int .i64 ss[k].size) rfl⟩
end

def vdB (s : Sym) : Bool := s.dfd && hasB s
theorem any_take {ss : List Sym} {k : Nat} (hk : k < ss.length) (h : (ss.take k).any vdB = false) : (ss.take (k + 1)).any vdB = vdB ss[k] := by
  rw [List.take_succ_eq_append_getElem hk, List.any_append, h]
  simp
theorem any_yes {ss : List Sym} {k : Nat} (hk : k < ss.length) (h : vdB ss[k] = true) : ss.any vdB = true := by
  rw [List.any_eq_true]
  exact ⟨_, List.getElem_mem hk, h⟩

set_option maxHeartbeats 2000000 in
theorem versioned_any (A : Option Addr) (n c : Nat) (ss : List Sym) (w : World) (h : Syl w (fun k => k < w.heap.size) A n c ss) (hn : n ≤ 1000000000000000000) :
    Calls Try.prog 47 #[.slice A n c] w fun e w' => e = .returned (.bool (ss.any vdB)) ∧ Below w.heap.size w w' := by
  have H := Lib.hid h
  have hl := h.len
  clear h
  generalize hR : ss.any vdB = R
  have HR := Lib.hid hR
  clear hR
  go_enter Try.func47, Try.ntmps47
  go_wp2_with fail
  go_loopw [7] (fun t wr => ∃ k : Nat, k ≤ n ∧ t = .int .i64 k ∧ Below w.heap.size w wr ∧ (ss.take k).any vdB = false) (fun t _ => n - (intOf t).toNat)
  case atStart => exact ⟨0, Nat.zero_le _, rfl, Below.refl _ _, rfl⟩
  case round =>
    obtain ⟨k, hk, rfl, hb, hall⟩ := hrel
    have HB := Lib.hid hb
    have HA := Lib.hid hall
    clear hb hall
    by_cases hkn : k < n
    · have hki : k < ss.length := by omega
      cases A with
      | none => have := (H.out.nil rfl).1; omega
      | some ad =>
        obtain ⟨b, o, rfl⟩ := H.out.plain (by omega)
        obtain ⟨c0, c1, c2, c3, c4, c5, c6, c7, c8⟩ := (H.out.below HB.out (fun _ h => h)).get k hki
        have HTK := Lib.hid (any_take hki HA.out)
        have HYE := Lib.hid (fun h => HR.out.symm.trans (any_yes hki h))
        generalize ss[k] = s at *
        obtain ⟨nm, vr, od, kd, wk, vs, df, vl, sz⟩ := s
        simp only at c0 c1 c2 c3 c4 c5 c6 c7 c8
        cases df
        · have HV := Lib.hid (HTK.out.trans (show vdB ⟨nm, vr, od, kd, wk, vs, false, vl, sz⟩ = false by simp [vdB]))
          have HBX := Lib.hid (HB.out.alloc HB.out.size (.cells (symA ⟨nm, vr, od, kd, wk, vs, false, vl, sz⟩) 25))
          have HSX := Lib.hid (Sx.new wr ⟨nm, vr, od, kd, wk, vs, false, vl, sz⟩)
          obtain ⟨x0, x1, x2, x3, x4, x5, x6, x7, x8⟩ := HSX.out.cells
          go_wp2_with fail
          exact ⟨⟨k + 1, by omega, by go_num, HBX.out, HV.out⟩, by simp [intOf]; omega⟩
        · have HBX := Lib.hid (HB.out.alloc HB.out.size (.cells (symA ⟨nm, vr, od, kd, wk, vs, true, vl, sz⟩) 25))
          have HSX := Lib.hid (Sx.new wr ⟨nm, vr, od, kd, wk, vs, true, vl, sz⟩)
          obtain ⟨x0, x1, x2, x3, x4, x5, x6, x7, x8⟩ := HSX.out.cells
          have HH := Lib.hid (has_any ⟨nm, vr, od, kd, wk, vs, true, vl, sz⟩ (wr.alloc (.cells (symA ⟨nm, vr, od, kd, wk, vs, true, vl, sz⟩) 25)))
          have he : vdB ⟨nm, vr, od, kd, wk, vs, true, vl, sz⟩ = hasB ⟨nm, vr, od, kd, wk, vs, true, vl, sz⟩ := by simp [vdB]
          rw [he] at HTK HYE
          clear he
          cases hh : hasB ⟨nm, vr, od, kd, wk, vs, true, vl, sz⟩
          · rw [hh] at HTK HH
            clear hh HYE
            go_wp2_with fail
            refine HH.out.mono ?_
            rintro e w2 ⟨rfl, hb2⟩
            have HB2 := Lib.hid (HBX.out.trans (hb2.mono HBX.out.size))
            clear hb2
            go_wp2_with fail
            exact ⟨⟨k + 1, by omega, by go_num, HB2.out, HTK.out⟩, by simp [intOf]; omega⟩
          · have HRT := Lib.hid (HYE.out hh)
            rw [hh] at HH
            clear hh HYE HTK
            go_wp2_with fail
            refine HH.out.mono ?_
            rintro e w2 ⟨rfl, hb2⟩
            have HB2 := Lib.hid (HBX.out.trans (hb2.mono HBX.out.size))
            clear hb2
            go_wp2_with fail
            go_ret
            exact ⟨by rw [HRT.out]; rfl, HB2.out⟩
    · obtain rfl : k = n := by omega
      have HRF := Lib.hid (show R = false by rw [← HR.out]; have := HA.out; rwa [List.take_of_length_le (by omega)] at this)
      go_wp2_with fail
      go_ret
      exact ⟨by rw [HRF.out]; rfl, HB.out⟩

def cntB (ss : List Sym) : Nat := (ss.filter vdB).length
theorem cnt_take {ss : List Sym} {k : Nat} (hk : k < ss.length) : cntB (ss.take (k + 1)) = cntB (ss.take k) + (if vdB ss[k] then 1 else 0) := by
  unfold cntB
  rw [List.take_succ_eq_append_getElem hk, List.filter_append, List.length_append]
  cases h : vdB ss[k] <;> simp [h]
theorem cnt_le (ss : List Sym) (k : Nat) : cntB (ss.take k) ≤ k := by
  unfold cntB
  exact Nat.le_trans (List.length_filter_le _ _) (by simp; omega)
theorem cnt_any (ss : List Sym) : decide (0 < cntB ss) = ss.any vdB := by
  rw [Bool.eq_iff_iff, List.any_eq_true, decide_eq_true_eq]
  unfold cntB
  constructor
  · intro h
    have h' : 0 < (ss.filter vdB).length := h
    obtain ⟨x, hx⟩ := List.exists_mem_of_length_pos h'
    exact ⟨x, (List.mem_filter.1 hx).1, (List.mem_filter.1 hx).2⟩
  · rintro ⟨x, hx, hv⟩
    have : 0 < (ss.filter vdB).length := List.length_pos_of_mem (List.mem_filter.2 ⟨hx, hv⟩)
    omega
set_option maxHeartbeats 2000000 in
theorem rversioned_any (A : Option Addr) (n c : Nat) (ss : List Sym) (w : World) (h : Syl w (fun k => k < w.heap.size) A n c ss) (hn : n ≤ 1000000000000000000) :
    Calls Try.prog 40 #[.slice A n c] w fun e w' => e = .returned (.bool (ss.any vdB)) ∧ w = w' := by
  have H := Lib.hid h
  have hl := h.len
  have HR := Lib.hid (cnt_any ss)
  generalize ss.any vdB = R at *
  clear h
  go_enter Try.func40, Try.ntmps40
  go_wp2_with fail
  go_loop [3, 4] (fun m t => ∃ k : Nat, k ≤ n ∧ t = .int .i64 k ∧ m = .int .i64 (cntB (ss.take k) : Nat)) (fun _ t => n - (intOf t).toNat)
  case atStart => exact ⟨0, Nat.zero_le _, rfl, rfl⟩
  case round =>
    obtain ⟨k, hk, rfl, rfl⟩ := hrel
    by_cases hkn : k < n
    · have hki : k < ss.length := by omega
      cases A with
      | none => have := (H.out.nil rfl).1; omega
      | some ad =>
        obtain ⟨b, o, rfl⟩ := H.out.plain (by omega)
        obtain ⟨c0, c1, c2, c3, c4, c5, c6, c7, c8⟩ := H.out.get k hki
        have HTK := Lib.hid (cnt_take hki)
        have hle := cnt_le ss k
        have hv : vdB ss[k] = (ss[k].dfd && !ss[k].ver.isEmpty) := rfl
        generalize ss[k] = s at *
        obtain ⟨nm, vr, od, kd, wk, vs, df, vl, sz⟩ := s
        simp only at c0 c1 c2 c3 c4 c5 c6 c7 c8 hv
        rw [hv] at HTK
        clear hv
        cases df
        · go_wp2_with fail
          go_round
          case rel => exact ⟨k + 1, by omega, by go_num, by rw [HTK.out]; rfl⟩
          case measure => simp [intOf]; omega
        · cases hve : vr.isEmpty
          · rw [hve] at HTK
            go_wp2_with fail
            go_round
            case rel => exact ⟨k + 1, by omega, by go_num, by rw [HTK.out]; rfl⟩
            case measure => simp [intOf]; omega
          · rw [hve] at HTK
            go_wp2_with fail
            go_round
            case rel => exact ⟨k + 1, by omega, by go_num, by rw [HTK.out]; rfl⟩
            case measure => simp [intOf]; omega
    · obtain rfl : k = n := by omega
      rw [List.take_of_length_le (by omega)]
      go_wp2_with fail
      go_ret
      exact ⟨ret_bool (by rw [← HR.out]), rfl⟩
end Go.Proofs.Ytpcgedngikpnoaa
