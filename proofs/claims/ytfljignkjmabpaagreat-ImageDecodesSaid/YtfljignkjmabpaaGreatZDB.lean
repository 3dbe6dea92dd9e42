/- A part of the proof. -/
import Derived.Test.YtfljignkjmabpaaGreatZRC
set_option linter.unusedSimpArgs false
set_option linter.unusedVariables false
namespace Go.Proofs.YtfljignkjmabpaaGreat
set_option maxRecDepth 100000
open Go.RowKit
set_option maxHeartbeats 2000000 in
theorem dwords_any (B g : Nat) (s : St) (w : World) (h : Rq w B g s) :
  Calls Tryz.prog 60 #[.pointer (some ⟨g, 0, none⟩)] w fun e w' => ∃ A c, ∃ L : List Str, e = .returned (.slice A L.length c) ∧ w'.ownsRow w.heap.size 9 1 (.slice A L.length c) L.length (strs L) ∧
   Rq w' B g (rdTx s).2.2 ∧ ((rdTx s).2.2.1 = 0 → L = (rdTx s).1) ∧ w.grownBy w' (some g) := by
 obtain ⟨i0, hi0, hz0, hz1, hz2⟩ := info_parts (show (Tryz.prog.info? 9).map (fun i => (i.zero, i.size, i.bytes)) = some (some (.string ⟨#[]⟩), 1, 16) by kernel_rfl)
 have HN0 := hD (rnum_d h 1)
 have HG := hD h.lt
 have HLE0 := hD h.le
 have htop := rNum_top (size := 1) (by decide) s
 have hnn0 := rNum_nn (size := 1) (by decide) s
 have hrd : rdTx s = rdMany rdText (rNum 1 s).1.toNat (rNum 1 s).2 := rfl
 rw [hrd]
 clear h hrd
 obtain ⟨n, hnn⟩ : ∃ n : Nat, (rNum 1 s).1 = (n : Int) := ⟨(rNum 1 s).1.toNat, by omega⟩
 rw [hnn] at HN0 htop hnn0
 rw [hnn, Int.toNat_natCast]
 have hn : n ≤ 70000 := by omega
 clear htop hnn hnn0
 generalize (rNum 1 s).2 = s0 at *
 go_enter Tryz.func60, Tryz.ntmps60
 go_upto_region 4 with (go_at_call 56; (with_reducible refine (HN0.out).mono ?_); rintro en w0 ⟨rfl, hr0, hg0⟩; have HR0 := hD hr0; have HG0 := hD hg0; clear hr0 hg0)
 go_loopw [3, 5] (fun t i wr => ∃ (k : Nat) (L : List Str) (A : Option Addr) (c : Nat), k ≤ n ∧ i = .int .i64 (k : Int) ∧ t = .slice A L.length c ∧ L.length ≤ k ∧ wr.ownsRow w.heap.size 9 1 (.slice A L.length c) L.length (strs L) ∧ Rq wr B g (rdMany rdText k s0).2.2 ∧ ((rdMany rdText k s0).2.2.1 = 0 → L = (rdMany rdText k s0).1) ∧ w.grownBy wr (some g)) (fun _ i _ => n - (intOf i).toNat)
 case atStart => exact ⟨0, [], none, 0, Nat.zero_le _, rfl, rfl, Nat.le_refl _, World.ownsRow_nil _ _ _ _, HR0.out, fun _ => rfl, HG0.out⟩
 case round =>
  obtain ⟨k, L, A, c, hk, rfl, rfl, hL, ho, hr, hl, hg⟩ := hrel
  have HO := hD ho
  have HR := hD hr
  have HLQ := hD hl
  have HGR := hD hg
  have he := hr.e
  by_cases hlt : k < n
  ·
   by_cases h0 : (rdMany rdText k s0).2.2.1 = 0
   ·
    have HSN := hD (rdMany_snoc rdText k s0)
    have HN := hD (rtext_d hr)
    have HLE := hD (hl h0)
    rw [h0] at he
    generalize rdMany rdText k s0 = t at *
    obtain ⟨tl, tb, ts⟩ := t
    simp only at *
    clear ho hr hl hg
    have m1 : L.length + 1 ≤ maxLen := by simp only [maxLen]; omega
    have m2 : (L.length + 1) * 16 ≤ 140737488355328 := Nat.le_trans (Nat.mul_le_mul_right 16 (show L.length + 1 ≤ 100000 by omega)) (Nat.le_of_ble_eq_true rfl)
    go_wp2_with (first
     | (go_at_call 55; (with_reducible refine (HN.out).mono ?_); rintro en w1 ⟨rfl, hr1, hg1⟩; have HR1 := hD hr1; have HG1 := hD (grown_trans HGR.out hg1); have HO1 := hD (own_grown HO.out hg1 HG.out); have hbx : Below w1.heap.size w1 (w1.alloc (.cells #[str (rMeas 2 4096 ts).1] 9)) := (Below.refl _ _).alloc (Nat.le_refl _) _; have HOA := hD (HO1.out.alloc (.cells #[str (rMeas 2 4096 ts).1] 9)); have HCN := hD (cells_new1 w1 (str (rMeas 2 4096 ts).1) 9); have HRA := hD (HR1.out.below hbx); have HGA := hD (grown_below HG1.out hbx); clear hr1 hg1 hbx)
     | (at_builtin; refine wpList_append_src rfl (.tmp 20) (.tmp 23) 28 rfl w.heap.size 9 i0 _ 16 Tryz.underlying28 hi0 hz0 hz1 hz2 rfl (.slice A L.length c) L.length (strs L) rfl HOA.out (fun _ => True) _ 1 1 [str (rMeas 2 4096 ts).1] rfl ⟨rfl, (by intro h; cases h), Nat.le_refl _, (by intro _ _ _; trivial), (by intro ad h; cases h; exact HCN.out)⟩ (by intro u hu; simp at hu; subst hu; rfl) m1 m2 HGA.out.size ?_; intro v' w2 hown hg2 hat; obtain ⟨A', c', rfl⟩ := own_slice hown; have HO2 := hD hown; have HG2 := hD (grown_row HGA.out hg2 (fun j hj => (HOA.out.lt j hj).1)); have HR2 := hD (HRA.out.keep hg2.size (fun j hj => hg2.block j (by have := HRA.out.le; omega) (fun e => by have := (HOA.out.lt j e.symm).1; have := HLE0.out; omega)) (hg2.block g HRA.out.lt (fun e => by have := (HOA.out.lt g e.symm).1; have := HG.out; omega))); clear hown hg2 hat))
    go_roundw
    case rel =>
     refine ⟨k + 1, L ++ [(rMeas 2 4096 ts).1], A', c', by omega, by go_num, by rw [List.length_append]; rfl, by rw [List.length_append]; simp; omega, ?_, ?_, ?_, HG2.out⟩
     ·
      have e : strs (L ++ [(rMeas 2 4096 ts).1]) = strs L ++ [str (rMeas 2 4096 ts).1] := by simp [strs]
      rw [e, List.length_append]
      exact HO2.out
     ·
      rw [HSN.out]
      exact HR2.out
     ·
      intro hz
      rw [HSN.out]
      exact congrArg (· ++ [(rMeas 2 4096 ts).1]) HLE.out
    case measure => simp [intOf]; omega
   ·
    have HEND := hD (many_end clean_text (Nat.le_of_lt hlt) h0)
    have he0 : ((rdMany rdText k s0).2.2.1 == 0) = false := by simpa using h0
    clear ho hr hl hg
    go_wp2_with (fail)
    go_ret
    exact ⟨A, c, L, rfl, HO.out, by rw [HEND.out.1]; exact HR.out, fun hz => absurd (by rw [HEND.out.1] at hz; exact hz) h0, HGR.out⟩
  ·
   obtain rfl : k = n := by omega
   clear ho hr hl hg
   go_wp2_with (fail)
   go_ret
   exact ⟨A, c, L, rfl, HO.out, HR.out, HLQ.out, HGR.out⟩
end Go.Proofs.YtfljignkjmabpaaGreat
