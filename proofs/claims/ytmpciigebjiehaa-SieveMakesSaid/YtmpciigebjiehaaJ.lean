/-
  The document's own union of filters: the walk where the first filter is right.
-/
import Derived.Test.YtmpciigebjiehaaI
namespace Go.Proofs.Ytmpciigebjiehaa
open Go.RowKit

def Unites (w : World) (f : Fi) (r : List Fi) (e : Ending) (w' : World) : Prop :=
  (alikeB (f :: r) = true ∧ MadeU w (uniAll f.ws r) f.s e w') ∨ (alikeB (f :: r) = false ∧ NoU w e w')

set_option maxHeartbeats 400000 in
theorem runion_main (P : Nat → Prop) (A : Option Addr) (c : Nat) (f : Fi) (r : List Fi) (w : World) (h : Fls w P A (r.length + 1) c (f :: r)) (hn : r.length + 1 ≤ 4611686018427387904) (hw : ∀ g ∈ r, g.ws.length ≤ 4611686018427387904) (hf : formB f.ws.length f.s = true) :
    Calls Try.prog 28 #[.slice A (r.length + 1) c] w (Unites w f r) := by
  obtain ⟨p0, p1, p2, p3⟩ := form_pos hf
  cases A with
  | none => have := (h.nil rfl).1; omega
  | some ad =>
    obtain ⟨b, o, rfl⟩ := h.plain (by omega)
    obtain ⟨A0, c0, hs0, k0, k1⟩ := h.lt.get 0 (by simp)
    simp only [List.getElem_cons_zero, Nat.zero_mul, Nat.add_zero] at hs0 k0 k1
    have HF := Lib.hid hf
    have H := Lib.hid h.lt
    have HW := Lib.hid hw
    have HB := Lib.hid (Bx.new w none 0 0 0)
    have hz : (r.length + 1 == 0) = false := by simp
    have hb0 : Below w.heap.size w (w.alloc (.cells #[.slice none 0 0, .int .i64 0] 30)) := (Below.refl w.heap.size w).alloc (Nat.le_refl _) (.cells #[.slice none 0 0, .int .i64 0] 30)
    have HB0 := Lib.hid hb0
    have HS0 := Lib.hid hs0
    have j0 := cell_alloc k0 (.cells #[.slice none 0 0, .int .i64 0] 30)
    have j1 := cell_alloc k1 (.cells #[.slice none 0 0, .int .i64 0] 30)
    clear h hf k0 k1 hs0 hb0 hw
    go_enter Try.func28, Try.ntmps28
    go_wp2_with (go_at_call 23; refine (rRight_any A0 _ c0 f.s _).mono ?_; rw [HF.out]; rintro e w1 ⟨rfl, hb1⟩; have HB1 := Lib.hid (HB0.out.trans (hb1.mono (by simp))); have HBX := Lib.hid (HB.out.below hb1); have k0 := cell_below hb1 j0; have k1 := cell_below hb1 j1; clear hb1 j0 j1)
    refine (radd_nil _ A0 f.ws.length c0 f.s f.ws _ (HS0.out.below HB1.out (fun _ h => h)) (by omega)).mono ?_
    rintro e w2 ⟨A2, c2, rfl, ho2, hb2⟩
    obtain ⟨g, rfl, hg1, hg2⟩ := own_some ho2 p0
    have hsz1 : w.heap.size + 1 ≤ w1.heap.size := HBX.out.lt
    have hsz2 := hb2.size
    have HBX2 := Lib.hid ((HBX.out.below hb2).below ((Below.refl _ _).alloc (Nat.le_refl _) (.cells #[.slice (some ⟨g, 0, none⟩) f.ws.length c2, .int .i64 f.s] 30)))
    have HBV := Lib.hid (Bx.new w2 (some ⟨g, 0, none⟩) f.ws.length c2 f.s)
    have HO2 := Lib.hid (own_more (ho2.alloc (.cells #[.slice (some ⟨g, 0, none⟩) f.ws.length c2, .int .i64 f.s] 30)) (show w.heap.size ≤ w1.heap.size by omega))
    have HBW := Lib.hid ((HB1.out.trans (hb2.mono (by omega))).alloc (by omega) (.cells #[.slice (some ⟨g, 0, none⟩) f.ws.length c2, .int .i64 f.s] 30))
    clear ho2 hb2 k0 k1
    go_wp2
    generalize w2.alloc (.cells #[.slice (some ⟨g, 0, none⟩) f.ws.length c2, .int .i64 f.s] 30) = w5 at HBX2 HBV HO2 HBW ⊢
    have hgq : g < w2.heap.size := hg2
    have hrq : w.heap.size + 1 ≤ w2.heap.size := by omega
    generalize w2.heap.size = q at HBV hgq hrq ⊢
    clear hsz2 hg2
    go_loopw [5] (fun i wr => ∃ k : Nat, k ≤ r.length ∧ i = .int .i64 ((k : Int) + 1) ∧ Below w.heap.size w wr ∧ Bx wr w.heap.size none 0 0 0 ∧ Bx wr q (some ⟨g, 0, none⟩) f.ws.length c2 f.s ∧ wr.ownsRow w.heap.size 53 1 (.slice (some ⟨g, 0, none⟩) f.ws.length c2) f.ws.length (wds (uniAll f.ws (r.take k))) ∧ ∀ j (hj : j < r.length), j < k → likeB r[j] f = true) (fun i _ => r.length + 1 - (intOf i).toNat)
    case atStart => exact ⟨0, Nat.zero_le _, rfl, HBW.out, HBX2.out, HBV.out, HO2.out, by intro j hj hk; omega⟩
    clear HBX2 HBV HO2 HBW HBX HB1 HB
    case round =>
      obtain ⟨k, hk, rfl, hb, hbx, hbv, ho, hall⟩ := hrel
      have HALL := Lib.hid hall
      clear hall
      by_cases hlt : k < r.length
      · obtain ⟨A1, c1, hs1, e0', e1'⟩ := H.out.get (k + 1) (by simp; omega)
        have e0 := (hb.cell (World.block_lt_of_cell? w _ e0')).trans e0'
        have e1 := (hb.cell (World.block_lt_of_cell? w _ e1')).trans e1'
        simp only [List.getElem_cons_succ] at e0 e1 hs1 e0'
        have EW := Lib.hid e0'
        clear e0' e1'
        have m0 := hbv.c0
        have m1 := hbv.c1
        have l1 := HW.out r[k] (List.getElem_mem hlt)
        by_cases hle : r[k].ws.length = f.ws.length
        · by_cases hse : r[k].s = f.s
          · have HLK := Lib.hid (show likeB r[k] f = true by simp [likeB, hle, hse])
            have HT := Lib.hid (uniAll_take f.ws r k hlt)
            have HN := Lib.hid ((uniAll_len (r.take k) f.ws (fun x hx => by
              obtain ⟨j, hj, rfl⟩ := List.getElem_of_mem hx
              have hj' : j < k := by simp at hj; omega
              have := HALL.out j (by omega) hj'
              simp only [likeB, decide_eq_true_eq] at this
              simpa using this.1)))
            generalize uniAll f.ws (r.take k) = acc at ho HT HN
            have ew := EW.out
            rw [hle] at hs1 e0 ew
            clear EW
            have EW := Lib.hid ew
            clear ew
            rw [hse] at e1
            have L1 := Lib.hid hle
            generalize hgk : r[k] = gk at hs1 L1 HT HLK
            have HGK := Lib.hid hgk
            clear hgk
            have LN : gk.ws.length = acc.length := by rw [L1.out, HN.out]
            have HLN := Lib.hid LN
            clear LN
            clear hle hse l1
            have HS1 := Lib.hid hs1
            have E0 := Lib.hid e0
            have E1 := Lib.hid e1
            have HR := Lib.hid hb
            have HBX3 := Lib.hid hbx
            have HBV3 := Lib.hid hbv
            have HO3 := Lib.hid ho
            clear hs1 hb hbx hbv ho
            go_wp2
            go_quiet (fail)
            go_wp2
            have hb := below_drewN HR.out nq
            have hbx := HBX3.out.below (drewN_below _ nq)
            have hbv := HBV3.out.below (drewN_below _ nq)
            have ho := own_below HO3.out (drewN_below _ nq)
            have e0 := cell_below (drewN_below wr nq) E0.out
            generalize wr.drewN nq = w7 at hb hbx hbv ho e0 ⊢
            clear HR HBX3 HBV3 HO3 E0 E1 m0 m1 e1
            have HE := Lib.hid e0
            have HB3 := Lib.hid hb
            have HBX3 := Lib.hid hbx
            have HBV3 := Lib.hid hbv
            have HO3 := Lib.hid ho
            clear hb hbx hbv ho e0
            clear HE
            go_loopw [6] (fun i wx => ∃ j : Nat, j ≤ f.ws.length ∧ i = .int .i64 j ∧ Below w.heap.size w wx ∧ Bx wx w.heap.size none 0 0 0 ∧ Bx wx q (some ⟨g, 0, none⟩) f.ws.length c2 f.s ∧ wx.ownsRow w.heap.size 53 1 (.slice (some ⟨g, 0, none⟩) f.ws.length c2) f.ws.length (wds (upto acc gk.ws j))) (fun i _ => f.ws.length - (intOf i).toNat)
            case atStart => exact ⟨0, Nat.zero_le _, rfl, HB3.out, HBX3.out, HBV3.out, by rw [upto_zero]; exact HO3.out⟩
            clear HB3 HBX3 HBV3 HO3
            case round =>
              obtain ⟨j, hj, rfl, hb, hbx, hbv, ho⟩ := hrel
              by_cases hjl : j < f.ws.length
              · cases A1 with
                | none => have := (HS1.out.nil rfl).1; omega
                | some ad1 =>
                  have hUL := upto_len acc gk.ws HLN.out j (by rw [HN.out]; omega)
                  have hUW := upto_wd acc gk.ws HLN.out j (by rw [HN.out]; omega)
                  have hUS := upto_succ acc gk.ws HLN.out j (by rw [HN.out]; omega)
                  rw [HN.out] at hUL
                  have hst : (upto acc gk.ws j).set j (wd acc j) = upto acc gk.ws j := by
                    apply List.ext_getElem
                    · simp
                    · intro z h1 h2
                      rw [List.getElem_set]
                      split
                      · rename_i hz
                        subst hz
                        rw [← hUW]
                        simp [wd, h2]
                      · rfl
                  have HUS := Lib.hid hUS
                  have k1 := hbv.c0
                  have HB := Lib.hid hb
                  have HBX := Lib.hid hbx
                  have HBV := Lib.hid hbv
                  have HO := Lib.hid ho
                  rw [← hst] at ho
                  have HO0 := Lib.hid ho
                  have HUL := Lib.hid hUL
                  clear hb hbx hbv ho hst hUS hUW hUL
                  generalize upto acc gk.ws j = cur at HO0 HUS HUL
                  generalize hxx : wd acc j = x at HO0 HUS
                  have HXX := Lib.hid hxx
                  have hyc := HS1.out.at_ ad1 rfl j _ (wds_get gk.ws j (by rw [L1.out]; exact hjl))
                  generalize wd gk.ws j = y at HUS hyc
                  have HYC := Lib.hid hyc
                  clear hyc hxx
                  go_wp2
                  go_loopw [7] (fun i wy => ∃ t : Nat, t ≤ 64 ∧ i = .int .u32 (t : Int) ∧ Below w.heap.size w wy ∧ Bx wy w.heap.size none 0 0 0 ∧ Bx wy q (some ⟨g, 0, none⟩) f.ws.length c2 f.s ∧ wy.ownsRow w.heap.size 53 1 (.slice (some ⟨g, 0, none⟩) f.ws.length c2) f.ws.length (wds (cur.set j (lowOr x y t)))) (fun i _ => 64 - (intOf i).toNat)
                  case atStart => exact ⟨0, Nat.zero_le _, rfl, HB.out, HBX.out, HBV.out, HO0.out⟩
                  clear HB HBX HBV HO HO0 k1
                  case round =>
                    obtain ⟨t, ht, rfl, hb, hbx, hbv, ho⟩ := hrel
                    by_cases htl : t < 64
                    · have e0 := (hb.cell (World.block_lt_of_cell? w _ EW.out)).trans EW.out
                      have e1 := (hb.cell (World.block_lt_of_cell? w _ HYC.out)).trans HYC.out
                      have e2 := hbv.c0
                      have e3 := ho.cellAt j (by omega)
                      rw [wds_get _ _ (by rw [List.length_set, HUL.out]; exact hjl)] at e3
                      have hwd : wd (cur.set j (lowOr x y t)) j = lowOr x y t := by
                        have := HUL.out
                        simp [wd, this, hjl]
                      rw [hwd] at e3
                      have e4 := ho.frozenAt j
                      have hlo : lowOr x y (t + 1) = if has y t = true then lowOr x y t ||| bit t else lowOr x y t := rfl
                      have HB := Lib.hid hb
                      have HBX := Lib.hid hbx
                      have HBV := Lib.hid hbv
                      have HO := Lib.hid ho
                      clear hb hbx hbv ho hwd
                      generalize lowOr x y t = z at e3 HO hlo
                      cases hh : has y t
                      · have HH := Lib.hid hh
                        rw [hh] at hlo
                        have HLO := Lib.hid hlo
                        clear hh hlo
                        go_wp2_with (go_at_call 35; refine (rhas_any y t _ htl).mono ?_; rw [HH.out]; rintro e w' ⟨rfl, rfl⟩)
                        go_roundw
                        case rel => exact ⟨t + 1, by omega, by go_num, HB.out, HBX.out, HBV.out, by rw [HLO.out]; exact HO.out⟩
                        case measure => simp [intOf]; omega
                      · have HH := Lib.hid hh
                        rw [hh] at hlo
                        have hcw : ∀ w : World, Calls Try.prog 31 #[u64v z, u32n t] w fun e w' => e = .returned (u64v (z ||| bit t)) ∧ w' = w := fun w => (rwith_any z t w htl).mono (fun e w' h => ⟨h.1, h.2.symm⟩)
                        generalize z ||| bit t = z2 at hlo hcw
                        have HLO := Lib.hid hlo
                        have HCW := Lib.hid hcw
                        clear hh hlo hcw
                        go_wp2_with (go_at_call 35; refine (rhas_any y t _ htl).mono ?_; rw [HH.out]; rintro e w' ⟨rfl, rfl⟩)
                        go_still_tail 10, (by kernel_rfl)
                        refine wpStill_step (fun K hK => ?_)
                        go_simp
                        refine ⟨_, HCW.out _, hK _ ?_⟩
                        clear hK K
                        refine wpStill_nil ?_
                        change wpList _ _ _ _ _ wr.drew
                        go_wp2
                        go_roundw
                        case rel =>
                          refine ⟨t + 1, by omega, by go_num, (HB.out.setCell (p := ⟨g, j, none⟩) (by show w.heap.size ≤ g; omega) _).drew, (HBX.out.setCell (a := ⟨g, j, none⟩) (by show w.heap.size ≠ g; omega) _).below (drew_below _), (HBV.out.setCell (a := ⟨g, j, none⟩) (by show q ≠ g; omega) _).below (drew_below _), ?_⟩
                          have h1 := (HO.out.stored j (u64v z2)).1
                          rw [← wds_set, List.set_set] at h1
                          rw [HLO.out]
                          exact own_below h1 (drew_below _)
                        case measure => simp [intOf]; omega
                    · obtain rfl : t = 64 := by omega
                      rw [lowOr_all, ← HUS.out] at ho
                      have HB := Lib.hid hb
                      have HBX := Lib.hid hbx
                      have HBV := Lib.hid hbv
                      have HO := Lib.hid ho
                      clear hb hbx hbv ho
                      go_wp2
                      go_roundw
                      case rel => exact ⟨j + 1, by omega, by go_num, HB.out, HBX.out, HBV.out, HO.out⟩
                      case measure => simp [intOf]; omega
              · obtain rfl : j = f.ws.length := by omega
                have e := upto_all acc gk.ws HLN.out
                rw [HN.out] at e
                rw [e] at ho
                have m1 := hbv.c0
                have HB := Lib.hid hb
                have HBX := Lib.hid hbx
                have HBV := Lib.hid hbv
                have HO := Lib.hid ho
                clear hb hbx hbv ho e
                go_wp2
                go_roundw
                case rel =>
                  refine ⟨k + 1, by omega, by go_num, HB.out, HBX.out, HBV.out, by rw [HT.out]; exact HO.out, fun z hz hzk => ?_⟩
                  by_cases he : z = k
                  · subst he; rw [HGK.out]; exact HLK.out
                  · exact HALL.out z hz (by omega)
                case measure => simp [intOf]; omega
          · have hne : (r[k].s != f.s) = true := by simpa using hse
            have hnal : alikeB (f :: r) = false := by
              simp only [alikeB, HF.out, Bool.true_and, List.all_eq_false]
              exact ⟨r[k], List.getElem_mem hlt, by simp [likeB, hse]⟩
            have HAL := Lib.hid hnal
            have k2 := hbx.c0
            have k3 := hbx.c1
            have k4 := hbx.f0 0
            have k5 := hbx.f0 1
            have HBX := Lib.hid hbx
            have HB := Lib.hid hb
            clear hb hbx hbv ho hnal hs1
            go_wp2
            go_quiet (fail)
            go_wp2
            have hq := noU_end w (wr.drewN nq) (below_drewN HB.out _) (HBX.out.below (drewN_below _ _))
            generalize ((wr.drewN nq).setCell ⟨w.heap.size, 0, none⟩ (.slice none 0 0)).setCell ⟨w.heap.size, 1, none⟩ (.int .i64 0) = w3 at hq ⊢
            obtain ⟨q, hbw⟩ := hq
            have q0 := q.c0
            have q1 := q.c1
            exact bodyPost_ret (v := .tuple #[flt none 0 0 0, .bool false]) (by simp [results, Try.results28, go_sem, q0, q1]) rfl (.inr ⟨HAL.out, rfl, hbw⟩)
        · have hne : ((r[k].ws.length : Int) != (f.ws.length : Int)) = true := by simp only [bne_iff_ne, ne_eq]; omega
          have hnal : alikeB (f :: r) = false := by
            simp only [alikeB, HF.out, Bool.true_and, List.all_eq_false]
            exact ⟨r[k], List.getElem_mem hlt, by simp [likeB, hle]⟩
          have HAL := Lib.hid hnal
          have k2 := hbx.c0
          have k3 := hbx.c1
          have k4 := hbx.f0 0
          have k5 := hbx.f0 1
          have HBX := Lib.hid hbx
          have HB := Lib.hid hb
          clear hb hbx hbv ho hnal hs1
          go_wp2
          go_quiet (fail)
          go_wp2
          have hq := noU_end w (wr.drewN nq) (below_drewN HB.out _) (HBX.out.below (drewN_below _ _))
          generalize ((wr.drewN nq).setCell ⟨w.heap.size, 0, none⟩ (.slice none 0 0)).setCell ⟨w.heap.size, 1, none⟩ (.int .i64 0) = w3 at hq ⊢
          obtain ⟨q, hbw⟩ := hq
          have q0 := q.c0
          have q1 := q.c1
          exact bodyPost_ret (v := .tuple #[flt none 0 0 0, .bool false]) (by simp [results, Try.results28, go_sem, q0, q1]) rfl (.inr ⟨HAL.out, rfl, hbw⟩)
      · obtain rfl : k = r.length := by omega
        rw [List.take_of_length_le (Nat.le_refl _)] at ho
        have hal : alikeB (f :: r) = true := by
          simp only [alikeB, HF.out, Bool.true_and, List.all_eq_true]
          intro x hx
          obtain ⟨j, hj, rfl⟩ := List.getElem_of_mem hx
          exact HALL.out j hj hj
        have k0 := hbv.c0
        have k1 := hbv.c1
        have k2 := hbx.c0
        have k3 := hbx.c1
        have k4 := hbx.f0 0
        have k5 := hbx.f0 1
        have HN := Lib.hid ((uniAll_len r f.ws (fun x hx => by
          obtain ⟨j, hj, rfl⟩ := List.getElem_of_mem hx
          have := HALL.out j hj hj
          simp only [likeB, decide_eq_true_eq] at this
          exact this.1)))
        have HBX := Lib.hid hbx
        have HB := Lib.hid hb
        have HO := Lib.hid ho
        have HAL := Lib.hid hal
        clear hb hbx hbv ho hal
        go_wp2
        have hq := HBX.out.over (some ⟨g, 0, none⟩) f.ws.length c2 f.s
        have q0 := hq.c0
        have q1 := hq.c1
        have hrow : ∀ j, (Value.slice (some ⟨g, 0, none⟩) f.ws.length c2).ownBlock ≠ some (⟨w.heap.size, j, none⟩ : Addr).block := fun j e => by
          injection e with e
          have e' : g = w.heap.size := e
          omega
        have how := ownsRow_setCell_other (ownsRow_setCell_other HO.out (hrow 0) (.slice (some ⟨g, 0, none⟩) f.ws.length c2)) (hrow 1) (.int .i64 f.s)
        have hbw := (HB.out.setCell (p := ⟨w.heap.size, 0, none⟩) (Nat.le_refl _) (.slice (some ⟨g, 0, none⟩) f.ws.length c2)).setCell (p := ⟨w.heap.size, 1, none⟩) (Nat.le_refl _) (.int .i64 f.s)
        generalize (wr.setCell ⟨w.heap.size, 0, none⟩ (.slice (some ⟨g, 0, none⟩) f.ws.length c2)).setCell ⟨w.heap.size, 1, none⟩ (.int .i64 f.s) = w3 at q0 q1 how hbw ⊢
        exact bodyPost_ret (v := .tuple #[flt (some ⟨g, 0, none⟩) f.ws.length c2 f.s, .bool true]) (by simp [results, Try.results28, go_sem, q0, q1]) rfl (.inl ⟨HAL.out, _, c2, by rw [HN.out], by rw [HN.out]; exact how, hbw⟩)
end Go.Proofs.Ytmpciigebjiehaa
