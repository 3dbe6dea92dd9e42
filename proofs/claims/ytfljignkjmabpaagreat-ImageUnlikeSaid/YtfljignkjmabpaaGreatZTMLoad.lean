/-
  The whole image's reading (written by mkq.py).
  What is read fits: plain words.
  Decode.
  The law on how full a table is, walked.
-/
import Derived.Test.YtfljignkjmabpaaGreatZRI
import Derived.Test.YtfljignkjmabpaaGreatZWF
namespace Go.Proofs.YtfljignkjmabpaaGreat
set_option maxRecDepth 100000
set_option linter.unusedSimpArgs false
set_option linter.unusedVariables false
open Go.RowKit

/-- What an image's reading hands back. -/
def ItIm (r : Im × Bool × St) (w : World) (G g : Nat) (bad : Bool) (en : Ending) (w' : World) : Prop :=
  ∃ (p : Pl) (y : Im), en = .returned (imV p y) ∧ ImIn w' (fun k => w.heap.size ≤ k ∧ k < w'.heap.size) p y ∧ (r.2.2.1 = 0 → y = r.1) ∧ Ri w' G g (bad || r.2.1) r.2.2 ∧ Kr G g w w'
theorem it_im2 {w w' : World} {G g : Nat} {bad : Bool} {r : Im × Bool × St} {en : Ending} {i : Im} {b : Bool} {t : St} (hr : r = (i, b, t)) (p : Pl) (y : Im) (h1 : en = .returned (imV p y)) (h2 : ImIn w' (fun k => w.heap.size ≤ k ∧ k < w'.heap.size) p y) (h3 : t.1 = 0 → y = i) (h4 : Ri w' G g (bad || b) t) (h5 : Kr G g w w') : ItIm r w G g bad en w' := by
  subst hr
  exact ⟨p, y, h1, h2, h3, h4, h5⟩
theorem bads (a b0 b3 b4 b5 b6 b7 b9 b10 b11 b12 b13 : Bool) : (a || (b0 || (false || (false || (b3 || (b4 || (b5 || (b6 || (b7 || (false || (b9 || (b10 || (b11 || (b12 || (b13 || (false || false)))))))))))))))) = (((((((((((a || b0) || b3) || b4) || b5) || b6) || b7) || b9) || b10) || b11) || b12) || b13) := by
  simp only [Bool.false_or, Bool.or_false, Bool.or_assoc]
set_option maxHeartbeats 8000000 in
theorem rimage_any {G g : Nat} {bad : Bool} {s : St} (w : World) (h : Ri w G g bad s) : Calls Tryz.prog 17 #[.pointer (some ⟨G, 0, none⟩)] w (ItIm (rdIm s) w G g bad) := by
  have HS0 := Lib.hid (RX.start (ty := 40) #[.string ⟨#[]⟩, .int .i64 0, .slice none 0 0, .slice none 0 0, .slice none 0 0, .slice none 0 0, .slice none 0 0, .slice none 0 0, .int .i64 0, .slice none 0 0, .slice none 0 0, .slice none 0 0, .slice none 0 0, .slice none 0 0, .int .i64 0] h)
  have hbx : Below w.heap.size w (w.alloc (.cells #[.string ⟨#[]⟩, .int .i64 0, .slice none 0 0, .slice none 0 0, .slice none 0 0, .slice none 0 0, .slice none 0 0, .slice none 0 0, .int .i64 0, .slice none 0 0, .slice none 0 0, .slice none 0 0, .slice none 0 0, .slice none 0 0, .int .i64 0] 40)) := (Below.refl _ _).alloc (Nat.le_refl _) _
  have HRS := Lib.hid (h.below hbx)
  have HKS := Lib.hid (show Kr G g w (w.alloc (.cells #[.string ⟨#[]⟩, .int .i64 0, .slice none 0 0, .slice none 0 0, .slice none 0 0, .slice none 0 0, .slice none 0 0, .slice none 0 0, .int .i64 0, .slice none 0 0, .slice none 0 0, .slice none 0 0, .slice none 0 0, .slice none 0 0, .int .i64 0] 40)) from Kr.of_below hbx)
  have HG := Lib.hid (show g < G ∧ G < w.heap.size from ⟨h.lt, h.gt⟩)
  have HT := Lib.hid (rmark_any _ (h.below hbx))
  clear h hbx
  go_enter Tryz.func17, Tryz.ntmps17
  go_upto_region 1 with (fail)
  change Code.wp _ _ _ _ (w.alloc (.cells #[.string ⟨#[]⟩, .int .i64 0, .slice none 0 0, .slice none 0 0, .slice none 0 0, .slice none 0 0, .slice none 0 0, .slice none 0 0, .int .i64 0, .slice none 0 0, .slice none 0 0, .slice none 0 0, .slice none 0 0, .slice none 0 0, .int .i64 0] 40))
  generalize w.alloc (.cells #[.string ⟨#[]⟩, .int .i64 0, .slice none 0 0, .slice none 0 0, .slice none 0 0, .slice none 0 0, .slice none 0 0, .slice none 0 0, .int .i64 0, .slice none 0 0, .slice none 0 0, .slice none 0 0, .slice none 0 0, .slice none 0 0, .int .i64 0] 40) = w1 at *
  generalize hgr : w.heap.size = gr at *
  go_upto_region 2 with (go_at_call 37; (with_reducible refine (HT.out).mono ?_); rintro en wm ⟨rfl, h1, h2⟩; have HR0 := Lib.hid h1; have HKM := Lib.hid h2; have HSM := Lib.hid (HS0.out.on h1 h2); clear h1 h2)
  generalize hq0 : rdMark s = q0 at *
  have HQ0 := Lib.hid hq0
  clear hq0 HT HS0 HRS
  refine wp_region_held_drew (S := RX G g gr 15 40) (by kernel_rfl) HSM.out.drew (fun hHeld0 => ?_)
  refine take_at (i := 0) (d := 5) (v := .pointer (some ⟨G, 0, none⟩)) rfl rfl (by kernel_rfl) (by kernel_rfl) (by kernel_rfl) (fun _ _ _ h => h) (Or.inl ⟨by rfl, ?_⟩) (by assumption) ?_
  · intro X hX; go_simp
  (try simp only [Act.put, List.setIfInBounds_toArray, List.set_cons_zero, List.set_cons_succ])
  refine take_at (i := 1) (d := 6) (v := .pointer (some ⟨G, 0, none⟩)) rfl rfl (by kernel_rfl) (by kernel_rfl) (by kernel_rfl) (fun _ _ _ h => h) (Or.inl ⟨by rfl, ?_⟩) (by assumption) ?_
  · intro X hX; go_simp
  (try simp only [Act.put, List.setIfInBounds_toArray, List.set_cons_zero, List.set_cons_succ])
  refine take_at (i := 2) (d := 7) (v := .pointer (some ⟨G, 0, none⟩)) rfl rfl (by kernel_rfl) (by kernel_rfl) (by kernel_rfl) (fun _ _ _ h => h) (Or.inl ⟨by rfl, ?_⟩) (by assumption) ?_
  · intro X hX; go_simp
  (try simp only [Act.put, List.setIfInBounds_toArray, List.set_cons_zero, List.set_cons_succ])
  refine take_at (i := 3) (d := 8) (v := .pointer (some ⟨g, 0, none⟩)) rfl rfl (by kernel_rfl) (by kernel_rfl) (by kernel_rfl) (fun _ _ _ h => h) (Or.inl ⟨by rfl, ?_⟩) (by assumption) ?_
  · intro X hX; obtain ⟨⟨b, t, hW⟩, hB⟩ := hX; have hc := hW.c0; go_simp
  (try simp only [Act.put, List.setIfInBounds_toArray, List.set_cons_zero, List.set_cons_succ])
  refine take_at (i := 5) (d := 10) (v := .pointer (some ⟨G, 0, none⟩)) rfl rfl (by kernel_rfl) (by kernel_rfl) (by kernel_rfl) (fun _ _ _ h => h) (Or.inl ⟨by rfl, ?_⟩) (by assumption) ?_
  · intro X hX; go_simp
  (try simp only [Act.put, List.setIfInBounds_toArray, List.set_cons_zero, List.set_cons_succ])
  refine take_at (i := 6) (d := 11) (v := .pointer (some ⟨G, 0, none⟩)) rfl rfl (by kernel_rfl) (by kernel_rfl) (by kernel_rfl) (fun _ _ _ h => h) (Or.inl ⟨by rfl, ?_⟩) (by assumption) ?_
  · intro X hX; go_simp
  (try simp only [Act.put, List.setIfInBounds_toArray, List.set_cons_zero, List.set_cons_succ])
  refine take_at (i := 7) (d := 12) (v := .pointer (some ⟨G, 0, none⟩)) rfl rfl (by kernel_rfl) (by kernel_rfl) (by kernel_rfl) (fun _ _ _ h => h) (Or.inl ⟨by rfl, ?_⟩) (by assumption) ?_
  · intro X hX; go_simp
  (try simp only [Act.put, List.setIfInBounds_toArray, List.set_cons_zero, List.set_cons_succ])
  refine take_at (i := 8) (d := 13) (v := .pointer (some ⟨g, 0, none⟩)) rfl rfl (by kernel_rfl) (by kernel_rfl) (by kernel_rfl) (fun _ _ _ h => h) (Or.inl ⟨by rfl, ?_⟩) (by assumption) ?_
  · intro X hX; obtain ⟨⟨b, t, hW⟩, hB⟩ := hX; have hc := hW.c0; go_simp
  (try simp only [Act.put, List.setIfInBounds_toArray, List.set_cons_zero, List.set_cons_succ])
  refine take_at (i := 10) (d := 15) (v := .pointer (some ⟨G, 0, none⟩)) rfl rfl (by kernel_rfl) (by kernel_rfl) (by kernel_rfl) (fun _ _ _ h => h) (Or.inl ⟨by rfl, ?_⟩) (by assumption) ?_
  · intro X hX; go_simp
  (try simp only [Act.put, List.setIfInBounds_toArray, List.set_cons_zero, List.set_cons_succ])
  refine take_at (i := 11) (d := 16) (v := .pointer (some ⟨G, 0, none⟩)) rfl rfl (by kernel_rfl) (by kernel_rfl) (by kernel_rfl) (fun _ _ _ h => h) (Or.inl ⟨by rfl, ?_⟩) (by assumption) ?_
  · intro X hX; go_simp
  (try simp only [Act.put, List.setIfInBounds_toArray, List.set_cons_zero, List.set_cons_succ])
  refine take_at (i := 12) (d := 17) (v := .func (.func 41) #[.pointer (some ⟨G, 0, none⟩)] #[]) rfl rfl (by kernel_rfl) (by kernel_rfl) (by kernel_rfl) (fun _ _ _ h => h) (Or.inl ⟨by rfl, ?_⟩) (by assumption) ?_
  · intro X hX; go_simp
  (try simp only [Act.put, List.setIfInBounds_toArray, List.set_cons_zero, List.set_cons_succ])
  refine take_at (i := 14) (d := 19) (v := .pointer (some ⟨G, 0, none⟩)) rfl rfl (by kernel_rfl) (by kernel_rfl) (by kernel_rfl) (fun _ _ _ h => h) (Or.inl ⟨by rfl, ?_⟩) (by assumption) ?_
  · intro X hX; go_simp
  (try simp only [Act.put, List.setIfInBounds_toArray, List.set_cons_zero, List.set_cons_succ])
  refine take_at (i := 15) (d := 20) (v := .pointer (some ⟨G, 0, none⟩)) rfl rfl (by kernel_rfl) (by kernel_rfl) (by kernel_rfl) (fun _ _ _ h => h) (Or.inl ⟨by rfl, ?_⟩) (by assumption) ?_
  · intro X hX; go_simp
  (try simp only [Act.put, List.setIfInBounds_toArray, List.set_cons_zero, List.set_cons_succ])
  refine take_at (i := 16) (d := 21) (v := .func (.func 43) #[.pointer (some ⟨G, 0, none⟩)] #[]) rfl rfl (by kernel_rfl) (by kernel_rfl) (by kernel_rfl) (fun _ _ _ h => h) (Or.inl ⟨by rfl, ?_⟩) (by assumption) ?_
  · intro X hX; go_simp
  (try simp only [Act.put, List.setIfInBounds_toArray, List.set_cons_zero, List.set_cons_succ])
  refine take_at (i := 18) (d := 23) (v := .pointer (some ⟨G, 0, none⟩)) rfl rfl (by kernel_rfl) (by kernel_rfl) (by kernel_rfl) (fun _ _ _ h => h) (Or.inl ⟨by rfl, ?_⟩) (by assumption) ?_
  · intro X hX; go_simp
  (try simp only [Act.put, List.setIfInBounds_toArray, List.set_cons_zero, List.set_cons_succ])
  refine take_at (i := 20) (d := 25) (v := .pointer (some ⟨G, 0, none⟩)) rfl rfl (by kernel_rfl) (by kernel_rfl) (by kernel_rfl) (fun _ _ _ h => h) (Or.inl ⟨by rfl, ?_⟩) (by assumption) ?_
  · intro X hX; go_simp
  (try simp only [Act.put, List.setIfInBounds_toArray, List.set_cons_zero, List.set_cons_succ])
  refine take_at (i := 21) (d := 26) (v := .pointer (some ⟨G, 0, none⟩)) rfl rfl (by kernel_rfl) (by kernel_rfl) (by kernel_rfl) (fun _ _ _ h => h) (Or.inl ⟨by rfl, ?_⟩) (by assumption) ?_
  · intro X hX; go_simp
  (try simp only [Act.put, List.setIfInBounds_toArray, List.set_cons_zero, List.set_cons_succ])
  refine take_at (i := 22) (d := 27) (v := .func (.func 46) #[.pointer (some ⟨G, 0, none⟩)] #[]) rfl rfl (by kernel_rfl) (by kernel_rfl) (by kernel_rfl) (fun _ _ _ h => h) (Or.inl ⟨by rfl, ?_⟩) (by assumption) ?_
  · intro X hX; go_simp
  (try simp only [Act.put, List.setIfInBounds_toArray, List.set_cons_zero, List.set_cons_succ])
  refine take_at (i := 24) (d := 29) (v := .pointer (some ⟨G, 0, none⟩)) rfl rfl (by kernel_rfl) (by kernel_rfl) (by kernel_rfl) (fun _ _ _ h => h) (Or.inl ⟨by rfl, ?_⟩) (by assumption) ?_
  · intro X hX; go_simp
  (try simp only [Act.put, List.setIfInBounds_toArray, List.set_cons_zero, List.set_cons_succ])
  refine take_at (i := 26) (d := 31) (v := .pointer (some ⟨G, 0, none⟩)) rfl rfl (by kernel_rfl) (by kernel_rfl) (by kernel_rfl) (fun _ _ _ h => h) (Or.inl ⟨by rfl, ?_⟩) (by assumption) ?_
  · intro X hX; go_simp
  (try simp only [Act.put, List.setIfInBounds_toArray, List.set_cons_zero, List.set_cons_succ])
  refine take_at (i := 27) (d := 32) (v := .pointer (some ⟨G, 0, none⟩)) rfl rfl (by kernel_rfl) (by kernel_rfl) (by kernel_rfl) (fun _ _ _ h => h) (Or.inl ⟨by rfl, ?_⟩) (by assumption) ?_
  · intro X hX; go_simp
  (try simp only [Act.put, List.setIfInBounds_toArray, List.set_cons_zero, List.set_cons_succ])
  refine take_at (i := 28) (d := 33) (v := .func (.func 49) #[.pointer (some ⟨G, 0, none⟩)] #[]) rfl rfl (by kernel_rfl) (by kernel_rfl) (by kernel_rfl) (fun _ _ _ h => h) (Or.inl ⟨by rfl, ?_⟩) (by assumption) ?_
  · intro X hX; go_simp
  (try simp only [Act.put, List.setIfInBounds_toArray, List.set_cons_zero, List.set_cons_succ])
  refine take_at (i := 30) (d := 35) (v := .pointer (some ⟨G, 0, none⟩)) rfl rfl (by kernel_rfl) (by kernel_rfl) (by kernel_rfl) (fun _ _ _ h => h) (Or.inl ⟨by rfl, ?_⟩) (by assumption) ?_
  · intro X hX; go_simp
  (try simp only [Act.put, List.setIfInBounds_toArray, List.set_cons_zero, List.set_cons_succ])
  refine take_at (i := 31) (d := 36) (v := .pointer (some ⟨G, 0, none⟩)) rfl rfl (by kernel_rfl) (by kernel_rfl) (by kernel_rfl) (fun _ _ _ h => h) (Or.inl ⟨by rfl, ?_⟩) (by assumption) ?_
  · intro X hX; go_simp
  (try simp only [Act.put, List.setIfInBounds_toArray, List.set_cons_zero, List.set_cons_succ])
  refine take_at (i := 32) (d := 37) (v := .func (.func 51) #[.pointer (some ⟨G, 0, none⟩)] #[]) rfl rfl (by kernel_rfl) (by kernel_rfl) (by kernel_rfl) (fun _ _ _ h => h) (Or.inl ⟨by rfl, ?_⟩) (by assumption) ?_
  · intro X hX; go_simp
  (try simp only [Act.put, List.setIfInBounds_toArray, List.set_cons_zero, List.set_cons_succ])
  refine take_at (i := 34) (d := 39) (v := .pointer (some ⟨G, 0, none⟩)) rfl rfl (by kernel_rfl) (by kernel_rfl) (by kernel_rfl) (fun _ _ _ h => h) (Or.inl ⟨by rfl, ?_⟩) (by assumption) ?_
  · intro X hX; go_simp
  (try simp only [Act.put, List.setIfInBounds_toArray, List.set_cons_zero, List.set_cons_succ])
  refine take_at (i := 36) (d := 41) (v := .pointer (some ⟨G, 0, none⟩)) rfl rfl (by kernel_rfl) (by kernel_rfl) (by kernel_rfl) (fun _ _ _ h => h) (Or.inl ⟨by rfl, ?_⟩) (by assumption) ?_
  · intro X hX; go_simp
  (try simp only [Act.put, List.setIfInBounds_toArray, List.set_cons_zero, List.set_cons_succ])
  refine take_at (i := 38) (d := 43) (v := .pointer (some ⟨G, 0, none⟩)) rfl rfl (by kernel_rfl) (by kernel_rfl) (by kernel_rfl) (fun _ _ _ h => h) (Or.inl ⟨by rfl, ?_⟩) (by assumption) ?_
  · intro X hX; go_simp
  (try simp only [Act.put, List.setIfInBounds_toArray, List.set_cons_zero, List.set_cons_succ])
  refine take_at (i := 39) (d := 44) (v := .pointer (some ⟨G, 0, none⟩)) rfl rfl (by kernel_rfl) (by kernel_rfl) (by kernel_rfl) (fun _ _ _ h => h) (Or.inl ⟨by rfl, ?_⟩) (by assumption) ?_
  · intro X hX; go_simp
  (try simp only [Act.put, List.setIfInBounds_toArray, List.set_cons_zero, List.set_cons_succ])
  refine take_at (i := 40) (d := 45) (v := .pointer (some ⟨G, 0, none⟩)) rfl rfl (by kernel_rfl) (by kernel_rfl) (by kernel_rfl) (fun _ _ _ h => h) (Or.inl ⟨by rfl, ?_⟩) (by assumption) ?_
  · intro X hX; go_simp
  (try simp only [Act.put, List.setIfInBounds_toArray, List.set_cons_zero, List.set_cons_succ])
  refine take_at (i := 41) (d := 46) (v := .pointer (some ⟨g, 0, none⟩)) rfl rfl (by kernel_rfl) (by kernel_rfl) (by kernel_rfl) (fun _ _ _ h => h) (Or.inl ⟨by rfl, ?_⟩) (by assumption) ?_
  · intro X hX; obtain ⟨⟨b, t, hW⟩, hB⟩ := hX; have hc := hW.c0; go_simp
  (try simp only [Act.put, List.setIfInBounds_toArray, List.set_cons_zero, List.set_cons_succ])
  refine take_at (i := 43) (d := 48) (v := .pointer (some ⟨G, 0, none⟩)) rfl rfl (by kernel_rfl) (by kernel_rfl) (by kernel_rfl) (fun _ _ _ h => h) (Or.inl ⟨by rfl, ?_⟩) (by assumption) ?_
  · intro X hX; go_simp
  (try simp only [Act.put, List.setIfInBounds_toArray, List.set_cons_zero, List.set_cons_succ])
  refine take_at (i := 44) (d := 49) (v := .pointer (some ⟨G, 0, none⟩)) rfl rfl (by kernel_rfl) (by kernel_rfl) (by kernel_rfl) (fun _ _ _ h => h) (Or.inl ⟨by rfl, ?_⟩) (by assumption) ?_
  · intro X hX; go_simp
  (try simp only [Act.put, List.setIfInBounds_toArray, List.set_cons_zero, List.set_cons_succ])
  refine take_at (i := 45) (d := 50) (v := .pointer (some ⟨G, 0, none⟩)) rfl rfl (by kernel_rfl) (by kernel_rfl) (by kernel_rfl) (fun _ _ _ h => h) (Or.inl ⟨by rfl, ?_⟩) (by assumption) ?_
  · intro X hX; go_simp
  (try simp only [Act.put, List.setIfInBounds_toArray, List.set_cons_zero, List.set_cons_succ])
  refine take_at (i := 46) (d := 51) (v := .pointer (some ⟨g, 0, none⟩)) rfl rfl (by kernel_rfl) (by kernel_rfl) (by kernel_rfl) (fun _ _ _ h => h) (Or.inl ⟨by rfl, ?_⟩) (by assumption) ?_
  · intro X hX; obtain ⟨⟨b, t, hW⟩, hB⟩ := hX; have hc := hW.c0; go_simp
  (try simp only [Act.put, List.setIfInBounds_toArray, List.set_cons_zero, List.set_cons_succ])
  refine wpAnyH_ready (rs := [4]) (by kernel_rfl) (by simp) ?_
  refine AllReadyH.cons rfl (fun K hK => ?_) AllReadyH.nil
  go_simp
  refine ((HR0.out.below (drew_below wm)).text).mono ?_
  rintro en w1a ⟨rfl, h1, h2⟩
  generalize hq1 : rMeas 2 4096 q0.2.2 = q1 at *; have HQ1 := Lib.hid hq1; clear hq1; have HR1 := Lib.hid h1; have HK1 := Lib.hid h2
  go_simp
  refine hK.out _ _ (hHeld0.on h1 h2) (fun hHeld1 => ?_)
  clear hK K
  (try simp only [Act.put, List.setIfInBounds_toArray, List.set_cons_zero, List.set_cons_succ])
  refine wpAnyH_ready (rs := [9]) (by kernel_rfl) (by simp) ?_
  refine AllReadyH.cons rfl (fun K hK => ?_) AllReadyH.nil
  go_simp
  refine (HR1.out.num 1).mono ?_
  rintro en w2a ⟨rfl, h1, h2⟩
  generalize hq2 : rNum 1 q1.2 = q2 at *; have HQ2 := Lib.hid hq2; clear hq2; have HR2 := Lib.hid h1; have HK2 := Lib.hid h2
  go_simp
  refine hK.out _ _ (hHeld1.on h1 h2) (fun hHeld2 => ?_)
  clear hK K
  (try simp only [Act.put, List.setIfInBounds_toArray, List.set_cons_zero, List.set_cons_succ])
  refine wpAnyH_ready (rs := [13]) (by kernel_rfl) (by simp) ?_
  refine AllReadyH.cons rfl (fun K hK => ?_) AllReadyH.nil
  go_simp
  refine (rlSeg_any 1 (by decide) 41 _ HR2.out (fun _ _ => by go_simp) (fun X b t hX _ => rseg_any X hX)).mono ?_
  rintro en w3a ⟨A3, c3, y3, B3, rfl, ha, hb, hv, h1, h2⟩
  generalize hq3 : rdList 1 rdSg q2.2 = q3 at *; have HQ3 := Lib.hid hq3; clear hq3; have HR3 := Lib.hid h1; have HK3 := Lib.hid h2; have HA3 := Lib.hid ha; have HB3 := Lib.hid hb; have HV3 := Lib.hid hv; clear ha hb hv
  go_simp
  refine hK.out _ _ (hHeld2.on h1 h2) (fun hHeld3 => ?_)
  clear hK K
  (try simp only [Act.put, List.setIfInBounds_toArray, List.set_cons_zero, List.set_cons_succ])
  refine wpAnyH_ready (rs := [17]) (by kernel_rfl) (by simp) ?_
  refine AllReadyH.cons rfl (fun K hK => ?_) AllReadyH.nil
  go_simp
  refine (rlNeed_any 1 (by decide) 43 _ HR3.out (fun _ _ => by go_simp) (fun X b t hX _ => rneed_any X hX)).mono ?_
  rintro en w4a ⟨A4, c4, y4, B4, rfl, ha, hb, hv, h1, h2⟩
  generalize hq4 : rdList 1 rdNd q3.2.2 = q4 at *; have HQ4 := Lib.hid hq4; clear hq4; have HR4 := Lib.hid h1; have HK4 := Lib.hid h2; have HA4 := Lib.hid ha; have HB4 := Lib.hid hb; have HV4 := Lib.hid hv; clear ha hb hv
  go_simp
  refine hK.out _ _ (hHeld3.on h1 h2) (fun hHeld4 => ?_)
  clear hK K
  (try simp only [Act.put, List.setIfInBounds_toArray, List.set_cons_zero, List.set_cons_succ])
  refine wpAnyH_ready (rs := [19]) (by kernel_rfl) (by simp) ?_
  refine AllReadyH.cons rfl (fun K hK => ?_) AllReadyH.nil
  go_simp
  refine (rtexts_any _ HR4.out).mono ?_
  rintro en w5a ⟨A5, c5, y5, B5, rfl, ha, hb, hv, h1, h2⟩
  generalize hq5 : rdTx q4.2.2 = q5 at *; have HQ5 := Lib.hid hq5; clear hq5; have HR5 := Lib.hid h1; have HK5 := Lib.hid h2; have HA5 := Lib.hid ha; have HV5 := Lib.hid hv; clear ha hb hv
  go_simp
  refine hK.out _ _ (hHeld4.on h1 h2) (fun hHeld5 => ?_)
  clear hK K
  (try simp only [Act.put, List.setIfInBounds_toArray, List.set_cons_zero, List.set_cons_succ])
  refine wpAnyH_ready (rs := [23]) (by kernel_rfl) (by simp) ?_
  refine AllReadyH.cons rfl (fun K hK => ?_) AllReadyH.nil
  go_simp
  refine (rlSym_any 2 (by decide) 46 _ HR5.out (fun _ _ => by go_simp) (fun X b t hX _ => rsymbol_any X hX)).mono ?_
  rintro en w6a ⟨A6, c6, y6, B6, rfl, ha, hb, hv, h1, h2⟩
  generalize hq6 : rdList 2 rdSym q5.2.2 = q6 at *; have HQ6 := Lib.hid hq6; clear hq6; have HR6 := Lib.hid h1; have HK6 := Lib.hid h2; have HA6 := Lib.hid ha; have HV6 := Lib.hid hv; clear ha hb hv
  go_simp
  refine hK.out _ _ (hHeld5.on h1 h2) (fun hHeld6 => ?_)
  clear hK K
  (try simp only [Act.put, List.setIfInBounds_toArray, List.set_cons_zero, List.set_cons_succ])
  refine wpAnyH_ready (rs := [25]) (by kernel_rfl) (by simp) ?_
  refine AllReadyH.cons rfl (fun K hK => ?_) AllReadyH.nil
  go_simp
  refine (rtable_any _ HR6.out).mono ?_
  rintro en w7a ⟨y7, y9, A7, c7, A9, c9, rfl, ha, hv, hv2, h1, h2⟩
  generalize hq7 : rdList 2 rdRow q6.2.2 = q7 at *; have HQ7 := Lib.hid hq7; clear hq7; generalize hq8 : rNum 1 q7.2.2 = q8 at *; have HQ8 := Lib.hid hq8; clear hq8; generalize hq9 : rdList 1 rdWd q8.2 = q9 at *; have HQ9 := Lib.hid hq9; clear hq9; have HR7 := Lib.hid h1; have HK7 := Lib.hid h2; have HA7 := Lib.hid ha; have HV7 := Lib.hid hv; have HV9 := Lib.hid hv2; clear ha hv hv2
  go_simp
  refine hK.out _ _ (hHeld6.on h1 h2) (fun hHeld7 => ?_)
  clear hK K
  (try simp only [Act.put, List.setIfInBounds_toArray, List.set_cons_zero, List.set_cons_succ])
  refine wpAnyH_ready (rs := [29]) (by kernel_rfl) (by simp) ?_
  refine AllReadyH.cons rfl (fun K hK => ?_) AllReadyH.nil
  go_simp
  refine (rlRel_any 2 (by decide) 49 _ HR7.out (fun _ _ => by go_simp) (fun X b t hX _ => rreloc_any X hX)).mono ?_
  rintro en w8a ⟨A10, c10, y10, B10, rfl, ha, hb, hv, h1, h2⟩
  generalize hq10 : rdList 2 rdRl q9.2.2 = q10 at *; have HQ10 := Lib.hid hq10; clear hq10; have HR8 := Lib.hid h1; have HK8 := Lib.hid h2; have HA8 := Lib.hid ha; have HV10 := Lib.hid hv; clear ha hb hv
  go_simp
  refine hK.out _ _ (hHeld7.on h1 h2) (fun hHeld8 => ?_)
  clear hK K
  (try simp only [Act.put, List.setIfInBounds_toArray, List.set_cons_zero, List.set_cons_succ])
  refine wpAnyH_ready (rs := [33]) (by kernel_rfl) (by simp) ?_
  refine AllReadyH.cons rfl (fun K hK => ?_) AllReadyH.nil
  go_simp
  refine (rlSlot_any 2 (by decide) 51 _ HR8.out (fun _ _ => by go_simp) (fun X b t hX _ => rslot_any X hX)).mono ?_
  rintro en w9a ⟨A11, c11, y11, B11, rfl, ha, hb, hv, h1, h2⟩
  generalize hq11 : rdList 2 rdSl q10.2.2 = q11 at *; have HQ11 := Lib.hid hq11; clear hq11; have HR9 := Lib.hid h1; have HK9 := Lib.hid h2; have HA9 := Lib.hid ha; have HV11 := Lib.hid hv; clear ha hb hv
  go_simp
  refine hK.out _ _ (hHeld8.on h1 h2) (fun hHeld9 => ?_)
  clear hK K
  (try simp only [Act.put, List.setIfInBounds_toArray, List.set_cons_zero, List.set_cons_succ])
  refine wpAnyH_ready (rs := [35]) (by kernel_rfl) (by simp) ?_
  refine AllReadyH.cons rfl (fun K hK => ?_) AllReadyH.nil
  go_simp
  refine (rruns_any _ HR9.out).mono ?_
  rintro en w10a ⟨y12, B12, rfl, ha, hv, h1, h2⟩
  generalize hq12 : rdRuns q11.2.2 = q12 at *; have HQ12 := Lib.hid hq12; clear hq12; have HR10 := Lib.hid h1; have HK10 := Lib.hid h2; have HA10 := Lib.hid ha; have HV12 := Lib.hid hv; clear ha hv
  go_simp
  refine hK.out _ _ (hHeld9.on h1 h2) (fun hHeld10 => ?_)
  clear hK K
  (try simp only [Act.put, List.setIfInBounds_toArray, List.set_cons_zero, List.set_cons_succ])
  refine wpAnyH_ready (rs := [37]) (by kernel_rfl) (by simp) ?_
  refine AllReadyH.cons rfl (fun K hK => ?_) AllReadyH.nil
  go_simp
  refine (rruns_any _ HR10.out).mono ?_
  rintro en w11a ⟨y13, B13, rfl, ha, hv, h1, h2⟩
  generalize hq13 : rdRuns q12.2.2 = q13 at *; have HQ13 := Lib.hid hq13; clear hq13; have HR11 := Lib.hid h1; have HK11 := Lib.hid h2; have HA11 := Lib.hid ha; have HV13 := Lib.hid hv; clear ha hv
  go_simp
  refine hK.out _ _ (hHeld10.on h1 h2) (fun hHeld11 => ?_)
  clear hK K
  (try simp only [Act.put, List.setIfInBounds_toArray, List.set_cons_zero, List.set_cons_succ])
  refine wpAnyH_ready (rs := [42]) (by kernel_rfl) (by simp) ?_
  refine AllReadyH.cons rfl (fun K hK => ?_) AllReadyH.nil
  go_simp
  refine (HR11.out.num 2).mono ?_
  rintro en w12a ⟨rfl, h1, h2⟩
  generalize hq14 : rNum 2 q13.2.2 = q14 at *; have HQ14 := Lib.hid hq14; clear hq14; have HR12 := Lib.hid h1; have HK12 := Lib.hid h2
  go_simp
  refine hK.out _ _ (hHeld11.on h1 h2) (fun hHeld12 => ?_)
  clear hK K
  (try simp only [Act.put, List.setIfInBounds_toArray, List.set_cons_zero, List.set_cons_succ])
  refine wpAnyH_ready (rs := [47]) (by kernel_rfl) (by simp) ?_
  refine AllReadyH.cons rfl (fun K hK => ?_) AllReadyH.nil
  go_simp
  refine (HR12.out.block).mono ?_
  rintro en w13a ⟨A15, c15, rfl, ho, h1, h2⟩
  generalize hq15 : rMeas 4 1048576 q14.2 = q15 at *; have HQ15 := Lib.hid hq15; clear hq15; have HR13 := Lib.hid h1; have HK13 := Lib.hid h2; have HO := Lib.hid ho; clear ho
  go_simp
  refine hK.out _ _ (hHeld12.on h1 h2) (fun hHeld13 => ?_)
  clear hK K
  (try simp only [Act.put, List.setIfInBounds_toArray, List.set_cons_zero, List.set_cons_succ])
  refine take_at (i := 48) (d := 53) (v := .agg #[str q1.1, .int .i64 q2.1, .slice A3 y3.length c3, .slice A4 y4.length c4, .slice A5 y5.length c5, .slice A6 y6.length c6, .slice A7 y7.length c7, .slice A9 y9.length c9, .int .i64 q8.1, .slice A10 y10.length c10, .slice A11 y11.length c11, .slice B12.1 y12.length B12.2, .slice B13.1 y13.length B13.2, .slice A15 q15.1.length c15, .int .i64 q14.1]) rfl rfl (by kernel_rfl) (by kernel_rfl) (by kernel_rfl) (fun _ _ _ h => h) (Or.inl ⟨by rfl, ?_⟩) (by assumption) ?_
  · intro X hX; go_simp
  (try simp only [Act.put, List.setIfInBounds_toArray, List.set_cons_zero, List.set_cons_succ])
  refine wpAnyH_ready (rs := [49]) (by kernel_rfl) (by simp) ?_
  refine AllReadyH.cons rfl (fun K hK => ?_) AllReadyH.nil
  rw [if_pos (by rfl)]
  obtain ⟨cs0, hcs, hB0⟩ := hHeld13.2.1
  refine wp_store_row 40 (.tmp 2) (.tmp 53) rfl gr #[str q1.1, .int .i64 q2.1, .slice A3 y3.length c3, .slice A4 y4.length c4, .slice A5 y5.length c5, .slice A6 y6.length c6, .slice A7 y7.length c7, .slice A9 y9.length c9, .int .i64 q8.1, .slice A10 y10.length c10, .slice A11 y11.length c11, .slice B12.1 y12.length B12.2, .slice B13.1 y13.length B13.2, .slice A15 q15.1.length c15, .int .i64 q14.1] rfl rfl 40 cs0 hB0 Tryz.info_img (by rw [hcs]; rfl) (by simp [Value.oneCell']) ?_
  refine hK.out _ _ (hHeld13.row _ rfl) (fun hHeldZ => ?_)
  clear hK K
  refine wpAnyH_done (by kernel_rfl) ?_ _
  have HRZ := Lib.hid (HR13.out.row (gr := gr) hHeld13.2.2.2 #[str q1.1, .int .i64 q2.1, .slice A3 y3.length c3, .slice A4 y4.length c4, .slice A5 y5.length c5, .slice A6 y6.length c6, .slice A7 y7.length c7, .slice A9 y9.length c9, .int .i64 q8.1, .slice A10 y10.length c10, .slice A11 y11.length c11, .slice B12.1 y12.length B12.2, .slice B13.1 y13.length B13.2, .slice A15 q15.1.length c15, .int .i64 q14.1])
  have HKZ := Lib.hid (Kr.row (gr := gr) ((HKS.out.trans HKM.out).trans ((Kr.of_below (drew_below wm)).trans (HK1.out.trans ((((((((((((HK2.out).trans HK3.out).trans HK4.out).trans HK5.out).trans HK6.out).trans HK7.out).trans HK8.out).trans HK9.out).trans HK10.out).trans HK11.out).trans HK12.out).trans HK13.out)))) (by omega) #[str q1.1, .int .i64 q2.1, .slice A3 y3.length c3, .slice A4 y4.length c4, .slice A5 y5.length c5, .slice A6 y6.length c6, .slice A7 y7.length c7, .slice A9 y9.length c9, .int .i64 q8.1, .slice A10 y10.length c10, .slice A11 y11.length c11, .slice B12.1 y12.length B12.2, .slice B13.1 y13.length B13.2, .slice A15 q15.1.length c15, .int .i64 q14.1])
  have hBZ := hHeld13.put #[str q1.1, .int .i64 q2.1, .slice A3 y3.length c3, .slice A4 y4.length c4, .slice A5 y5.length c5, .slice A6 y6.length c6, .slice A7 y7.length c7, .slice A9 y9.length c9, .int .i64 q8.1, .slice A10 y10.length c10, .slice A11 y11.length c11, .slice B12.1 y12.length B12.2, .slice B13.1 y13.length B13.2, .slice A15 q15.1.length c15, .int .i64 q14.1]
  have HST := Lib.hid (Steps.mk (s := s) HQ0.out HQ1.out HQ2.out HQ3.out HQ4.out HQ5.out HQ6.out HQ7.out HQ8.out HQ9.out HQ10.out HQ11.out HQ12.out HQ13.out HQ14.out HQ15.out)
  have l2 := hHeld2.lt
  have l3 := hHeld3.lt
  have l4 := hHeld4.lt
  have l5 := hHeld5.lt
  have l6 := hHeld6.lt
  have l7 := hHeld7.lt
  have l8 := hHeld8.lt
  have l9 := hHeld9.lt
  have l10 := hHeld10.lt
  have l11 := hHeld11.lt
  have l12 := hHeld12.lt
  have HIN := Lib.hid (show ImIn (World.setRow w13a gr #[str q1.1, .int .i64 q2.1, .slice A3 y3.length c3, .slice A4 y4.length c4, .slice A5 y5.length c5, .slice A6 y6.length c6, .slice A7 y7.length c7, .slice A9 y9.length c9, .int .i64 q8.1, .slice A10 y10.length c10, .slice A11 y11.length c11, .slice B12.1 y12.length B12.2, .slice B13.1 y13.length B13.2, .slice A15 q15.1.length c15, .int .i64 q14.1]) (fun k => gr ≤ k ∧ k < (World.setRow w13a gr #[str q1.1, .int .i64 q2.1, .slice A3 y3.length c3, .slice A4 y4.length c4, .slice A5 y5.length c5, .slice A6 y6.length c6, .slice A7 y7.length c7, .slice A9 y9.length c9, .int .i64 q8.1, .slice A10 y10.length c10, .slice A11 y11.length c11, .slice B12.1 y12.length B12.2, .slice B13.1 y13.length B13.2, .slice A15 q15.1.length c15, .int .i64 q14.1]).heap.size) ⟨(A3, c3), (A4, c4), (A5, c5), (A6, c6), (A7, c7), (A9, c9), (A10, c10), (A11, c11), B12, B13, (A15, c15)⟩ ⟨q1.1, q2.1, y3, y4, y5, y6, y7, y9, q8.1, y10, y11, y12, y13, q15.1, q14.1⟩ from
    im_row HG.out l2 l3 l4 l5 l6 l7 l8 l9 l10 l12 HK4.out HK5.out HK6.out HK7.out HK8.out HK9.out HK10.out HK11.out HK12.out HK13.out HA3.out HB3.out HA4.out HB4.out HA5.out HA6.out HA7.out HA8.out HA9.out HA10.out HA11.out HO.out _)
  clear hB0 hcs
  generalize (World.setRow w13a gr #[str q1.1, .int .i64 q2.1, .slice A3 y3.length c3, .slice A4 y4.length c4, .slice A5 y5.length c5, .slice A6 y6.length c6, .slice A7 y7.length c7, .slice A9 y9.length c9, .int .i64 q8.1, .slice A10 y10.length c10, .slice A11 y11.length c11, .slice B12.1 y12.length B12.2, .slice B13.1 y13.length B13.2, .slice A15 q15.1.length c15, .int .i64 q14.1]) = wz at *
  have e0 := hBZ.c 0
  have e1 := hBZ.c 1
  have e2 := hBZ.c 2
  have e3 := hBZ.c 3
  have e4 := hBZ.c 4
  have e5 := hBZ.c 5
  have e6 := hBZ.c 6
  have e7 := hBZ.c 7
  have e8 := hBZ.c 8
  have e9 := hBZ.c 9
  have e10 := hBZ.c 10
  have e11 := hBZ.c 11
  have e12 := hBZ.c 12
  have e13 := hBZ.c 13
  have e14 := hBZ.c 14
  simp only [List.getElem?_toArray, List.getElem?_cons_zero, List.getElem?_cons_succ] at e0 e1 e2 e3 e4 e5 e6 e7 e8 e9 e10 e11 e12 e13 e14
  clear hBZ
  go_wp2_with fail
  refine bodyPost_ret (v := .agg #[str q1.1, .int .i64 q2.1, .slice A3 y3.length c3, .slice A4 y4.length c4, .slice A5 y5.length c5, .slice A6 y6.length c6, .slice A7 y7.length c7, .slice A9 y9.length c9, .int .i64 q8.1, .slice A10 y10.length c10, .slice A11 y11.length c11, .slice B12.1 y12.length B12.2, .slice B13.1 y13.length B13.2, .slice A15 q15.1.length c15, .int .i64 q14.1]) (by simp [results, Tryz.results17, go_sem, e0, e1, e2, e3, e4, e5, e6, e7, e8, e9, e10, e11, e12, e13, e14]) rfl ?_
  have hst := HST.out
  have hfi := hst.fine
  have him := hst.im
  generalize rdIm s = ri at *
  refine it_im2 him ⟨(A3, c3), (A4, c4), (A5, c5), (A6, c6), (A7, c7), (A9, c9), (A10, c10), (A11, c11), B12, B13, (A15, c15)⟩ ⟨q1.1, q2.1, y3, y4, y5, y6, y7, y9, q8.1, y10, y11, y12, y13, q15.1, q14.1⟩ im_ret (by rw [hgr]; exact HIN.out) (fun h0 => ?_) (by rw [bads]; exact HRZ.out) HKZ.out
  obtain ⟨z3, z4, z5, z6, z7, z9, z10, z11, z12, z13⟩ := hfi h0
  rw [HV3.out z3, HV4.out z4, HV5.out z5, HV6.out z6, HV7.out z7, HV9.out z9, HV10.out z10, HV11.out z11, HV12.out z12, HV13.out z13]
  rfl
end Go.Proofs.YtfljignkjmabpaaGreat

namespace Go.Proofs.YtfljignkjmabpaaGreat
set_option maxRecDepth 100000
set_option linter.unusedSimpArgs false
set_option linter.unusedVariables false
open Go.RowKit

/-- Whatever a reading begins with, what it hands back has this. -/
def Gv {α : Type} (r : St → α × Bool × St) (Q : α → Prop) : Prop := ∀ s, Q (r s).1
section
variable {α β : Type} {r : St → α × Bool × St} {Q : α → Prop}
theorem Gv.pair {r2 : St → β × Bool × St} {Q2 : β → Prop} (h : Gv r Q) (h2 : Gv r2 Q2) : Gv (rdPair r r2) (fun p => Q p.1 ∧ Q2 p.2) := fun s => ⟨h s, h2 _⟩
theorem Gv.weak {Q2 : α → Prop} (h : Gv r Q) (k : ∀ x, Q x → Q2 x) : Gv r Q2 := fun s => k _ (h s)
theorem Gv.many (h : Gv r Q) : ∀ n s, ∀ x ∈ (rdMany r n s).1, Q x
  | 0, s, x, hx => by cases hx
  | n + 1, s, x, hx => by
    rcases List.mem_cons.1 hx with rfl | hx
    · exact h s
    · exact Gv.many h n _ x hx
theorem Gv.list (h : Gv r Q) {size : Int} (h2 : size ≤ 2) : Gv (rdList size r) (fun l => Long l.length ∧ ∀ x ∈ l, Q x) := fun s => by
  refine ⟨?_, h.many _ _⟩
  unfold rdList
  rw [rdMany_len]
  have := rNum_top h2 s
  unfold Long
  omega
end
theorem meas_most (size most : Nat) (s : St) : (rMeas size most s).1.length ≤ most := by
  unfold rMeas
  split
  · split
    · exact Nat.zero_le _
    · split
      · exact Nat.zero_le _
      · split
        · exact Nat.zero_le _
        · simp
          omega
  · exact Nat.zero_le _
theorem gvNum (size : Int) : Gv (rdNum size) I64 := fun s => rNum_i64 size s
theorem gvText : Gv rdText (fun l : Str => Long l.length) := fun s => by
  have := meas_most 2 4096 s
  show Long (rMeas 2 4096 s).1.length
  unfold Long
  omega
theorem gvBlock : Gv rdBlock (fun l : Str => Long l.length) := fun s => by
  have := meas_most 4 1048576 s
  show Long (rMeas 4 1048576 s).1.length
  unfold Long
  omega
theorem gvTx : Gv rdTx (fun l : List Str => Long l.length ∧ ∀ x ∈ l, Long x.length) := gvText.list (by decide)
theorem gvRuns : Gv rdRuns (fun l : List Int => Long l.length ∧ ∀ x ∈ l, I64 x) := (gvNum 4).list (by decide)
theorem gvRow : Gv rdRow (fun l : List Int => Long l.length ∧ ∀ x ∈ l, I64 x) := (gvNum 2).list (by decide)
theorem Gv.map {α β : Type} {r : St → α × Bool × St} {Q : α → Prop} {Q2 : β → Prop} (f : α → β) (h : Gv r Q) (k : ∀ x, Q x → Q2 (f x)) : Gv (fun s => (f (r s).1, (r s).2)) Q2 := fun s => k _ (h s)
def QSg (x : Sg) : Prop := I64 x.at_ ∧ I64 x.size ∧ I64 x.perm ∧ Long x.bs.length
def QNd (x : Nd) : Prop := Long x.name.length ∧ Long x.vers.length ∧ ∀ v ∈ x.vers, Long v.length
def QRl (x : Rl) : Prop := I64 x.at_ ∧ I64 x.kind ∧ I64 x.sym ∧ I64 x.add
def QSl (x : Sl) : Prop := I64 x.at_ ∧ I64 x.sym ∧ I64 x.stub
def QSym (x : Sym) : Prop := Long x.name.length ∧ Long x.ver.length ∧ I64 x.kind ∧ I64 x.vis ∧ I64 x.val ∧ I64 x.size
theorem gvAny {α : Type} (r : St → α × Bool × St) : Gv r (fun _ => True) := fun _ => trivial
theorem gvSg : Gv rdSg QSg := Gv.map mkSg ((gvNum 4).pair ((gvNum 4).pair ((gvNum 1).pair gvBlock))) (fun x h => h)
theorem gvNd : Gv rdNd QNd := Gv.map mkNd (gvText.pair gvTx) (fun x h => h)
theorem gvRl : Gv rdRl QRl := Gv.map (r := rdRlP) mkRl ((gvNum 1).pair ((gvNum 8).pair ((gvNum 8).pair (gvNum 8)))) (fun x h => ⟨h.2.1, h.1, h.2.2.1, h.2.2.2⟩)
theorem gvSl : Gv rdSl QSl := Gv.map (r := rdSlP) mkSl ((gvNum 4).pair ((gvNum 4).pair (gvNum 4))) (fun x h => h)
theorem gvSym : Gv rdSym QSym := Gv.map (r := rdSymP) mkSym (gvText.pair (gvText.pair ((gvNum 1).pair ((gvNum 1).pair ((gvAny rdBit).pair ((gvAny rdBit).pair ((gvAny rdBit).pair ((gvNum 8).pair (gvNum 8)))))))))
  (fun x h => ⟨h.1, h.2.1, h.2.2.1, h.2.2.2.1, h.2.2.2.2.2.2.2.1, h.2.2.2.2.2.2.2.2⟩)
theorem gvIm : Gv rdIm Fit := Gv.map (r := rdImP) mkIm ((gvAny rdMark).pair (gvText.pair ((gvNum 1).pair ((gvSg.list (size := 1) (by decide)).pair ((gvNd.list (size := 1) (by decide)).pair (gvTx.pair ((gvSym.list (size := 2) (by decide)).pair ((gvRow.list (size := 2) (by decide)).pair ((gvNum 1).pair (((gvAny rdWd).list (size := 1) (by decide)).pair ((gvRl.list (size := 2) (by decide)).pair ((gvSl.list (size := 2) (by decide)).pair (gvRuns.pair (gvRuns.pair ((gvNum 2).pair gvBlock)))))))))))))))
  (fun x h => by
    obtain ⟨x0, x1, x2, x3, x4, x5, x6, x7, x8, x9, x10, x11, x12, x13, x14, x15⟩ := x
    obtain ⟨_, h1, h2, ⟨h3, d3⟩, ⟨h4, d4⟩, ⟨h5, d5⟩, ⟨h6, d6⟩, ⟨h7, d7⟩, h8, ⟨h9, _⟩, ⟨h10, d10⟩, ⟨h11, d11⟩, ⟨h12, d12⟩, ⟨h13, d13⟩, h14, h15⟩ := h
    exact ⟨h1, h2, h3, d3, h4, d4, h5, d5, h6, d6, h7, d7, h9, h8, h10, d10, h11, d11, h12, d12, h13, d13, h15, h14⟩)

/-- What bytes are as an image: the error. -/
def decE (l : Str) : Int := if (rdIm (0, l)).2.1 = true ∨ (rdIm (0, l)).2.2.1 ≠ 0 ∨ (rdIm (0, l)).2.2.2 ≠ [] then 98 else mayE (rdIm (0, l)).1
/-- The image that bytes are. -/
def decI (l : Str) : Im := (rdIm (0, l)).1
theorem dec_bad {l : Str} (h : (rdIm (0, l)).2.1 = true ∨ (rdIm (0, l)).2.2.1 ≠ 0 ∨ (rdIm (0, l)).2.2.2 ≠ []) : decE l = 98 := by unfold decE; rw [if_pos h]
theorem dec_good {l : Str} (h : ¬ ((rdIm (0, l)).2.1 = true ∨ (rdIm (0, l)).2.2.1 ≠ 0 ∨ (rdIm (0, l)).2.2.2 ≠ [])) : decE l = mayE (decI l) := by unfold decE decI; rw [if_neg h]
theorem dec_fit (l : Str) : Fit (decI l) := gvIm _
/-- An image comes back from its bytes. -/
theorem dec_form {x : Im} (h : mayE x = 0) (hf : Fit x) : decI (formL x) = x ∧ decE (formL x) = 0 := by
  obtain ⟨_, h2, _⟩ := form_ok h hf
  have := h2 []
  rw [List.append_nil] at this
  have e : decI (formL x) = x := by unfold decI; rw [this]
  refine ⟨e, ?_⟩
  rw [dec_good (by rw [this]; simp), e]
  exact h
end Go.Proofs.YtfljignkjmabpaaGreat

namespace Go.Proofs.YtfljignkjmabpaaGreat
set_option maxRecDepth 100000
set_option linter.unusedSimpArgs false
set_option linter.unusedVariables false
open Go.RowKit

/-- An image with nothing in it. -/
abbrev zIm : Array Value := #[.string ⟨#[]⟩, .int .i64 0, .slice none 0 0, .slice none 0 0, .slice none 0 0, .slice none 0 0, .slice none 0 0, .slice none 0 0, .int .i64 0, .slice none 0 0, .slice none 0 0, .slice none 0 0, .slice none 0 0, .slice none 0 0, .int .i64 0]
/-- What Decode hands back. -/
def DecX (d : Int) (x : Im) (w : World) (e : Ending) (w' : World) : Prop :=
  (d ≠ 0 ∧ e = .returned (.tuple #[.agg zIm, .int .i64 d]) ∧ Below w.heap.size w w') ∨
  (d = 0 ∧ ∃ p, e = .returned (.tuple #[imV p x, .int .i64 0]) ∧ ImIn w' (fun k => w.heap.size ≤ k ∧ k < w'.heap.size) p x ∧ Below w.heap.size w w')
def Dec (w : World) (l : Str) : Ending → World → Prop := DecX (decE l) (decI l) w
theorem Ri.start {w : World} {B g c : Nat} {A : Option Addr} {l : Str} (h : Rd w (fun k => B ≤ k ∧ k < g) g 0 A c l) : Ri (w.alloc (.cells #[.pointer (some ⟨g, 0, none⟩), .bool false] 66)) w.heap.size g false (0, l) := by
  have hb : Below w.heap.size w (w.alloc (.cells #[.pointer (some ⟨g, 0, none⟩), .bool false] 66)) := (Below.refl _ _).alloc (Nat.le_refl _) _
  have hg := h.lt
  refine ⟨⟨A, c, ⟨(hb.block g hg).trans h.blk, (h.src.keep fun k hk hl => hb.block k hl).weak fun k hk => hk.2, by simp, h.lim, h.small⟩⟩, Bx.new _ _ _, hg⟩

theorem below_row {w w5 : World} {B r : Nat} (h : Below B w w5) (hr : B ≤ r) (cs : Array Value) : Below B w (w5.setRow r cs) :=
  ⟨h.os, h.tape, h.output, by rw [setRow_size]; exact h.size, fun k hk => (setRow_other w5 r k cs (by omega)).trans (h.block k hk)⟩
theorem rend_zero {t : St} (h : rEnd t = 0) : t.1 = 0 ∧ t.2 = [] := by
  unfold rEnd at h
  split at h
  · cases h
  · rename_i hn
    exact ⟨h, Decidable.byContradiction fun e => hn ⟨h, e⟩⟩
theorem rend_not {t : St} (h : ¬ rEnd t = 0) : t.1 ≠ 0 ∨ t.2 ≠ [] := by
  by_cases h1 : t.1 = 0
  · right
    intro h2
    apply h
    unfold rEnd
    rw [if_neg (by simp [h2])]
    exact h1
  · exact .inl h1
theorem bx_cells {w : World} {r : Nat} {v0 v1 v2 v3 v4 v5 v6 v7 v8 v9 v10 v11 v12 v13 v14 : Value} (h : Bx w r #[v0, v1, v2, v3, v4, v5, v6, v7, v8, v9, v10, v11, v12, v13, v14] 40) :
    w.cell? ⟨r, 0, none⟩ = some v0 ∧ w.cell? ⟨r, 1, none⟩ = some v1 ∧ w.cell? ⟨r, 2, none⟩ = some v2 ∧ w.cell? ⟨r, 3, none⟩ = some v3 ∧ w.cell? ⟨r, 4, none⟩ = some v4 ∧ w.cell? ⟨r, 5, none⟩ = some v5 ∧ w.cell? ⟨r, 6, none⟩ = some v6 ∧ w.cell? ⟨r, 7, none⟩ = some v7 ∧
    w.cell? ⟨r, 8, none⟩ = some v8 ∧ w.cell? ⟨r, 9, none⟩ = some v9 ∧ w.cell? ⟨r, 10, none⟩ = some v10 ∧ w.cell? ⟨r, 11, none⟩ = some v11 ∧ w.cell? ⟨r, 12, none⟩ = some v12 ∧ w.cell? ⟨r, 13, none⟩ = some v13 ∧ w.cell? ⟨r, 14, none⟩ = some v14 :=
  ⟨h.c 0, h.c 1, h.c 2, h.c 3, h.c 4, h.c 5, h.c 6, h.c 7, h.c 8, h.c 9, h.c 10, h.c 11, h.c 12, h.c 13, h.c 14⟩
theorem wpl_store_im {ops : Array Oper} {rest : List Oper} {u v : Tmp} {q : TypeId} {s : String} {af : Array Edge} {a : Act} {w : World} {Q : Exit → Act → World → Prop} {r : Nat} {old cs : Array Value} (hb : Bx w r old 40) (ho : old.size = 15) (hs : cs.size = 15) (h1 : cs.all (·.oneCell') = true)
    (hu : a.eval (.tmp u) = .pointer (some ⟨r, 0, none⟩)) (hv : a.eval (.tmp v) = .agg cs) (h : wpList Tryz.prog ops Q rest a (w.setRow r cs)) : wpList Tryz.prog ops Q (⟨none, .store 40 (.tmp u) (.tmp v), q, s, af, none⟩ :: rest) a w :=
  wpList_plain rfl fun _ hK => wp_store_row 40 _ _ rfl r cs hu hv 40 old hb (by rw [hs]; exact Tryz.info_img) (by rw [ho, hs]) h1 (hK _ _ h)
theorem wpl_load_im {ops : Array Oper} {rest : List Oper} {t u : Tmp} {q : TypeId} {s : String} {af : Array Edge} {a : Act} {w : World} {Q : Exit → Act → World → Prop} {r : Nat} {p : Pl} {x : Im} (hb : Ix w r p x) (hu : a.eval (.tmp u) = .pointer (some ⟨r, 0, none⟩))
    (h : wpList Tryz.prog ops Q rest (a.put (some t) (imV p x)) w) : wpList Tryz.prog ops Q (⟨some t, .load 40 (.tmp u), q, s, af, none⟩ :: rest) a w :=
  wpList_plain rfl fun _ hK => wp_load_row 40 _ rfl r hu 40 _ (0, 0) _ hb.bx Tryz.underlying40 rfl Tryz.info_img (hK _ _ h)
set_option maxHeartbeats 4000000 in
theorem decode_any (P : Nat → Prop) (A : Option Addr) (n c : Nat) (l : Str) (w : World) (h : Src w P A n c (cells l)) (hn : n ≤ 140737488355328) :
    Calls Tryz.prog 7 #[.slice A n c] w (Dec w l) := by
  unfold Dec
  have HS := Lib.hid h
  have hb1 : Below w.heap.size w (w.alloc (.cells zIm 40)) := (Below.refl _ _).alloc (Nat.le_refl _) _
  have HN := Lib.hid (rnew_any (fun k => k < w.heap.size) A n c l (w.alloc (.cells zIm 40)) (h.lt.below hb1 (fun _ h => h)) hn)
  have HX := Lib.hid (Bx.new w zIm 40)
  have HB1 := Lib.hid hb1
  have hz1 : (w.alloc (.cells zIm 40)).heap.size = w.heap.size + 1 := by simp
  have HZ1 := Lib.hid hz1
  clear h hb1 hz1
  go_enter Tryz.func7, Tryz.ntmps7
  go_upto_region 1 with (fail)
  change Code.wp _ _ _ _ (w.alloc (.cells zIm 40))
  generalize w.alloc (.cells zIm 40) = w1 at *
  go_upto_region 2 with (go_at_call 16; (with_reducible refine (HN.out).mono ?_); rintro en w2 ⟨g, A2, c2, rfl, h2, hb2, hg⟩; have HRD := Lib.hid h2; have HB2 := Lib.hid hb2; have HG := Lib.hid hg; clear h2 hb2 hg)
  have HRI := Lib.hid (Ri.start HRD.out)
  have hbx : Below w2.heap.size w2 (w2.alloc (.cells #[.pointer (some ⟨g, 0, none⟩), .bool false] 66)) := (Below.refl _ _).alloc (Nat.le_refl _) _
  have HB3 := Lib.hid (hbx.mono HB2.out.size)
  have HX3 := Lib.hid ((HX.out.below HB2.out).below hbx)
  clear hbx HRD HN
  change Code.wp _ _ _ _ (w2.alloc (.cells #[.pointer (some ⟨g, 0, none⟩), .bool false] 66))
  generalize w2.alloc (.cells #[.pointer (some ⟨g, 0, none⟩), .bool false] 66) = w3 at *
  generalize hG : w2.heap.size = G at *
  have HIMG := Lib.hid (rimage_any w3 HRI.out)
  go_upto_region 3 with (go_at_call 17; (with_reducible refine (HIMG.out).mono ?_); rintro en w4 ⟨p, y, rfl, hin, hy, hri, hkr⟩; have HIN := Lib.hid hin; have HY := Lib.hid hy; have HR4 := Lib.hid hri; have HK4 := Lib.hid hkr; clear hin hy hri hkr)
  have hbi := ibox_below w4 p y
  have hs2 := HB2.out.size
  have hs3 := HB3.out.size
  have hz1 := HZ1.out
  have hgg := HG.out
  have hBW := (((HB1.out.trans (HB2.out.mono (by omega))).trans (HB3.out.mono (by omega))).trans (HK4.out.to_below (B := w.heap.size) (by omega) (by omega) (by omega))).trans (hbi.mono (by have := HK4.out.size; omega))
  have HBW := Lib.hid hBW
  have HI5 := Lib.hid (Ix.new w4 p y)
  have HR5 := Lib.hid (HR4.out.below hbi)
  have HX5 := Lib.hid ((HK4.out.bx HX3.out (by omega) (by omega)).below hbi)
  have HIN5 := Lib.hid (((HIN.out.keep fun k hk hl => hbi.block k hl).weak fun k hk => ⟨by omega, Nat.lt_of_lt_of_le hk.2 hbi.size⟩ : ImIn (w4.alloc (.cells (imA p y) 40)) (fun k => w.heap.size + 1 ≤ k ∧ k < (w4.alloc (.cells (imA p y) 40)).heap.size) p y))
  clear hbi hs2 hs3 hz1 hgg hBW HIN HR4 HX3 HX HB1 HB2 HB3 HK4 HRI HIMG
  have HD1 := Lib.hid (@dec_bad l)
  have HD2 := Lib.hid (@dec_good l)
  have HDI := Lib.hid (show decI l = (rdIm (0, l)).1 from rfl)
  have HF := Lib.hid (dec_fit l)
  change Code.wp _ _ _ _ (w4.alloc (.cells (imA p y) 40))
  generalize w4.alloc (.cells (imA p y) 40) = w5 at *
  generalize decE l = d at *
  generalize decI l = x at *
  generalize rdIm (0, l) = r at *
  obtain ⟨i, b, t⟩ := r
  simp only [Bool.false_or] at HY HR5 HD1 HD2 HDI
  generalize hQ : w4.heap.size = Q at *
  clear hQ
  have e0 : w5.cell? ⟨G, 0, none⟩ = some (.pointer (some ⟨g, 0, none⟩)) := HR5.out.c0
  have e1 : w5.cell? ⟨G, 1, none⟩ = some (.bool b) := HR5.out.c1
  have HEN := Lib.hid HR5.out.end_
  cases b with
  | true =>
    have hd := HD1.out (.inl rfl)
    subst hd
    go_upto_region 4 with (fail)
    refine wp_region_lit ?_
    refine wpList_plain rfl fun K hK => ?_
    go_simp
    refine hK _ _ ?_
    clear hK K
    refine wpl_store_im HX5.out rfl (cs := zIm) rfl (by simp [Value.oneCell']) rfl rfl ?_
    have HZ := Lib.hid (setRow_heap w5 w.heap.size zIm zIm 40 (0, 0) HX5.out)
    have HBZ := Lib.hid (below_row HBW.out (Nat.le_refl _) zIm)
    generalize w5.setRow w.heap.size zIm = wz at *
    obtain ⟨k0, k1, k2, k3, k4, k5, k6, k7, k8, k9, k10, k11, k12, k13, k14⟩ := bx_cells HZ.out
    go_wp2_with (fail)
    refine bodyPost_ret (v := .tuple #[.agg zIm, .int .i64 98]) ?_ rfl (.inl ⟨by decide, rfl, HBZ.out⟩)
    rw [results_cell_tmp rfl]
    go_simp
  | false =>
    by_cases hend : rEnd t = 0
    · obtain ⟨t1, t2⟩ := rend_zero hend
      have hd := HD2.out (by simp [t1, t2])
      have hyi := HY.out t1
      have hxi := HDI.out
      rw [hend] at HEN
      subst hxi
      subst hyi
      have HM := Lib.hid (may_im_any p y w5 (HIN5.out.weak fun k hk => hk.2) HF.out)
      rw [← hd] at HM
      have HT := Lib.hid (And.intro t1 t2)
      clear hend t1 t2 hd HD1 HD2 HDI HY HF
      go_upto_region 5 with (go_at_call 18; (with_reducible refine (HEN.out).mono ?_); rintro en wq ⟨rfl, rfl⟩)
      refine wp_region_lit ?_
      refine wpl_load_im HI5.out rfl ?_
      go_upto_region 6 with (go_at_call 15; (with_reducible refine (HM.out).mono ?_); rintro en w6 ⟨rfl, hb6⟩; have HB6 := Lib.hid hb6; clear hb6)
      have HX6 := Lib.hid (HX5.out.below HB6.out)
      have HI6 := Lib.hid (HI5.out.below HB6.out)
      have HBW6 := Lib.hid (HBW.out.trans (HB6.out.mono HBW.out.size))
      have HIN6 := Lib.hid (((HIN5.out.keep fun k hk hl => HB6.out.block k hl).weak fun k hk => ⟨hk.1, Nat.lt_of_lt_of_le hk.2 HB6.out.size⟩ : ImIn w6 (fun k => w.heap.size + 1 ≤ k ∧ k < w6.heap.size) p y))
      by_cases hd0 : d = 0
      · subst hd0
        go_upto_region 8 with (fail)
        refine wp_region_lit ?_
        refine wpl_load_im HI6.out rfl ?_
        refine wpl_store_im HX6.out rfl (cs := imA p y) rfl (by simp [Value.oneCell']) rfl rfl ?_
        have HZ := Lib.hid (setRow_heap w6 w.heap.size zIm (imA p y) 40 (0, 0) HX6.out)
        have HBZ := Lib.hid (below_row HBW6.out (Nat.le_refl _) (imA p y))
        have HIZ := Lib.hid (((HIN6.out.keep fun k hk hl => setRow_other w6 w.heap.size k (imA p y) (by omega)).weak fun k hk => ⟨by omega, by rw [setRow_size]; exact hk.2⟩ : ImIn (w6.setRow w.heap.size (imA p y)) (fun k => w.heap.size ≤ k ∧ k < (w6.setRow w.heap.size (imA p y)).heap.size) p y))
        generalize w6.setRow w.heap.size (imA p y) = wz at *
        obtain ⟨k0, k1, k2, k3, k4, k5, k6, k7, k8, k9, k10, k11, k12, k13, k14⟩ := bx_cells HZ.out
        go_wp2_with (fail)
        refine bodyPost_ret (v := .tuple #[imV p y, .int .i64 0]) ?_ rfl (.inr ⟨rfl, p, rfl, HIZ.out, HBZ.out⟩)
        rw [results_cell_tmp rfl]
        go_simp
      · have hdn : (d == 0) = false := by simpa using hd0
        go_upto_region 7 with (fail)
        refine wp_region_lit ?_
        refine wpList_plain rfl fun K hK => ?_
        go_simp
        refine hK _ _ ?_
        clear hK K
        refine wpList_plain rfl fun K hK => ?_
        go_simp
        refine hK _ _ ?_
        clear hK K
        refine wpl_store_im HX6.out rfl (cs := zIm) rfl (by simp [Value.oneCell']) rfl rfl ?_
        have HZ := Lib.hid (setRow_heap w6 w.heap.size zIm zIm 40 (0, 0) HX6.out)
        have HBZ := Lib.hid (below_row HBW6.out (Nat.le_refl _) zIm)
        generalize w6.setRow w.heap.size zIm = wz at *
        obtain ⟨k0, k1, k2, k3, k4, k5, k6, k7, k8, k9, k10, k11, k12, k13, k14⟩ := bx_cells HZ.out
        go_wp2_with (fail)
        refine bodyPost_ret (v := .tuple #[.agg zIm, .int .i64 d]) ?_ rfl (.inl ⟨hd0, rfl, HBZ.out⟩)
        rw [results_cell_tmp rfl]
        go_simp
    · have hd := HD1.out (.inr (rend_not hend))
      subst hd
      have hen : (rEnd t == 0) = false := by simpa using hend
      clear HD1 HD2
      go_upto_region 4 with (go_at_call 18; (with_reducible refine (HEN.out).mono ?_); rintro en wq ⟨rfl, rfl⟩)
      refine wp_region_lit ?_
      refine wpList_plain rfl fun K hK => ?_
      go_simp
      refine hK _ _ ?_
      clear hK K
      refine wpl_store_im HX5.out rfl (cs := zIm) rfl (by simp [Value.oneCell']) rfl rfl ?_
      have HZ := Lib.hid (setRow_heap w5 w.heap.size zIm zIm 40 (0, 0) HX5.out)
      have HBZ := Lib.hid (below_row HBW.out (Nat.le_refl _) zIm)
      generalize w5.setRow w.heap.size zIm = wz at *
      obtain ⟨k0, k1, k2, k3, k4, k5, k6, k7, k8, k9, k10, k11, k12, k13, k14⟩ := bx_cells HZ.out
      go_wp2_with (fail)
      refine bodyPost_ret (v := .tuple #[.agg zIm, .int .i64 98]) ?_ rfl (.inl ⟨by decide, rfl, HBZ.out⟩)
      rw [results_cell_tmp rfl]
      go_simp
end Go.Proofs.YtfljignkjmabpaaGreat

namespace Go.Proofs.YtfljignkjmabpaaGreat
set_option maxRecDepth 100000
set_option linter.unusedSimpArgs false
set_option linter.unusedVariables false
open Go.RowKit

/-- The box that holds a table. -/
theorem tab_box (w : World) (cs : Array Value) : Below w.heap.size w (w.alloc (.cells cs 35)) ∧ Tx (w.alloc (.cells cs 35)) w.heap.size cs := ⟨(Below.refl _ _).alloc (Nat.le_refl _) _, heap_alloc_new _ _⟩
theorem Tx.below {w w' : World} {b : Nat} {cs : Array Value} (h : Tx w b cs) (hb : Below w.heap.size w w') : Tx w' b cs := (hb.block b (by
  cases hg : w.heap[b]? with
  | none => rw [Tx, hg] at h; cases h
  | some o => exact (Array.getElem?_eq_some_iff.1 hg).1)).trans h
end Go.Proofs.YtfljignkjmabpaaGreat
