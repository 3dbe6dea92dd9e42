/-
  The operands of a line: the program's.
-/
import Derived.Test.YtoebboimdkogpaaDoorM
import Derived.Deep.Cut
namespace Go.Proofs.YtoebboimdkogpaaDoor
open Go.RowKit

def letter (k : Nat) : UInt8 := UInt8.ofNat (97 + k)
theorem form_drop (s : Shp) (hs : s.regs ≤ 3) (k : Nat) (hk : k < s.regs) : (formL s).drop k = letter k :: (formL s).drop (k + 1) := by
  obtain ⟨nm, r, m⟩ := s
  simp only at hs hk
  obtain rfl | rfl | rfl : r = 1 ∨ r = 2 ∨ r = 3 := by omega
  · obtain rfl : k = 0 := by omega
    cases m <;> rfl
  · obtain rfl | rfl : k = 0 ∨ k = 1 := by omega
    all_goals cases m <;> rfl
  · obtain rfl | rfl | rfl : k = 0 ∨ k = 1 ∨ k = 2 := by omega
    all_goals cases m <;> rfl
theorem form_end (s : Shp) (hs : s.regs ≤ 3) : (formL s).drop s.regs = if s.num then [110] else [] := by
  obtain ⟨nm, r, m⟩ := s
  simp only at hs
  obtain rfl | rfl | rfl | rfl : r = 0 ∨ r = 1 ∨ r = 2 ∨ r = 3 := by omega
  all_goals cases m <;> rfl
theorem letter_ne (k : Nat) (hk : k < 3) : letter k ≠ 110 := by
  obtain rfl | rfl | rfl : k = 0 ∨ k = 1 ∨ k = 2 := by omega
  all_goals decide
theorem numOf_reg (k : Nat) (hk : k < 3) (x : Str) : numOf (letter k) x = if Lib.hasPrefix x [114] = true then decM (Lib.trimPrefix x [114]) else none := by
  unfold numOf
  rw [if_neg (letter_ne k hk)]
  cases x with
  | nil => rfl
  | cons r d =>
    by_cases h : r = 114
    · subst h
      have hp : Lib.hasPrefix (114 :: d) [114] = true := by simp [Lib.hasPrefix]
      rw [if_pos hp, Lib.trimPrefix, if_pos hp]
      rfl
    · have hp : Lib.hasPrefix (r :: d) [114] = false := by
        show ([114] : List UInt8).isPrefixOf (r :: d) = false
        simp [List.isPrefixOf, Ne.symm h]
      rw [hp]
      simp [h]
theorem trim_len (x p : Str) : (Lib.trimPrefix x p).length ≤ x.length := by
  unfold Lib.trimPrefix
  split
  · rw [List.length_drop]; omega
  · exact Nat.le_refl _
abbrev regC (i : Ins) : Array Value := #[.int .i64 i.a, .int .i64 i.b, .int .i64 i.c]
theorem set_reg {w : World} {g : Nat} {t : TypeId} {i : Ins} (h : Bx w g (regC i) t) (v : Int) : ∀ (k : Nat), k < 3 → Bx (w.setCell ⟨g, k, none⟩ (.int .i64 v)) g (regC (withP i (letter k) v)) t
  | 0, _ => heap_setCell_same w g 0 _ _ _ h
  | 1, _ => heap_setCell_same w g 1 _ _ _ h
  | 2, _ => heap_setCell_same w g 2 _ _ _ h
theorem withP_n (i : Ins) (k : Nat) (hk : k < 3) (v : Int) : (withP i (letter k) v).n = i.n ∧ (withP i (letter k) v).op = i.op := by
  obtain rfl | rfl | rfl : k = 0 ∨ k = 1 ∨ k = 2 := by omega
  all_goals exact ⟨rfl, rfl⟩
theorem reg_cell {w : World} {g : Nat} {t : TypeId} {i : Ins} (h : Bx w g (regC i) t) : ∀ (k : Nat), k < 3 → ∃ v, w.cell? ⟨g, k, none⟩ = some (.int .i64 v)
  | 0, _ => ⟨_, h.c 0⟩
  | 1, _ => ⟨_, h.c 1⟩
  | 2, _ => ⟨_, h.c 2⟩

theorem Src.plainA {w : World} {P : Nat → Prop} {ad : Addr} {n c : Nat} {xs : List Value} (h : Src w P (some ad) n c xs) (h0 : 0 < n) : ∃ b o, ad = ⟨b, o, none⟩ := by
  obtain ⟨b, o, spot⟩ := ad
  have hl : 0 < xs.length := by rw [h.len]; exact h0
  have h0 := World.cell?_spot (h.at_ _ rfl 0 _ (List.getElem?_eq_getElem hl))
  have hs : spot = none := by simpa [Addr.add] using h0
  subst hs
  exact ⟨b, o, rfl⟩
/-- Where the operands' reading stands. -/
structure OpsAt (w0 w : World) (s : Shp) (i : Ins) : Prop where
  below : Below w0.heap.size w0 w
  shp : Bx w w0.heap.size #[str s.name, .int .i64 s.regs, .bool s.num] 58
  regs : Bx w (w0.heap.size + 1) (regC i) 61
theorem OpsAt.on {w0 w w' : World} {s : Shp} {i : Ins} (h : OpsAt w0 w s i) (hb : Below w.heap.size w w') : OpsAt w0 w' s i :=
  ⟨h.below.trans (hb.mono h.below.size), h.shp.below hb, h.regs.below hb⟩
theorem OpsAt.set {w0 w : World} {s : Shp} {i : Ins} (h : OpsAt w0 w s i) (k : Nat) (hk : k < 3) (v : Int) : OpsAt w0 (w.setCell ⟨w0.heap.size + 1, k, none⟩ (.int .i64 v)) s (withP i (letter k) v) :=
  ⟨h.below.setCell (p := ⟨w0.heap.size + 1, k, none⟩) (by show w0.heap.size ≤ w0.heap.size + 1; omega) _, h.shp.other (by show w0.heap.size ≠ w0.heap.size + 1; omega) _, set_reg h.regs v k hk⟩
/-- Behind the operands' reading. -/
def OpsDone (w : World) (s : Shp) (ws : List Str) (op : Int) (e : Ending) (w' : World) : Prop :=
  Below w.heap.size w w' ∧ ∃ a b c n ok, e = .returned (.tuple #[regsV a b c, .int .i64 n, .bool ok]) ∧ argsM (formL s) ws ⟨op, 0, 0, 0, 0⟩ = if ok = true then some ⟨op, a, b, c, n⟩ else none
theorem set3_bx {w : World} {g : Nat} {t : TypeId} {i : Ins} (h : Bx w g (regC i) t) (v0 v1 v2 : Value) : Bx (((w.setCell ⟨g, 0, none⟩ v0).setCell ⟨g, 1, none⟩ v1).setCell ⟨g, 2, none⟩ v2) g #[v0, v1, v2] t := by
  have h0 := heap_setCell_same w g 0 _ _ v0 h
  have h1 := heap_setCell_same _ g 1 _ _ v1 h0
  exact heap_setCell_same _ g 2 _ _ v2 h1
theorem below_set3 {w w' : World} {B g : Nat} (h : Below B w w') (hg : B ≤ g) (u0 u1 u2 : Value) : Below B w (((w'.setCell ⟨g, 0, none⟩ u0).setCell ⟨g, 1, none⟩ u1).setCell ⟨g, 2, none⟩ u2) :=
  ((h.setCell (p := ⟨g, 0, none⟩) hg u0).setCell (p := ⟨g, 1, none⟩) hg u1).setCell (p := ⟨g, 2, none⟩) hg u2

set_option maxRecDepth 100000 in
set_option maxHeartbeats 2000000 in
theorem operands_any (s : Shp) (hs : s.regs ≤ 3) (ws : List Str) (hw : ∀ x ∈ ws, x.length ≤ 281474976710656) (op : Int) (P : Nat → Prop) (A : Option Addr) (n c : Nat) (w : World) (h : Src w P A n c (strs ws)) (hn : n ≤ 9223372036854775807) (he : Env w) :
    Calls Tryd.prog 51 #[shpV s, .slice A n c] w (OpsDone w s ws op) := by
  have hl : ws.length = n := by simpa [strs_len] using h.len
  have H := Lib.hid h.lt
  have hc := h.cap
  have HE := Lib.hid he
  have h0 : OpsAt w ((w.alloc (.cells #[str s.name, .int .i64 s.regs, .bool s.num] 58)).alloc (.cells #[.int .i64 0, .int .i64 0, .int .i64 0] 61)) s ⟨op, 0, 0, 0, 0⟩ :=
    ⟨((Below.refl w.heap.size w).alloc (Nat.le_refl _) _).alloc (by simp) _, (Bx.new w _ _).alloc _, by simpa using Bx.new (w.alloc (.cells #[str s.name, .int .i64 s.regs, .bool s.num] 58)) #[.int .i64 0, .int .i64 0, .int .i64 0] 61⟩
  have HF := Lib.hid (formL_len s hs)
  have HFD := Lib.hid (form_drop s hs)
  have HFE := Lib.hid (form_end s hs)
  obtain ⟨nm, r, m⟩ := s
  simp only at hs h0 HF HFD HFE
  generalize hfo : formL ⟨nm, r, m⟩ = fo at *
  have H0 := Lib.hid h0
  clear h he h0
  by_cases hct : n = r + if m then 1 else 0
  · have hrn : r ≤ n := by rw [hct]; exact Nat.le_add_right _ _
    have hsl : ∀ w', (Instr.slice 51 (.slice A n c) none (some (.int .i64 (r : Int))) none).run Tryd.prog w' = .ok (.slice A r c) w' := by
      intro w'
      have hz : (sizeOf (Tryd.prog.elem 51)).run Tryd.prog w' = .ok 1 w' := by kernel_rfl
      rw [run_slice_h (w := w') 51 A n c (by kernel_rfl) .i64 r (by omega) (by omega), hz]
      simp only [Result.andThen, sliced]
      cases A with
      | none => simp
      | some ad => split <;> simp [Addr.add]
    have hrc : (r : Int) ≤ (c : Int) := by omega
    have HCT := Lib.hid hct
    clear hct
    have hgo : (((n : Int) != (r : Int) + if m then 1 else 0)) = false := by
      rw [HCT.out]
      cases m <;> simp
    cases m
    all_goals
      simp only [if_true, if_false, Bool.false_eq_true, Int.add_zero] at hgo HCT HFE
      go_enter Tryd.func51, Tryd.ntmps51
      go_wp2_with fail
      go_loopw [28] (fun t wr => ∃ (k : Nat) (i : Ins), k ≤ r ∧ t = .int .i64 k ∧ OpsAt w wr _ i ∧ i.n = 0 ∧ i.op = op ∧ argsM fo ws ⟨op, 0, 0, 0, 0⟩ = argsM (fo.drop k) (ws.drop k) i) (fun t _ => 3 - (intOf t).toNat)
      case atStart => exact ⟨0, ⟨op, 0, 0, 0, 0⟩, by omega, rfl, H0.out, rfl, rfl, rfl⟩
      case round =>
        obtain ⟨k, i, hk, rfl, hat, hin, hio, harg⟩ := hrel
        have HAT := Lib.hid hat
        have HIN := Lib.hid hin
        have HIO := Lib.hid hio
        have HAR := Lib.hid harg
        clear hat hin hio harg H0
        have hk3 : k < r → k < 3 := fun h => by omega
        by_cases hkr : k < r
        · have hkw : k < ws.length := by omega
          cases A with
          | none => have := (H.out.nil rfl).1; omega
          | some ad =>
            have hpl := H.out.plainA (by omega)
            obtain ⟨b, o, rfl⟩ := hpl
            have hcell : wr.cell? ⟨b, o + k, none⟩ = some (str ws[k]) := by
              have h1 := (H.out.below HAT.out.below (fun _ h => h)).at_ _ rfl k (str ws[k]) (by simp [strs, hkw])
              rwa [plainAdd] at h1
            have hxl := hw ws[k] (List.getElem_mem hkw)
            have HDR := Lib.hid (show argsM fo ws ⟨op, 0, 0, 0, 0⟩ = match numOf (letter k) ws[k] with | none => none | some v => argsM (fo.drop (k + 1)) (ws.drop (k + 1)) (withP i (letter k) v) by
              rw [HAR.out, HFD.out k hkr, List.drop_eq_getElem_cons hkw]
              rfl)
            have HNR := Lib.hid (numOf_reg k (hk3 hkr) ws[k])
            have hcp := Tryd.strings_CutPrefix ⟨(ws[k]).toArray⟩ ⟨#[114]⟩ wr
            have HTL := Lib.hid (trim_len ws[k] [114])
            have hcp' : Calls Tryd.prog 59 #[str ws[k], .string ⟨#[114]⟩] wr fun e w' => e = .returned (.tuple #[str (Lib.trimPrefix ws[k] [114]), .bool (Lib.hasPrefix ws[k] [114])]) ∧ w' = wr := hcp
            have HCP := Lib.hid hcp'
            clear hcp hcp' HAR
            generalize ws[k] = x at *
            generalize Lib.trimPrefix x [114] = d at *
            have HDM := Lib.hid (decimal_any d wr (HE.out.below HAT.out.below) (by have := HTL.out; omega))
            have hk33 : (k : Int) < 3 := by have := hk3 hkr; omega
            obtain ⟨vv, hvv⟩ := reg_cell HAT.out.regs k (hk3 hkr)
            cases hpx : Lib.hasPrefix x [114]
            · rw [hpx] at HCP HNR
              have HNO := Lib.hid (show argsM fo ws ⟨op, 0, 0, 0, 0⟩ = none by rw [HDR.out, HNR.out]; rfl)
              clear hpx HDR HNR
              go_wp2_with fail
              refine HCP.out.mono ?_
              rintro e w2 ⟨rfl, rfl⟩
              go_wp2_with fail
              refine HDM.out.mono ?_
              rintro e w3 ⟨hb3, v, ok, rfl, hdv⟩
              have HAT3 := Lib.hid (HAT.out.on hb3)
              have HAT4 := Lib.hid (HAT3.out.set k (hk3 hkr) v)
              obtain ⟨v3, hv3⟩ := reg_cell HAT3.out.regs k (hk3 hkr)
              have hf3 := HAT3.out.regs.f k
              have HDV := Lib.hid hdv
              clear hb3 hdv hvv
              go_upto_region 11 with (fail)
              generalize w3.setCell ⟨w.heap.size + 1, k, none⟩ (.int .i64 v) = w4 at *
              clear hv3 hf3
              have c0 : w4.cell? ⟨w.heap.size + 1, 0, none⟩ = some (.int .i64 (withP i (letter k) v).a) := HAT4.out.regs.c 0
              have c1 : w4.cell? ⟨w.heap.size + 1, 1, none⟩ = some (.int .i64 (withP i (letter k) v).b) := HAT4.out.regs.c 1
              have c2 : w4.cell? ⟨w.heap.size + 1, 2, none⟩ = some (.int .i64 (withP i (letter k) v).c) := HAT4.out.regs.c 2
              have f0 := HAT4.out.regs.f 0
              have f1 := HAT4.out.regs.f 1
              have f2 := HAT4.out.regs.f 2
              cases ok
              all_goals
                have hq := set3_bx HAT4.out.regs (.int .i64 (withP i (letter k) v).a) (.int .i64 (withP i (letter k) v).b) (.int .i64 (withP i (letter k) v).c)
                have hbq := Lib.hid (below_set3 HAT4.out.below (show w.heap.size ≤ w.heap.size + 1 by omega) (.int .i64 (withP i (letter k) v).a) (.int .i64 (withP i (letter k) v).b) (.int .i64 (withP i (letter k) v).c))
                go_wp2
                generalize ((w4.setCell ⟨w.heap.size + 1, 0, none⟩ (.int .i64 (withP i (letter k) v).a)).setCell ⟨w.heap.size + 1, 1, none⟩ (.int .i64 (withP i (letter k) v).b)).setCell ⟨w.heap.size + 1, 2, none⟩ (.int .i64 (withP i (letter k) v).c) = w5 at *
                have q0 := hq.c 0
                have q1 := hq.c 1
                have q2 := hq.c 2
                exact bodyPost_ret (v := .tuple #[regsV (withP i (letter k) v).a (withP i (letter k) v).b (withP i (letter k) v).c, .int .i64 0, .bool false]) (by simp [results, Tryd.results51, go_sem, q0, q1, q2]) rfl ⟨hbq.out, _, _, _, _, false, rfl, by rw [hfo]; exact HNO.out⟩
            · rw [hpx] at HCP HNR
              have HNR := Lib.hid (HNR.out.trans (if_pos rfl))
              clear hpx
              go_wp2_with fail
              refine HCP.out.mono ?_
              rintro e w2 ⟨rfl, rfl⟩
              go_wp2_with fail
              refine HDM.out.mono ?_
              rintro e w3 ⟨hb3, v, ok, rfl, hdv⟩
              have HAT3 := Lib.hid (HAT.out.on hb3)
              have HAT4 := Lib.hid (HAT3.out.set k (hk3 hkr) v)
              obtain ⟨v3, hv3⟩ := reg_cell HAT3.out.regs k (hk3 hkr)
              have hf3 := HAT3.out.regs.f k
              have HDV := Lib.hid hdv
              clear hb3 hdv hvv
              go_upto_region 11 with (fail)
              generalize w3.setCell ⟨w.heap.size + 1, k, none⟩ (.int .i64 v) = w4 at *
              clear hv3 hf3
              have c0 : w4.cell? ⟨w.heap.size + 1, 0, none⟩ = some (.int .i64 (withP i (letter k) v).a) := HAT4.out.regs.c 0
              have c1 : w4.cell? ⟨w.heap.size + 1, 1, none⟩ = some (.int .i64 (withP i (letter k) v).b) := HAT4.out.regs.c 1
              have c2 : w4.cell? ⟨w.heap.size + 1, 2, none⟩ = some (.int .i64 (withP i (letter k) v).c) := HAT4.out.regs.c 2
              have f0 := HAT4.out.regs.f 0
              have f1 := HAT4.out.regs.f 1
              have f2 := HAT4.out.regs.f 2
              cases ok
              · have HNO := Lib.hid (show argsM fo ws ⟨op, 0, 0, 0, 0⟩ = none by rw [HDR.out, HNR.out, HDV.out]; rfl)
                have hq := set3_bx HAT4.out.regs (.int .i64 (withP i (letter k) v).a) (.int .i64 (withP i (letter k) v).b) (.int .i64 (withP i (letter k) v).c)
                have hbq := Lib.hid (below_set3 HAT4.out.below (show w.heap.size ≤ w.heap.size + 1 by omega) (.int .i64 (withP i (letter k) v).a) (.int .i64 (withP i (letter k) v).b) (.int .i64 (withP i (letter k) v).c))
                go_wp2
                generalize ((w4.setCell ⟨w.heap.size + 1, 0, none⟩ (.int .i64 (withP i (letter k) v).a)).setCell ⟨w.heap.size + 1, 1, none⟩ (.int .i64 (withP i (letter k) v).b)).setCell ⟨w.heap.size + 1, 2, none⟩ (.int .i64 (withP i (letter k) v).c) = w5 at *
                have q0 := hq.c 0
                have q1 := hq.c 1
                have q2 := hq.c 2
                exact bodyPost_ret (v := .tuple #[regsV (withP i (letter k) v).a (withP i (letter k) v).b (withP i (letter k) v).c, .int .i64 0, .bool false]) (by simp [results, Tryd.results51, go_sem, q0, q1, q2]) rfl ⟨hbq.out, _, _, _, _, false, rfl, by rw [hfo]; exact HNO.out⟩
              · have HYE := Lib.hid (show argsM fo ws ⟨op, 0, 0, 0, 0⟩ = argsM (fo.drop (k + 1)) (ws.drop (k + 1)) (withP i (letter k) v) by rw [HDR.out, HNR.out, HDV.out]; rfl)
                have HWN := Lib.hid (withP_n i k (hk3 hkr) v)
                go_wp2
                exact ⟨⟨k + 1, withP i (letter k) v, by omega, by go_num, HAT4.out, by rw [HWN.out.1]; exact HIN.out, by rw [HWN.out.2]; exact HIO.out, HYE.out⟩, by simp [intOf]; omega⟩
        · obtain rfl : k = r := by omega
          first
          | (have hnk : n = k := by have := HCT.out; omega
             have HYE := Lib.hid (show argsM fo ws ⟨op, 0, 0, 0, 0⟩ = some ⟨op, i.a, i.b, i.c, 0⟩ by
               rw [HAR.out, HFE.out, List.drop_of_length_le (by omega), ← HIO.out, ← HIN.out]
               rfl)
             have HAT4 := HAT
             generalize wr = w4 at *
             have c0 : w4.cell? ⟨w.heap.size + 1, 0, none⟩ = some (.int .i64 i.a) := HAT4.out.regs.c 0
             have c1 : w4.cell? ⟨w.heap.size + 1, 1, none⟩ = some (.int .i64 i.b) := HAT4.out.regs.c 1
             have c2 : w4.cell? ⟨w.heap.size + 1, 2, none⟩ = some (.int .i64 i.c) := HAT4.out.regs.c 2
             have s1 : w4.cell? ⟨w.heap.size, 1, none⟩ = some (.int .i64 k) := HAT4.out.shp.c 1
             have s2 : w4.cell? ⟨w.heap.size, 2, none⟩ = some (.bool _) := HAT4.out.shp.c 2
             have f0 := HAT4.out.regs.f 0
             have f1 := HAT4.out.regs.f 1
             have f2 := HAT4.out.regs.f 2
             clear HAT HAR
             have hq := set3_bx HAT4.out.regs (.int .i64 i.a) (.int .i64 i.b) (.int .i64 i.c)
             have hbq := Lib.hid (below_set3 HAT4.out.below (show w.heap.size ≤ w.heap.size + 1 by omega) (.int .i64 i.a) (.int .i64 i.b) (.int .i64 i.c))
             go_wp2
             generalize ((w4.setCell ⟨w.heap.size + 1, 0, none⟩ (.int .i64 i.a)).setCell ⟨w.heap.size + 1, 1, none⟩ (.int .i64 i.b)).setCell ⟨w.heap.size + 1, 2, none⟩ (.int .i64 i.c) = w5 at *
             have q0 := hq.c 0
             have q1 := hq.c 1
             have q2 := hq.c 2
             exact bodyPost_ret (v := .tuple #[regsV i.a i.b i.c, .int .i64 0, .bool true]) (by simp [results, Tryd.results51, go_sem, q0, q1, q2]) rfl ⟨hbq.out, _, _, _, _, true, rfl, by rw [hfo]; exact HYE.out⟩)
          | (have hnk : n = k + 1 := by have := HCT.out; omega
             have hkw : k < ws.length := by omega
             cases A with
             | none => (have := (H.out.nil rfl).1; omega)
             | some ad =>
               obtain ⟨b, o, rfl⟩ := H.out.plainA (by omega)
               have hcell : wr.cell? ⟨b, o + k, none⟩ = some (str ws[k]) := by
                 have h1 := (H.out.below HAT.out.below (fun _ h => h)).at_ _ rfl k (str ws[k]) (by simp [strs, hkw])
                 rwa [plainAdd] at h1
               have hxl := hw ws[k] (List.getElem_mem hkw)
               have HYE := Lib.hid (show argsM fo ws ⟨op, 0, 0, 0, 0⟩ = match decM ws[k] with | none => none | some v => some ⟨op, i.a, i.b, i.c, v⟩ by
                 rw [HAR.out, HFE.out, List.drop_eq_getElem_cons hkw, List.drop_of_length_le (by omega), ← HIO.out]
                 rfl)
               have HDM := Lib.hid (decimal_any ws[k] wr (HE.out.below HAT.out.below) hxl)
               have s1 : wr.cell? ⟨w.heap.size, 1, none⟩ = some (.int .i64 k) := HAT.out.shp.c 1
               have s2 : wr.cell? ⟨w.heap.size, 2, none⟩ = some (.bool true) := HAT.out.shp.c 2
               have hkn : (k : Int) < (n : Int) := by omega
               generalize ws[k] = x at *
               clear HAR
               go_wp2_with fail
               refine HDM.out.mono ?_
               rintro e w4 ⟨hb4, v, ok, rfl, hdv⟩
               have HAT4 := Lib.hid (HAT.out.on hb4)
               have HYE := Lib.hid (show argsM fo ws ⟨op, 0, 0, 0, 0⟩ = if ok = true then some ⟨op, i.a, i.b, i.c, v⟩ else none by
                 rw [HYE.out, hdv]
                 cases ok <;> rfl)
               clear hb4 hdv s1 s2 hcell HAT
               have c0 : w4.cell? ⟨w.heap.size + 1, 0, none⟩ = some (.int .i64 i.a) := HAT4.out.regs.c 0
               have c1 : w4.cell? ⟨w.heap.size + 1, 1, none⟩ = some (.int .i64 i.b) := HAT4.out.regs.c 1
               have c2 : w4.cell? ⟨w.heap.size + 1, 2, none⟩ = some (.int .i64 i.c) := HAT4.out.regs.c 2
               have s1 : w4.cell? ⟨w.heap.size, 1, none⟩ = some (.int .i64 k) := HAT4.out.shp.c 1
               have s2 : w4.cell? ⟨w.heap.size, 2, none⟩ = some (.bool _) := HAT4.out.shp.c 2
               have f0 := HAT4.out.regs.f 0
               have f1 := HAT4.out.regs.f 1
               have f2 := HAT4.out.regs.f 2
               have hq := set3_bx HAT4.out.regs (.int .i64 i.a) (.int .i64 i.b) (.int .i64 i.c)
               have hbq := Lib.hid (below_set3 HAT4.out.below (show w.heap.size ≤ w.heap.size + 1 by omega) (.int .i64 i.a) (.int .i64 i.b) (.int .i64 i.c))
               go_wp2
               generalize ((w4.setCell ⟨w.heap.size + 1, 0, none⟩ (.int .i64 i.a)).setCell ⟨w.heap.size + 1, 1, none⟩ (.int .i64 i.b)).setCell ⟨w.heap.size + 1, 2, none⟩ (.int .i64 i.c) = w5 at *
               have q0 := hq.c 0
               have q1 := hq.c 1
               have q2 := hq.c 2
               exact bodyPost_ret (v := .tuple #[regsV i.a i.b i.c, .int .i64 v, .bool ok]) (by simp [results, Tryd.results51, go_sem, q0, q1, q2]) rfl ⟨hbq.out, _, _, _, _, ok, rfl, by rw [hfo]; exact HYE.out⟩)
  · have HN := Lib.hid (show argsM fo ws ⟨op, 0, 0, 0, 0⟩ = none from argsM_len _ _ _ (by rw [HF.out, hl]; exact fun e => hct e.symm))
    have HDN := Lib.hid (show ∀ w', Below w.heap.size w w' → OpsDone w ⟨nm, r, m⟩ ws op (.returned (.tuple #[regsV 0 0 0, .int .i64 0, .bool false])) w' from fun w' hb => ⟨hb, 0, 0, 0, 0, false, rfl, by rw [hfo]; exact HN.out⟩)
    clear HFD HFE HF
    cases m
    all_goals
      simp only [if_true, if_false, Bool.false_eq_true, Nat.add_zero] at hct
      first
        | (have hne : ((n : Int) != (r : Int)) = true := by simp; omega)
        | (have hne : ((n : Int) != (r : Int) + 1) = true := by simp; omega)
      go_enter Tryd.func51, Tryd.ntmps51
      go_wp2_with fail
      exact bodyPost_ret (v := .tuple #[regsV 0 0 0, .int .i64 0, .bool false]) (by simp [results, Tryd.results51, go_sem]) rfl (HDN.out _ H0.out.below)
end Go.Proofs.YtoebboimdkogpaaDoor
