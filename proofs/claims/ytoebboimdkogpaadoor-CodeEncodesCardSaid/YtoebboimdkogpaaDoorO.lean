/-
  The instruction of a line: the program's.
-/
import Derived.Test.YtoebboimdkogpaaDoorN
import Derived.Deep.RegionHeld3
import Derived.Deep.Cut
namespace Go.Proofs.YtoebboimdkogpaaDoor
open Go.RowKit

theorem shape_len (k : Nat) (hk : k < 23) : (formL (shapes[k]'hk)).length ≤ 4 := by
  rw [formL_len _ (shapes_regs k hk)]
  have := shapes_regs k hk
  split <;> omega
theorem wordsM_many (ws : List Str) (h : 5 < ws.length) : wordsM ws = none := by
  cases ws with
  | nil => simp at h
  | cons x xs =>
    unfold wordsM
    simp only
    cases hx : opIdx x with
    | none => rfl
    | some k =>
      obtain ⟨hk, _⟩ := opIdx_some hx
      have := shape_len k hk
      simp only [List.getElem?_eq_getElem (show k < shapes.length from hk)]
      rw [argsM_len _ _ _ (by simp at h; omega)]
theorem wordsM_eq (l : Str) : wordsM (words l) = typedM l := by
  unfold typedM
  by_cases h : (cut 32 l).length ≤ 5
  · rw [words_few l h]
  · rw [wordsM_many _ (words_many l (by omega)).1, wordsM_many _ (by omega)]
theorem below_alloc_drew (w : World) (o : Obj) : Below w.heap.size w (w.alloc o).drew :=
  ((Below.refl w.heap.size w).alloc (Nat.le_refl _) o).trans ((drew_below (w.alloc o)).mono (by simp))
/-- Behind a line's reading. -/
def Lined (w : World) (l : Str) (e : Ending) (w' : World) : Prop :=
  Below w.heap.size w w' ∧ ∃ i ok, e = .returned (.tuple #[insV i, .bool ok]) ∧ typedM l = if ok = true then some i else none

/-- Where a line's reading stands, at its end. -/
structure LineAt (w0 w : World) (g : Nat) (i : Ins) : Prop where
  below : Below w0.heap.size w0 w
  box : Bx w g #[.int .i64 i.op, .int .i64 i.a, .int .i64 i.b, .int .i64 i.c, .int .i64 i.n] 35
  res : Bx w w0.heap.size #[.int .i64 0, .int .i64 0, .int .i64 0, .int .i64 0, .int .i64 0] 35
theorem LineAt.on {w0 w w' : World} {g : Nat} {i : Ins} (h : LineAt w0 w g i) (hb : Below w.heap.size w w') : LineAt w0 w' g i :=
  ⟨h.below.trans (hb.mono h.below.size), h.box.below hb, h.res.below hb⟩
theorem LineAt.cells {w0 w : World} {g : Nat} {i : Ins} (h : LineAt w0 w g i) :
    w.cell? ⟨g, 0, none⟩ = some (.int .i64 i.op) ∧ w.cell? ⟨g, 1, none⟩ = some (.int .i64 i.a) ∧ w.cell? ⟨g, 2, none⟩ = some (.int .i64 i.b) ∧ w.cell? ⟨g, 3, none⟩ = some (.int .i64 i.c) ∧ w.cell? ⟨g, 4, none⟩ = some (.int .i64 i.n) ∧
    w.cell? ⟨w0.heap.size, 0, none⟩ = some (.int .i64 0) ∧ w.cell? ⟨w0.heap.size, 1, none⟩ = some (.int .i64 0) ∧ w.cell? ⟨w0.heap.size, 2, none⟩ = some (.int .i64 0) ∧ w.cell? ⟨w0.heap.size, 3, none⟩ = some (.int .i64 0) ∧ w.cell? ⟨w0.heap.size, 4, none⟩ = some (.int .i64 0) ∧
    w.frozen? ⟨w0.heap.size, 0, none⟩ = false ∧ w.frozen? ⟨w0.heap.size, 1, none⟩ = false ∧ w.frozen? ⟨w0.heap.size, 2, none⟩ = false ∧ w.frozen? ⟨w0.heap.size, 3, none⟩ = false ∧ w.frozen? ⟨w0.heap.size, 4, none⟩ = false :=
  ⟨h.box.c 0, h.box.c 1, h.box.c 2, h.box.c 3, h.box.c 4, h.res.c 0, h.res.c 1, h.res.c 2, h.res.c 3, h.res.c 4, h.res.f 0, h.res.f 1, h.res.f 2, h.res.f 3, h.res.f 4⟩
theorem Src.tailS {w : World} {P : Nat → Prop} {g n c : Nat} {x : Str} {xs : List Str} (h : Src w P (some ⟨g, 0, none⟩) n c (strs (x :: xs))) :
    n = xs.length + 1 ∧ 1 ≤ c ∧ w.cell? ⟨g, 0, none⟩ = some (str x) ∧ Src w (fun _ => True) (if c = 1 then some ⟨g, 0, none⟩ else some ⟨g, 1, none⟩) xs.length (c - 1) (strs xs) ∧
    ∀ w', (Instr.slice 51 (.slice (some ⟨g, 0, none⟩) n c) (some (.int .i64 1)) none none).run Tryd.prog w' = .ok (.slice (if c = 1 then some ⟨g, 0, none⟩ else some ⟨g, 1, none⟩) xs.length (c - 1)) w' := by
  have hl := h.len
  have hc := h.cap
  simp only [strs_len, List.length_cons] at hl
  refine ⟨hl.symm, by omega, h.at_ _ rfl 0 _ rfl, ⟨strs_len _, ?_, by omega, (by intro _ _ _; trivial), ?_⟩, fun w' => ?_⟩
  · intro hA; split at hA <;> cases hA
  · intro ad hA j u hu
    have hj : j < xs.length := by have := (List.getElem?_eq_some_iff.1 hu).1; simpa [strs] using this
    rw [if_neg (by omega)] at hA
    cases hA
    have h1 := h.at_ _ rfl (j + 1) u (by simpa [strs] using hu)
    rw [plainAdd] at h1 ⊢
    rw [show 1 + j = 0 + (j + 1) by omega]
    exact h1
  · have hz : (sizeOf (Tryd.prog.elem 51)).run Tryd.prog w' = .ok 1 w' := by kernel_rfl
    rw [run_slice_l (w := w') 51 (some ⟨g, 0, none⟩) n c (by kernel_rfl) .i64 1 (by omega) (by omega), hz]
    have hn : n - 1 = xs.length := by omega
    simp only [Result.andThen, sliced]
    split
    · rename_i hc1
      rw [if_pos (by simpa using hc1)]
      simp [hn]
    · rename_i hc1
      rw [if_neg (by simpa using hc1)]
      simp [Addr.add, hn]

theorem Bx.draw {w : World} {b : Nat} {cs : Array Value} {t : TypeId} (h : Bx w b cs t) : Bx w.drew b cs t :=
  h.below (drew_below w)

theorem below_draw {n : Nat} {w w' : World} (h : Below n w w') : Below n w w'.drew :=
  by obtain ⟨a, b, c, d, e⟩ := h; exact ⟨a, b, c, d, e⟩

set_option maxRecDepth 100000 in
set_option maxHeartbeats 16000000 in
theorem fromLine_any (l : Str) (w : World) (hl : l.length < 4294967281) (he : Env w) : Calls Tryd.prog 41 #[str l] w (Lined w l) := by
  have HE := Lib.hid he
  have hb1 : Below w.heap.size w (w.alloc (.cells #[.int .i64 0, .int .i64 0, .int .i64 0, .int .i64 0, .int .i64 0] 35)) := (Below.refl _ _).alloc (Nat.le_refl _) _
  have hr1 : Bx (w.alloc (.cells #[.int .i64 0, .int .i64 0, .int .i64 0, .int .i64 0, .int .i64 0] 35)) w.heap.size #[.int .i64 0, .int .i64 0, .int .i64 0, .int .i64 0, .int .i64 0] 35 := Bx.new _ _ _
  have HSP := Lib.hid (splitN_any l _ hl (he.below hb1))
  have HW := Lib.hid (wordsM_eq l)
  have hwl := cutN_le 32 l (min 6 (l.length + 1) - 1)
  have hnil := words_ne l
  rw [show cutN 32 (min 6 (l.length + 1) - 1) l = words l from rfl] at hwl
  generalize words l = ws at *
  generalize hL : Lined w l = L
  have HL := Lib.hid hL
  have HR1 := Lib.hid hr1
  have HB1 := Lib.hid hb1
  clear he hb1 hr1 hL
  obtain ⟨x, xs, rfl⟩ : ∃ x xs, ws = x :: xs := by
    cases ws with
    | nil => exact absurd rfl hnil
    | cons x xs => exact ⟨x, xs, rfl⟩
  have HWL := Lib.hid hwl
  clear hnil hwl
  go_enter Tryd.func41, Tryd.ntmps41
  go_wp2_with fail
  refine HSP.out.mono ?_
  rintro e w2 ⟨c, rfl, hb2, hs2, hc6⟩
  have hz1 : (w.alloc (.cells #[.int .i64 0, .int .i64 0, .int .i64 0, .int .i64 0, .int .i64 0] 35)).heap.size = w.heap.size + 1 := by simp
  rw [hz1] at hs2 ⊢
  obtain ⟨hn1, hc1, hx0, hst, hsl⟩ := hs2.tailS
  have hcap := hst.cap
  simp only [List.length_cons] at hsl
  generalize (if c = 1 then some (⟨w.heap.size + 1, 0, none⟩ : Addr) else some ⟨w.heap.size + 1, 1, none⟩) = A' at *
  have HB2 := Lib.hid (HB1.out.trans (hb2.mono HB1.out.size))
  have HR2 := Lib.hid (HR1.out.below hb2)
  have HST := Lib.hid hst
  have HON := Lib.hid (opNamed_any x w2 ((HE.out.below HB2.out).sh))
  have hlt : (0 : Int) < (((x :: xs).length : Nat) : Int) := by simp only [List.length_cons]; omega
  clear hb2 hs2 hz1 hst HB1 HR1 HSP
  go_wp2_with fail
  refine HON.out.mono ?_
  rintro e w3 ⟨hb3, ⟨k, hk, hkx, rfl⟩ | ⟨hno, rfl⟩⟩
  · have HR3 := Lib.hid (HR2.out.below hb3)
    have HB3 := Lib.hid (HB2.out.trans (hb3.mono HB2.out.size))
    have hsr := shapes_regs k hk
    obtain ⟨e0, e1, e2⟩ := (HE.out.below HB3.out).sh.at_ k hk
    have hpos := (HE.out.below HB3.out).sh.pos
    have hne0 : w3.heap.size ≠ 0 := by omega
    have hne1 : 0 ≠ w3.heap.size := by omega
    have nw0 := World.new_ne w3 _ e0
    have nw1 := World.new_ne w3 _ e1
    have nw2 := World.new_ne w3 _ e2
    have HTY := Lib.hid (show typedM l = match argsM (formL (shapes[k]'hk)) xs ⟨k, 0, 0, 0, 0⟩ with | none => none | some i => if mayB i = true then some i else none by
      rw [← HW.out, wordsM]
      simp only [opIdx_at x k hk hkx, List.getElem?_eq_getElem (show k < shapes.length from hk)]
      rfl)
    have hop := fun (w4 : World) (h : Below w3.heap.size w3 w4) => operands_any (shapes[k]'hk) hsr xs (fun y hy => by have := HWL.out y (List.mem_cons_of_mem _ hy); omega) k _ _ _ _ w4 ((HST.out.lt.below hb3 (fun _ h => h)).lt.below h (fun _ h => h)) (by have := HST.out.cap; omega) ((HE.out.below HB3.out).below h)
    have HOP := Lib.hid hop
    clear hop hx0 hb3 hkx
    generalize shapes[k]'hk = s at *
    have hk23 : (k : Int) < 23 := by omega
    have hk0 : (0 : Int) ≤ (k : Int) := by omega
    go_wp2_with fail
    go_cut [5, 6, 7, 8] from 10 (fun s5 s6 s7 s8 wx => ∃ (g : Nat) (a b cc nn : Int) (ok : Bool), s5 = .int .i64 k ∧ s6 = .bool ok ∧ s7 = .pointer (some ⟨g, 0, none⟩) ∧ s8 = .int .i64 nn ∧ argsM (formL s) xs ⟨k, 0, 0, 0, 0⟩ = (if ok = true then some ⟨k, a, b, cc, nn⟩ else none) ∧ Below w.heap.size w wx ∧ Bx wx w.heap.size #[.int .i64 0, .int .i64 0, .int .i64 0, .int .i64 0, .int .i64 0] 35 ∧ Bx wx g #[.int .i64 a, .int .i64 b, .int .i64 cc] 61)
    case first =>
      go_region_held3 (fun w' => w'.cell? ⟨0, k * 3, none⟩ = some (str s.name) ∧ w'.cell? ⟨0, k * 3 + 1, none⟩ = some (.int .i64 s.regs) ∧ w'.cell? ⟨0, k * 3 + 2, none⟩ = some (.bool s.num)) (first | (exact ⟨by assumption, by assumption, by assumption⟩) | go_keep) (first
        | (go_at_call 51; (with_reducible refine (HOP.out _ (drew_below _)).mono ?_); rintro e w4 ⟨hb4, a, b, cc, nn, ok, rfl, hok⟩; have HB4 := Lib.hid ((drew_below w3).trans hb4); have r0 := cell_below HB4.out e0; have r1 := cell_below HB4.out e1; have r2 := cell_below HB4.out e2; have HOK := Lib.hid hok; clear hb4 hok)
        | (go_at_call 51; (with_reducible refine (HOP.out _ (below_alloc_drew w3 _)).mono ?_); rintro e w4 ⟨hb4, a, b, cc, nn, ok, rfl, hok⟩; have HB4 := Lib.hid ((below_alloc_drew w3 (.cells #[.int .i64 0, .int .i64 0, .int .i64 0] 61)).trans (hb4.mono (by simp [World.drew]))); have HX4 := Lib.hid (Bx.below (w := (w3.alloc (.cells #[.int .i64 0, .int .i64 0, .int .i64 0] 61)).drew) (show Bx (w3.alloc (.cells #[.int .i64 0, .int .i64 0, .int .i64 0] 61)) w3.heap.size _ _ from Bx.new w3 _ _) hb4); have y0 := HX4.out.c 0; have y1 := HX4.out.c 1; have y2 := HX4.out.c 2; have z0 := HX4.out.f 0; have z1 := HX4.out.f 1; have z2 := HX4.out.f 2; have r0 := cell_below HB4.out e0; have r1 := cell_below HB4.out e1; have r2 := cell_below HB4.out e2; have HOK := Lib.hid hok; clear hb4 hok))
      all_goals
        go_wp2_with fail
        go_meet
        case rel =>
          have h1 := HB3.out.trans (HB4.out.mono HB3.out.size)
          first
          | exact ⟨_, a, b, cc, nn, ok, rfl, rfl, rfl, rfl, HOK.out, h1.alloc h1.size _, (HR3.out.below HB4.out).alloc _, Bx.new _ _ _⟩
          | (have h2 : w.heap.size ≠ w3.heap.size := Nat.ne_of_lt (HR3.out.lt)
             exact ⟨_, a, b, cc, nn, ok, rfl, rfl, rfl, rfl, HOK.out, below_set3 h1 HB3.out.size _ _ _, (((HR3.out.below HB4.out).other (a := ⟨w3.heap.size, 0, none⟩) h2 _).other (a := ⟨w3.heap.size, 1, none⟩) h2 _).other (a := ⟨w3.heap.size, 2, none⟩) h2 _, set3_bx (i := ⟨0, 0, 0, 0, 0⟩) HX4.out _ _ _⟩)
    case rest =>
      obtain ⟨g, a, b, cc, nn, ok, rfl, rfl, rfl, rfl, hok, hf1, hf2, hf3⟩ := hcut
      have HOK := Lib.hid hok
      have y0 := hf3.c 0
      have y1 := hf3.c 1
      have y2 := hf3.c 2
      have HA5 := Lib.hid (show LineAt w (wc.alloc (.cells #[.int .i64 k, .int .i64 a, .int .i64 b, .int .i64 cc, .int .i64 nn] 35)) wc.heap.size ⟨k, a, b, cc, nn⟩ from ⟨hf1.alloc hf1.size _, Bx.new _ _ _, hf2.alloc _⟩)
      clear hok hf1 hf2 hf3 hsl hcap nw0 nw1 nw2 hpos hne0 hne1 hc6 hc1 HOP HON e0 e1 e2 HST HB2 HR2 HWL HW HB3 HR3
      go_wp2_with fail
      generalize hw6 : wc.alloc (.cells #[.int .i64 k, .int .i64 a, .int .i64 b, .int .i64 cc, .int .i64 nn] 35) = w6 at *
      clear hw6 y0 y1 y2
      generalize wc.heap.size = g6 at *
      have HD := Lib.hid (HA5.out.on (drew_below _))
      have HMY := Lib.hid (fun (w1 : World) (h : LineAt w w1 g6 ⟨k, a, b, cc, nn⟩) => (may_any ⟨k, a, b, cc, nn⟩ w1 ((HE.out.below h.below).sh)).mono (R' := fun e w' => e = .returned (.int .i64 (if mayB ⟨k, a, b, cc, nn⟩ = true then 0 else 40)) ∧ LineAt w w' g6 ⟨k, a, b, cc, nn⟩ ∧ _) (fun e w' h2 => ⟨h2.1, h.on h2.2, (h.on h2.2).cells⟩))
      simp only at HMY
      obtain ⟨p0, p1, p2, p3, p4, p5, p6, p7, p8, p9, p10, p11, p12, p13, p14⟩ := HD.out.cells
      simp only at p0 p1 p2 p3 p4
      obtain ⟨q0, q1, q2, q3, q4, q5, q6, q7, q8, q9, q10, q11, q12, q13, q14⟩ := HA5.out.cells
      simp only at q0 q1 q2 q3 q4
      cases ok
      · have HNO := Lib.hid (show typedM l = none by rw [HTY.out, HOK.out]; rfl)
        clear HTY HOK HMY HE
        first | (go_region_with (fail)) | fail
        all_goals first
          | (have hq := set5_bx HA5.out.res (.int .i64 k) (.int .i64 a) (.int .i64 b) (.int .i64 cc) (.int .i64 nn)
             have hbq := Lib.hid (below_set5 HA5.out.below (Nat.le_refl _) (.int .i64 k) (.int .i64 a) (.int .i64 b) (.int .i64 cc) (.int .i64 nn))
             replace hq := hq.draw
             replace hbq := Lib.hid (below_draw hbq.out)
             generalize (((((w6.setCell ⟨w.heap.size, 0, none⟩ (.int .i64 k)).setCell ⟨w.heap.size, 1, none⟩ (.int .i64 a)).setCell ⟨w.heap.size, 2, none⟩ (.int .i64 b)).setCell ⟨w.heap.size, 3, none⟩ (.int .i64 cc)).setCell ⟨w.heap.size, 4, none⟩ (.int .i64 nn)).drew = w8 at *
             have v0 := hq.c 0
             have v1 := hq.c 1
             have v2 := hq.c 2
             have v3 := hq.c 3
             have v4 := hq.c 4
             go_wp2_with fail
             refine bodyPost_ret (v := .tuple #[insV ⟨k, a, b, cc, nn⟩, .bool false]) (by simp [results, Tryd.results41, go_sem, v0, v1, v2, v3, v4]) rfl ?_
             rw [← HL.out]
             exact ⟨hbq.out, _, false, rfl, HNO.out⟩)
      · cases hmm : mayB ⟨k, a, b, cc, nn⟩
        · rw [hmm] at HMY
          have HNO := Lib.hid (show typedM l = none by rw [HTY.out, HOK.out, if_pos rfl]; simp only [hmm, Bool.false_eq_true, if_false])
          clear HTY HOK hmm HE
          first | (go_region_with (first
            | (go_at_call 16; (with_reducible refine (HMY.out _ HD.out).mono ?_); rintro e w7 ⟨rfl, ht7, r0, r1, r2, r3, r4, r5, r6, r7, r8, r9, r10, r11, r12, r13, r14⟩; have HT7 := Lib.hid ht7; clear ht7))) | fail
          all_goals
            clear r0 r1 r2 r3 r4 r5 r6 r7 r8 r9 r10 r11 r12 r13 r14
            have hq := set5_bx HT7.out.res (.int .i64 k) (.int .i64 a) (.int .i64 b) (.int .i64 cc) (.int .i64 nn)
            have hbq := Lib.hid (below_set5 HT7.out.below (Nat.le_refl _) (.int .i64 k) (.int .i64 a) (.int .i64 b) (.int .i64 cc) (.int .i64 nn))
            generalize ((((w7.setCell ⟨w.heap.size, 0, none⟩ (.int .i64 k)).setCell ⟨w.heap.size, 1, none⟩ (.int .i64 a)).setCell ⟨w.heap.size, 2, none⟩ (.int .i64 b)).setCell ⟨w.heap.size, 3, none⟩ (.int .i64 cc)).setCell ⟨w.heap.size, 4, none⟩ (.int .i64 nn) = w8 at *
            have v0 := hq.c 0
            have v1 := hq.c 1
            have v2 := hq.c 2
            have v3 := hq.c 3
            have v4 := hq.c 4
            go_wp2_with fail
            refine bodyPost_ret (v := .tuple #[insV ⟨k, a, b, cc, nn⟩, .bool false]) (by simp [results, Tryd.results41, go_sem, v0, v1, v2, v3, v4]) rfl ?_
            rw [← HL.out]
            exact ⟨hbq.out, _, false, rfl, HNO.out⟩
        · rw [hmm] at HMY
          have HNO := Lib.hid (show typedM l = some ⟨k, a, b, cc, nn⟩ by rw [HTY.out, HOK.out, if_pos rfl]; simp only [hmm, if_true])
          clear HTY HOK hmm HE
          first | (go_region_with (first
            | (go_at_call 16; (with_reducible refine (HMY.out _ HD.out).mono ?_); rintro e w7 ⟨rfl, ht7, r0, r1, r2, r3, r4, r5, r6, r7, r8, r9, r10, r11, r12, r13, r14⟩; have HT7 := Lib.hid ht7; clear ht7))) | fail
          all_goals
            clear r0 r1 r2 r3 r4 r5 r6 r7 r8 r9 r10 r11 r12 r13 r14
            have hq := set5_bx HT7.out.res (.int .i64 k) (.int .i64 a) (.int .i64 b) (.int .i64 cc) (.int .i64 nn)
            have hbq := Lib.hid (below_set5 HT7.out.below (Nat.le_refl _) (.int .i64 k) (.int .i64 a) (.int .i64 b) (.int .i64 cc) (.int .i64 nn))
            generalize ((((w7.setCell ⟨w.heap.size, 0, none⟩ (.int .i64 k)).setCell ⟨w.heap.size, 1, none⟩ (.int .i64 a)).setCell ⟨w.heap.size, 2, none⟩ (.int .i64 b)).setCell ⟨w.heap.size, 3, none⟩ (.int .i64 cc)).setCell ⟨w.heap.size, 4, none⟩ (.int .i64 nn) = w8 at *
            have v0 := hq.c 0
            have v1 := hq.c 1
            have v2 := hq.c 2
            have v3 := hq.c 3
            have v4 := hq.c 4
            go_wp2_with fail
            refine bodyPost_ret (v := .tuple #[insV ⟨k, a, b, cc, nn⟩, .bool true]) (by simp [results, Tryd.results41, go_sem, v0, v1, v2, v3, v4]) rfl ?_
            rw [← HL.out]
            exact ⟨hbq.out, _, true, rfl, HNO.out⟩
  · have HR3 := Lib.hid (HR2.out.below hb3)
    have HB3 := Lib.hid (HB2.out.trans (hb3.mono HB2.out.size))
    have HNO := Lib.hid (show typedM l = none by
      rw [← HW.out, wordsM]
      simp only [opIdx_none x hno])
    have f0 := HR3.out.f 0
    have f1 := HR3.out.f 1
    have f2 := HR3.out.f 2
    have f3 := HR3.out.f 3
    have f4 := HR3.out.f 4
    have c0 := HR3.out.c 0
    have c1 := HR3.out.c 1
    have c2 := HR3.out.c 2
    have c3 := HR3.out.c 3
    have c4 := HR3.out.c 4
    clear hb3 hno hx0 hsl
    go_wp2
    have hq := set5_bx HR3.out (.int .i64 0) (.int .i64 0) (.int .i64 0) (.int .i64 0) (.int .i64 0)
    have hbq := Lib.hid (below_set5 HB3.out (Nat.le_refl _) (.int .i64 0) (.int .i64 0) (.int .i64 0) (.int .i64 0) (.int .i64 0))
    generalize ((((w3.setCell ⟨w.heap.size, 0, none⟩ (.int .i64 0)).setCell ⟨w.heap.size, 1, none⟩ (.int .i64 0)).setCell ⟨w.heap.size, 2, none⟩ (.int .i64 0)).setCell ⟨w.heap.size, 3, none⟩ (.int .i64 0)).setCell ⟨w.heap.size, 4, none⟩ (.int .i64 0) = w6 at *
    have q0 := hq.c 0
    have q1 := hq.c 1
    have q2 := hq.c 2
    have q3 := hq.c 3
    have q4 := hq.c 4
    refine bodyPost_ret (v := .tuple #[insV ⟨0, 0, 0, 0, 0⟩, .bool false]) (by simp [results, Tryd.results41, go_sem, q0, q1, q2, q3, q4]) rfl ?_
    rw [← HL.out]
    exact ⟨hbq.out, _, false, rfl, HNO.out⟩
end Go.Proofs.YtoebboimdkogpaaDoor
