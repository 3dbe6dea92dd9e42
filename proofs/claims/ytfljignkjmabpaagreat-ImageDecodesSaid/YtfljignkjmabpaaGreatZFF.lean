/- A part of the proof. -/
import Derived.Test.YtfljignkjmabpaaGreatZFD
import Derived.Lib.ConvBytes
import Derived.StillTailTactics
set_option linter.unusedSimpArgs false
set_option linter.unusedVariables false
namespace Go.Proofs.YtfljignkjmabpaaGreat
set_option maxRecDepth 100000
open Go.RowKit
def wMeas (size most : Nat) (l : List UInt8) (s : St) : St := if s.1 = 0 then (if l.length ≤ most then (0, s.2 ++ digs l.length size ++ l) else (2, s.2)) else s
theorem At.trans {w w1 w2 : World} {B g : Nat} {A A1 : Option Addr} {e : Int} {bs : List UInt8} (h : Step g w (row A) w1 (row A1)) (k : At w1 B g A1 e bs w2) : At w B g A e bs w2 := by
 obtain ⟨A2, c2, h1, h2⟩ := k
 exact ⟨A2, c2, h1, h.trans h2⟩
theorem Src.step {w w1 : World} {g : Nat} {r r1 : Option Nat} {A : Option Addr} {n c : Nat} {xs : List Value} (h : Src w (fun k => k ≠ g ∧ r ≠ some k) A n c xs) (k : Step g w r w1 r1) : Src w1 (fun k => k ≠ g ∧ r ≠ some k) A n c xs :=
 h.keep fun i hi hl => k.block i hl hi.1 hi.2
set_option maxHeartbeats 400000 in
theorem meas_ok (B g : Nat) (s : St) (A : Option Addr) (c : Nat) (size most : Nat) (Ax : Option Addr) (n cx : Nat) (l : List UInt8) (w : World) (h : Wr w B g s.1 A c s.2) (hs : sized size = true)
  (hf : ∀ k : Nat, k ≤ most → fitB size k = true) (hx : Src w (fun k => k ≠ g ∧ row A ≠ some k) Ax n cx (cells l)) (hle : n ≤ most) (hn : s.2.length + 8 + n ≤ 140737488355328) :
  Calls Tryz.prog 153 #[.pointer (some ⟨g, 0, none⟩), .int .i64 size, .int .i64 most, .slice Ax n cx] w (Wrote w B g A (wMeas size most l s).1 (wMeas size most l s).2) := by
 have hl : l.length = n := by have := hx.len; simpa [cells_len] using this
 have h8 : size ≤ 8 := by simp only [sized, decide_eq_true_eq] at hs; omega
 have hI : I64 (n : Int) := by unfold I64; omega
 have hN := hf n hle
 have hmid : wNum1 size n s = (s.1, putIf s.1 s.2 (digs n size)) := by
  unfold wNum1 putIf
  split
  ·
   simp_all
  ·
   rfl
 have hfin : (wMeas size most l s) = (s.1, putIf s.1 (putIf s.1 s.2 (digs n size)) l) := by
  unfold wMeas putIf
  split
  ·
   rw [if_pos (by omega), hl]; simp_all
  ·
   rfl
 have hlen : (putIf s.1 s.2 (digs n size)).length + n ≤ 140737488355328 := by
  unfold putIf
  split
  ·
   rw [List.length_append, digs_len]; omega
  ·
   omega
 have hs8 : s.2.length + 8 ≤ 140737488355328 := by omega
 have C := number_any B g s A c size n w h hs hI hs8
 rw [hmid] at C
 rw [hfin]
 have CC := hD C
 have HX := hD hx
 clear h hx hI hs hf hN hmid hfin hl C
 go_enter Tryz.func153, Tryz.ntmps153
 go_wp2_with (first
  | (go_at_call 154; refine CC.out.mono ?_; rintro en w1 ⟨rfl, A1, c1, hw1, hs1⟩; have HW1 := hD hw1; have HS1 := hD hs1; clear hw1 hs1)
  | (go_at_call 192; refine (raw_any B g s.1 A1 c1 _ _ _ n cx l _ HW1.out (HX.out.step HS1.out) hlen).mono ?_; rintro en w2 ⟨rfl, hat⟩; have HA := hD hat; clear hat))
 go_end0
 exact ⟨rfl, At.trans HS1.out HA.out⟩
set_option maxHeartbeats 400000 in
theorem meas_long (B g : Nat) (s : St) (A : Option Addr) (c : Nat) (size most : Nat) (Ax : Option Addr) (n cx : Nat) (l : List UInt8) (w : World) (h : Wr w B g s.1 A c s.2)
  (hl : l.length = n) (hle : most < n) :
  Calls Tryz.prog 153 #[.pointer (some ⟨g, 0, none⟩), .int .i64 size, .int .i64 most, .slice Ax n cx] w (Wrote w B g A (wMeas size most l s).1 (wMeas size most l s).2) := by
 obtain ⟨e, bs⟩ := s
 by_cases he : e = 0
 ·
  subst he
  have hfin : wMeas size most l (0, bs) = (2, bs) := by simp [wMeas]; omega
  rw [hfin]
  have H := hD h
  clear h hfin hl
  go_enter Tryz.func153, Tryz.ntmps153
  go_wp2_with (go_at_call 127; refine (fail_first g _ _ 2 _ H.out.blk rfl).mono ?_; rintro e w' ⟨rfl, rfl⟩)
  go_end0
  exact ⟨rfl, H.out.fail 2⟩
 ·
  have hfin : wMeas size most l (e, bs) = (e, bs) := by simp [wMeas, he]
  rw [hfin]
  have H := hD h
  have HE := hD he
  clear h hfin hl he
  go_enter Tryz.func153, Tryz.ntmps153
  go_wp2_with (go_at_call 127; refine (fail_again g _ _ e 2 _ H.out.blk rfl HE.out).mono ?_; rintro e w' ⟨rfl, rfl⟩)
  go_end0
  exact ⟨rfl, A, c, H.out, Step.refl _ _ _⟩
theorem fit_text (k : Nat) (h : k ≤ 4096) : fitB (2 : Nat) k = true := by simp [fitB]; omega
theorem fit_block (k : Nat) (h : k ≤ 1048576) : fitB (4 : Nat) k = true := by simp [fitB]; omega
theorem meas_any (B g : Nat) (s : St) (A : Option Addr) (c : Nat) (size most : Nat) (Ax : Option Addr) (n cx : Nat) (l : List UInt8) (w : World) (h : Wr w B g s.1 A c s.2) (hs : sized size = true)
  (hf : ∀ k : Nat, k ≤ most → fitB size k = true) (hx : Src w (fun k => k ≠ g ∧ row A ≠ some k) Ax n cx (cells l)) (hn : s.2.length + 8 + n ≤ 140737488355328) :
  Calls Tryz.prog 153 #[.pointer (some ⟨g, 0, none⟩), .int .i64 size, .int .i64 most, .slice Ax n cx] w (Wrote w B g A (wMeas size most l s).1 (wMeas size most l s).2) := by
 by_cases hle : n ≤ most
 ·
  exact meas_ok B g s A c size most Ax n cx l w h hs hf hx hle hn
 ·
  exact meas_long B g s A c size most Ax n cx l w h (by have := hx.len; simpa [cells_len] using this) (by omega)
theorem wblock_any (B g : Nat) (s : St) (A : Option Addr) (c : Nat) (Ax : Option Addr) (n cx : Nat) (l : List UInt8) (w : World) (h : Wr w B g s.1 A c s.2)
  (hx : Src w (fun k => k ≠ g ∧ row A ≠ some k) Ax n cx (cells l)) (hn : s.2.length + 8 + n ≤ 140737488355328) :
  Calls Tryz.prog 91 #[.pointer (some ⟨g, 0, none⟩), .slice Ax n cx] w (Wrote w B g A (wMeas 4 1048576 l s).1 (wMeas 4 1048576 l s).2) := by
 have C := meas_any B g s A c 4 1048576 Ax n cx l w h (by decide) fit_block hx hn
 have CC := hD C
 clear h hx C
 go_enter Tryz.func91, Tryz.ntmps91
 go_wp2_with (go_at_call 153; refine CC.out.mono ?_; rintro en w1 ⟨rfl, hat⟩; have HA := hD hat; clear hat)
 go_end0
 exact ⟨rfl, HA.out⟩
def ints (ns : List Int) : List Value := ns.map (Value.int .i64)
def wNums (size : Nat) (ns : List Int) (s : St) : St := ns.foldl (fun s n => wNum1 size n s) s
theorem wNums_snoc (size : Nat) (ns : List Int) (k : Nat) (h : k < ns.length) (s : St) : wNums size (ns.take (k + 1)) s = wNum1 size ns[k] (wNums size (ns.take k) s) := by
 unfold wNums
 rw [List.take_succ_eq_append_getElem h, List.foldl_append]
 rfl
theorem wNum1_len (size : Nat) (n : Int) (s : St) (h : size ≤ 8) : (wNum1 size n s).2.length ≤ s.2.length + 8 := by
 unfold wNum1
 split
 ·
  split
  ·
   simp [digs_len]; omega
  ·
   simp
 ·
  omega
theorem wNums_len (size : Nat) (ns : List Int) (h : size ≤ 8) : ∀ s : St, (wNums size ns s).2.length ≤ s.2.length + 8 * ns.length := by
 induction ns with
 | nil => intro s; simp [wNums]
 | cons n ns ih =>
  intro s
  have h1 := ih (wNum1 size n s)
  have h2 := wNum1_len size n s h
  have : wNums size (n :: ns) s = wNums size ns (wNum1 size n s) := rfl
  rw [this, List.length_cons]
  omega
set_option maxHeartbeats 400000 in
theorem wnum_ok (B g : Nat) (s : St) (A : Option Addr) (c : Nat) (size : Nat) (An : Option Addr) (n cn : Nat) (ns : List Int) (w : World) (h : Wr w B g s.1 A c s.2) (hs : sized size = true) (hi : ∀ x ∈ ns, I64 x)
  (hx : Src w (fun k => k ≠ g ∧ row A ≠ some k) An n cn (ints ns)) (hn : s.2.length + 8 * n ≤ 140737488355328) :
  Calls Tryz.prog 77 #[.pointer (some ⟨g, 0, none⟩), .int .i64 size, .slice An n cn] w (Wrote w B g A (wNums size ns s).1 (wNums size ns s).2) := by
 have h8 : size ≤ 8 := by simp only [sized, decide_eq_true_eq] at hs; omega
 have hl : ns.length = n := by have := hx.len; simpa [ints] using this
 have HL := hD hl
 have H := hD h
 have HS := hD hs
 have HI := hD hi
 have HX := hD hx
 clear h hs hi hx hl
 go_enter Tryz.func77, Tryz.ntmps77
 go_wp2_with (go_at_call 126; refine (isSize_any size _).mono ?_; rw [HS.out]; rintro e w' ⟨rfl, rfl⟩)
 go_loopw [7, 17] (fun _ i wr => ∃ k : Nat, k ≤ n ∧ i = .int .i64 k ∧ At w B g A (wNums size (ns.take k) s).1 (wNums size (ns.take k) s).2 wr) (fun _ i _ => n - (intOf i).toNat)
 case atStart => exact ⟨0, Nat.zero_le _, rfl, A, c, H.out, Step.refl _ _ _⟩
 case round =>
  obtain ⟨k, hk, rfl, A', c', hw, hst⟩ := hrel
  by_cases hlt : k < n
  ·
   have hkl : k < ns.length := by rw [HL.out]; exact hlt
   have hb := wNums_len size (ns.take k) h8 s
   rw [List.length_take, Nat.min_eq_left (by omega)] at hb
   have hb1 : (wNums size (ns.take k) s).2.length + 8 ≤ 140737488355328 := by omega
   have C := number_any B g (wNums size (ns.take k) s) A' c' size ns[k] wr hw HS.out (HI.out _ (List.getElem_mem hkl)) hb1
   rw [← wNums_snoc size ns k hkl s] at C
   have HC := hD C
   have HST := hD hst
   obtain ⟨ad, rfl⟩ : ∃ ad, An = some ad := by
    cases An with
    | none => have := (HX.out.nil rfl).1; omega
    | some ad => exact ⟨ad, rfl⟩
   have hcell : wr.cell? (ad.add k) = some (.int .i64 ns[k]) := (HX.out.step hst).at_ ad rfl k _ (by simp [ints, List.getElem?_eq_getElem hkl])
   have hcap := HX.out.cap
   clear hw hst C hb hb1
   go_wp2_with (go_at_call 154; refine HC.out.mono ?_; rintro en w1 ⟨rfl, hat⟩; have HA := hD hat; clear hat)
   go_roundw
   case rel => exact ⟨k + 1, by omega, by go_num, At.trans HST.out HA.out⟩
   case measure => simp [intOf]; omega
  ·
   obtain rfl : k = n := by omega
   have HW := hD hw
   have HST := hD hst
   clear hw hst
   go_wp2
   go_end0
   have : ns.take k = ns := List.take_of_length_le (by rw [HL.out]; exact Nat.le_refl _)
   have hw := HW.out
   rw [this] at hw
   exact ⟨rfl, A', c', hw, HST.out⟩
def wNumsA (size : Int) (ns : List Int) (s : St) : St := if sized size = true then wNums size.toNat ns s else if s.1 = 0 then (1, s.2) else s
set_option maxHeartbeats 400000 in
theorem wnum_bad (B g : Nat) (s : St) (A : Option Addr) (c : Nat) (size : Int) (x : Value) (w : World) (h : Wr w B g s.1 A c s.2) (hs : sized size = false) :
  Calls Tryz.prog 77 #[.pointer (some ⟨g, 0, none⟩), .int .i64 size, x] w (Wrote w B g A (if s.1 = 0 then ((1, s.2) : St) else s).1 (if s.1 = 0 then ((1, s.2) : St) else s).2) := by
 obtain ⟨e, bs⟩ := s
 by_cases he : e = 0
 ·
  subst he
  have hfin : (if ((0, bs) : St).1 = 0 then ((1, bs) : St) else (0, bs)) = (1, bs) := rfl
  show Calls _ _ _ w (Wrote w B g A (1 : Int) bs)
  have H := hD h
  have HS := hD hs
  clear h hs hfin
  go_enter Tryz.func77, Tryz.ntmps77
  go_wp2_with (first
   | (go_at_call 126; refine (isSize_any size _).mono ?_; rw [HS.out]; rintro e w' ⟨rfl, rfl⟩)
   | (go_at_call 127; refine (fail_first g _ _ 1 _ H.out.blk rfl).mono ?_; rintro e w' ⟨rfl, rfl⟩))
  refine bodyPost_ret (results_none rfl _ _ _) rfl ?_
  exact ⟨rfl, H.out.fail 1⟩
 ·
  have hfin : (if ((e, bs) : St).1 = 0 then ((1, bs) : St) else (e, bs)) = (e, bs) := if_neg he
  rw [hfin]
  have H := hD h
  have HS := hD hs
  have HE := hD he
  clear h hs hfin he
  go_enter Tryz.func77, Tryz.ntmps77
  go_wp2_with (first
   | (go_at_call 126; refine (isSize_any size _).mono ?_; rw [HS.out]; rintro e w' ⟨rfl, rfl⟩)
   | (go_at_call 127; refine (fail_again g _ _ e 1 _ H.out.blk rfl HE.out).mono ?_; rintro e w' ⟨rfl, rfl⟩))
  refine bodyPost_ret (results_none rfl _ _ _) rfl ?_
  exact ⟨rfl, A, c, H.out, Step.refl _ _ _⟩
theorem wnum_any (B g : Nat) (s : St) (A : Option Addr) (c : Nat) (size : Int) (An : Option Addr) (n cn : Nat) (ns : List Int) (w : World) (h : Wr w B g s.1 A c s.2) (hi : ∀ x ∈ ns, I64 x)
  (hx : Src w (fun k => k ≠ g ∧ row A ≠ some k) An n cn (ints ns)) (hn : s.2.length + 8 * n ≤ 140737488355328) :
  Calls Tryz.prog 77 #[.pointer (some ⟨g, 0, none⟩), .int .i64 size, .slice An n cn] w (Wrote w B g A (wNumsA size ns s).1 (wNumsA size ns s).2) := by
 by_cases hs : sized size = true
 ·
  obtain ⟨k, rfl⟩ : ∃ k : Nat, size = k := ⟨size.toNat, by simp only [sized, decide_eq_true_eq] at hs; omega⟩
  have := wnum_ok B g s A c k An n cn ns w h hs hi hx hn
  simpa only [wNumsA, hs, if_true, Int.toNat_natCast] using this
 ·
  have := wnum_bad B g s A c size (.slice An n cn) w h (by simpa using hs)
  simpa only [wNumsA, if_neg hs] using this
def strs (ss : List (List UInt8)) : List Value := ss.map fun l => .string ⟨l.toArray⟩
def wTexts (ss : List (List UInt8)) (s : St) : St := ss.foldl (fun s l => wMeas 2 4096 l s) s
theorem wTexts_snoc (ss : List (List UInt8)) (k : Nat) (h : k < ss.length) (s : St) : wTexts (ss.take (k + 1)) s = wMeas 2 4096 ss[k] (wTexts (ss.take k) s) := by
 unfold wTexts
 rw [List.take_succ_eq_append_getElem h, List.foldl_append]
 rfl
def room (ss : List (List UInt8)) : Nat := (ss.map fun l => l.length + 8).sum
theorem wMeas_len (size most : Nat) (l : List UInt8) (s : St) (h : size ≤ 8) : (wMeas size most l s).2.length ≤ s.2.length + (l.length + 8) := by
 unfold wMeas
 split
 ·
  split
  ·
   simp [digs_len]; omega
  ·
   simp
 ·
  omega
theorem wTexts_len (ss : List (List UInt8)) : ∀ s : St, (wTexts ss s).2.length ≤ s.2.length + room ss := by
 induction ss with
 | nil => intro s; simp [wTexts]
 | cons l ss ih =>
  intro s
  have h1 := ih (wMeas 2 4096 l s)
  have h2 := wMeas_len 2 4096 l s (by omega)
  have : wTexts (l :: ss) s = wTexts ss (wMeas 2 4096 l s) := rfl
  have hr : room (l :: ss) = (l.length + 8) + room ss := by simp [room]
  rw [this, hr]
  omega
theorem room_take (ss : List (List UInt8)) (k : Nat) (h : k < ss.length) : room (ss.take k) + (ss[k].length + 8) ≤ room ss := by
 have e : ss = ss.take k ++ ss[k] :: ss.drop (k + 1) := by simp
 have : room ss = room (ss.take k) + ((ss[k].length + 8) + room (ss.drop (k + 1))) := by
  conv => lhs; rw [e]
  simp only [room, List.map_append, List.map_cons, List.sum_append, List.sum_cons]
 omega
theorem room_ge (ss : List (List UInt8)) : 8 * ss.length ≤ room ss := by
 induction ss with
 | nil => simp
 | cons l ss ih =>
  have : room (l :: ss) = (l.length + 8) + room ss := by simp [room]
  rw [this, List.length_cons]
  omega
theorem conv_bytes (w : World) (l : List UInt8) : ∃ cap wb, (convert 9 22 (.string ⟨l.toArray⟩)).run Tryz.prog w = .ok (.slice (some ⟨w.heap.size, 0, none⟩) l.length cap) wb ∧ Below w.heap.size w wb ∧
  Src wb (fun k => k = w.heap.size) (some ⟨w.heap.size, 0, none⟩) l.length cap (cells l) := by
 have h := Lib.run_convert_string_bytes (P := Tryz.prog) w 9 22 5 ⟨l.toArray⟩ (u := .string) Tryz.underlying9 Tryz.underlying22 Tryz.underlying5
 refine ⟨_, _, h, ⟨rfl, rfl, rfl, by rw [Lib.bytesWorld_size]; omega, fun k hk => Lib.bytesWorld_at_old _ _ _ _ hk⟩, by simp [cells], (by intro h; cases h), grownCap_ge w l.length 0 5, (by intro ad h _; cases h; rfl), ?_⟩
 intro ad ha j u hu
 cases ha
 have hj : j < l.length := by have := (List.getElem?_eq_some_iff.1 hu).1; simpa [cells] using this
 have ea : (⟨w.heap.size, 0, none⟩ : Addr).add j = ⟨w.heap.size, j, none⟩ := by unfold Addr.add; split <;> simp_all
 rw [ea, Lib.bytesWorld_cell w 5 ⟨l.toArray⟩ j hj, ← hu]
 simp [cells, u8, List.getD, List.getElem?_eq_getElem hj]
set_option maxHeartbeats 400000 in
theorem wtext_any (B g : Nat) (s : St) (A : Option Addr) (c : Nat) (An : Option Addr) (n cn : Nat) (ss : List (List UInt8)) (w : World) (h : Wr w B g s.1 A c s.2)
  (hx : Src w (fun k => k ≠ g ∧ row A ≠ some k) An n cn (strs ss)) (hn : s.2.length + room ss ≤ 140737488355328) :
  Calls Tryz.prog 76 #[.pointer (some ⟨g, 0, none⟩), .slice An n cn] w (Wrote w B g A (wTexts ss s).1 (wTexts ss s).2) := by
 have hl : ss.length = n := by have := hx.len; simpa [strs] using this
 have hnn : n ≤ 140737488355328 := by have := room_ge ss; omega
 have HL := hD hl
 have H := hD h
 have HX := hD hx
 clear h hx hl
 go_enter Tryz.func76, Tryz.ntmps76
 go_wp2_with fail
 go_loopw [5, 8] (fun _ i wr => ∃ k : Nat, k ≤ n ∧ i = .int .i64 k ∧ At w B g A (wTexts (ss.take k) s).1 (wTexts (ss.take k) s).2 wr) (fun _ i _ => n - (intOf i).toNat)
 case atStart => exact ⟨0, Nat.zero_le _, rfl, A, c, H.out, Step.refl _ _ _⟩
 case round =>
  obtain ⟨k, hk, rfl, A', c', hw, hst⟩ := hrel
  by_cases hlt : k < n
  ·
   have hkl : k < ss.length := by rw [HL.out]; exact hlt
   have hb := wTexts_len (ss.take k) s
   have hb2 := room_take ss k hkl
   have hb1 : (wTexts (ss.take k) s).2.length + 8 + ss[k].length ≤ 140737488355328 := by omega
   have HST := hD hst
   obtain ⟨ad, rfl⟩ : ∃ ad, An = some ad := by
    cases An with
    | none => have := (HX.out.nil rfl).1; omega
    | some ad => exact ⟨ad, rfl⟩
   have hcell : wr.cell? (ad.add k) = some (.string ⟨ss[k].toArray⟩) := (HX.out.step hst).at_ ad rfl k _ (by simp [strs, List.getElem?_eq_getElem hkl])
   have hcap := HX.out.cap
   obtain ⟨cap, wb, hcv, hbl, hsb⟩ := conv_bytes wr ss[k]
   have C := meas_any B g (wTexts (ss.take k) s) A' c' 2 4096 _ _ cap ss[k] wb (hw.below hbl) (by decide) fit_text
    (hsb.weak fun j hj => (by subst hj; exact ⟨by have := hw.lt; omega, fun e => by have := (hw.rowLt _ e).2; omega⟩)) hb1
   rw [← wTexts_snoc ss k hkl s] at C
   have HC := hD C
   have HB := hD hbl
   clear hw hst hb hb2 hb1 C hsb hbl
   go_wp2_with (go_at_call 153; refine HC.out.mono ?_; rintro en w1 ⟨rfl, hat⟩; have HA := hD hat; clear hat)
   go_roundw
   case rel => exact ⟨k + 1, by omega, by go_num, At.trans (HST.out.trans (Step.below HB.out _)) HA.out⟩
   case measure => simp [intOf]; omega
  ·
   obtain rfl : k = n := by omega
   have HW := hD hw
   have HST := hD hst
   clear hw hst
   go_wp2
   go_end0
   have : ss.take k = ss := List.take_of_length_le (by rw [HL.out]; exact Nat.le_refl _)
   have hw := HW.out
   rw [this] at hw
   exact ⟨rfl, A', c', hw, HST.out⟩
def Made (w : World) (e : Ending) (w' : World) : Prop := e = .returned (.pointer (some ⟨w.heap.size, 0, none⟩)) ∧ Wr w' w'.heap.size w.heap.size 0 none 0 [] ∧ Below w.heap.size w w' ∧ w'.heap.size = w.heap.size + 1
theorem wnew_any (w : World) : Calls Tryz.prog 22 #[] w (Made w) := by
 go_enter Tryz.func22, Tryz.ntmps22
 go_wp2
 go_ret
 exact ⟨rfl, ⟨heap_alloc_new _ _, World.ownsRow_nil _ _ _ _, Nat.le_refl _⟩, (Below.refl _ _).alloc (Nat.le_refl _) _, by simp⟩
def Gave (w : World) (l : List UInt8) (e : Ending) (w' : World) : Prop :=
 ∃ A' c', e = .returned (.tuple #[.slice A' l.length c', .int .i64 0]) ∧ w'.ownsRow w.heap.size 5 1 (.slice A' l.length c') l.length (cells l) ∧ Below w.heap.size w w'
set_option maxHeartbeats 400000 in
theorem bytes_ok (B g : Nat) (A : Option Addr) (c : Nat) (bs : List UInt8) (w : World) (h : Wr w B g 0 A c bs) (hn : bs.length ≤ 140737488355328) :
  Calls Tryz.prog 24 #[.pointer (some ⟨g, 0, none⟩)] w (Gave w bs) := by
 have hc1 : w.cell? ⟨g, 1, none⟩ = some (.slice A bs.length c) := cell_of_row w g 1 _ _ _ h.blk
 have H := hD h
 have HC := hD (clone_any _ A bs.length c bs w (Src.of_own h.own) hn)
 clear h
 go_enter Tryz.func24, Tryz.ntmps24
 go_wp2_with (first
  | (go_at_call 54; refine (failed_any g _ _ 0 _ H.out.blk rfl).mono ?_; rintro e w' ⟨rfl, rfl⟩)
  | (go_at_call 36; refine HC.out.mono ?_; rintro e w' ⟨A', c', rfl, hown, hb⟩; have HO := hD hown; have HB := hD hb; clear hown hb))
 go_ret2
 exact ⟨A', c', rfl, HO.out, HB.out⟩
end Go.Proofs.YtfljignkjmabpaaGreat
namespace Go.Proofs.YtfljignkjmabpaaGreat.Siv
set_option maxRecDepth 100000
open Go.RowKit
def Cloned (w : World) (n : Nat) (l : List UInt64) (e : Ending) (w' : World) : Prop :=
 ∃ A' c', e = .returned (.slice A' n c') ∧ w'.ownsRow w.heap.size 52 1 (.slice A' n c') n (wds l) ∧ Below w.heap.size w w'
def Copied (w : World) (n : Nat) (l : List UInt64) (s : Int) (e : Ending) (w' : World) : Prop :=
 ∃ A c, e = .returned (flt A n c s) ∧ w'.ownsRow w.heap.size 52 1 (.slice A n c) n (wds l) ∧ Below w.heap.size w w'
theorem two_boxes (w : World) (A : Option Addr) (n c : Nat) (s : Int) :
  Bx ((w.alloc (.cells #[.slice A n c, .int .i64 s] 33)).alloc (.cells #[.slice none 0 0, .int .i64 0] 33)) w.heap.size A n c s ∧
  Bx ((w.alloc (.cells #[.slice A n c, .int .i64 s] 33)).alloc (.cells #[.slice none 0 0, .int .i64 0] 33)) (w.heap.size + 1) none 0 0 0 ∧
  Below w.heap.size w ((w.alloc (.cells #[.slice A n c, .int .i64 s] 33)).alloc (.cells #[.slice none 0 0, .int .i64 0] 33)) ∧
  ((w.alloc (.cells #[.slice A n c, .int .i64 s] 33)).alloc (.cells #[.slice none 0 0, .int .i64 0] 33)).heap.size = w.heap.size + 2 := by
 refine ⟨(Bx.new w A n c s).below ((Below.refl _ _).alloc (Nat.le_refl _) _), ?_, ((Below.refl _ _).alloc (Nat.le_refl _) _).alloc (by simp) _, by simp⟩
 have := Bx.new (w.alloc (.cells #[.slice A n c, .int .i64 s] 33)) none 0 0 0
 simpa using this
end Go.Proofs.YtfljignkjmabpaaGreat.Siv
namespace Go.Proofs.YtfljignkjmabpaaGreat.Siv
set_option maxRecDepth 100000
open Go.RowKit
theorem three_boxes (w : World) (A : Option Addr) (n c : Nat) (s : Int) (A' : Option Addr) (n' c' : Nat) (s' : Int) :
  Bx (((w.alloc (.cells #[.slice A n c, .int .i64 s] 33)).alloc (.cells #[.slice none 0 0, .int .i64 0] 33)).alloc (.cells #[.slice A' n' c', .int .i64 s'] 33)) w.heap.size A n c s ∧
  Bx (((w.alloc (.cells #[.slice A n c, .int .i64 s] 33)).alloc (.cells #[.slice none 0 0, .int .i64 0] 33)).alloc (.cells #[.slice A' n' c', .int .i64 s'] 33)) (w.heap.size + 1) none 0 0 0 ∧
  Bx (((w.alloc (.cells #[.slice A n c, .int .i64 s] 33)).alloc (.cells #[.slice none 0 0, .int .i64 0] 33)).alloc (.cells #[.slice A' n' c', .int .i64 s'] 33)) (w.heap.size + 1 + 1) A' n' c' s' ∧
  Below w.heap.size w (((w.alloc (.cells #[.slice A n c, .int .i64 s] 33)).alloc (.cells #[.slice none 0 0, .int .i64 0] 33)).alloc (.cells #[.slice A' n' c', .int .i64 s'] 33)) ∧
  (((w.alloc (.cells #[.slice A n c, .int .i64 s] 33)).alloc (.cells #[.slice none 0 0, .int .i64 0] 33)).alloc (.cells #[.slice A' n' c', .int .i64 s'] 33)).heap.size = w.heap.size + 3 := by
 obtain ⟨h1, h2, h3, h4⟩ := two_boxes w A n c s
 have hb := (Below.refl ((w.alloc (.cells #[.slice A n c, .int .i64 s] 33)).alloc (.cells #[.slice none 0 0, .int .i64 0] 33)).heap.size ((w.alloc (.cells #[.slice A n c, .int .i64 s] 33)).alloc (.cells #[.slice none 0 0, .int .i64 0] 33))).alloc (Nat.le_refl _) (.cells #[.slice A' n' c', .int .i64 s'] 33)
 refine ⟨h1.below hb, h2.below hb, ?_, h3.trans (hb.mono (by omega)), by simp⟩
 have := Bx.new ((w.alloc (.cells #[.slice A n c, .int .i64 s] 33)).alloc (.cells #[.slice none 0 0, .int .i64 0] 33)) A' n' c' s'
 rw [h4] at this
 exact this
theorem radd_any (P : Nat → Prop) (A : Option Addr) (n c : Nat) (s : Int) (l : List UInt64) (Ah : Option Addr) (ch : Nat) (hs : List UInt32) (w : World) (hx : Src w P A n c (wds l)) (hh : Src w (fun k => k < w.heap.size) Ah hs.length ch (hsh hs)) (hm : hs.length ≤ 4611686018427387904)
  (hn : n * 8 ≤ 140737488355328) (hf : hs = [] ∨ (0 < n ∧ 0 ≤ s ∧ s ≤ 31)) :
  Calls Tryz.prog 13 #[flt A n c s, .slice Ah hs.length ch] w (Copied w n (setAll s.toNat l hs) s) := by
 obtain ⟨i0, hi, hz0, hz1, hz2⟩ := info_parts Tryz.info_word
 have HT := hD (three_boxes w A n c s none 0 0 s)
 have HX := hD (hx.lt.below HT.out.2.2.2.1 (fun _ h => h))
 have HH := hD hh
 have HF := hD hf
 have HL := hD (show l.length = n by simpa [wds_len] using hx.len)
 have h1 := wds_one l
 have m1 : 0 + n ≤ maxLen := by simp only [maxLen]; omega
 have m2 : (0 + n) * 8 ≤ 140737488355328 := by omega
 clear hf hx hh
 go_enter Tryz.func13, Tryz.ntmps13
 go_wp2_with (at_builtin; refine wpList_append_src rfl (.tmp 13) (.tmp 15) _ rfl w.heap.size 52 i0 _ 8 Tryz.underlying31 hi hz0 hz1 hz2 rfl (.slice none 0 0) 0 [] rfl (World.ownsRow_nil _ _ _ _) _ A n c (wds l) rfl HX.out h1 m1 m2 (by simp; omega) ?_; intro v' w1 hown hg hat; obtain ⟨A', c', rfl⟩ := own_slice hown; have HB1 := hD (HT.out.1.grown hg (by simp [Value.ownBlock])); have HB2 := hD (HT.out.2.1.grown hg (by simp [Value.ownBlock])); have HB3 := hD (HT.out.2.2.1.grown hg (by simp [Value.ownBlock])); have j0 := HB3.out.c0; have j1 := HB3.out.f0 0; have HBW := hD (HT.out.2.2.2.1.grown hg (by have := HT.out.2.2.2.1.size; exact this) (by intro k hk; cases hk)); have HO := hD hown; have HAT := hD hat; clear hown hg hat)
 have hB3 : Bx (w1.setCell ⟨w.heap.size + 1 + 1, 0, none⟩ (.slice A' n c')) (w.heap.size + 1 + 1) A' n c' s := heap_setCell_same w1 (w.heap.size + 1 + 1) 0 _ _ _ HB3.out
 have hB1 := HB1.out.setCell (a := ⟨w.heap.size + 1 + 1, 0, none⟩) (by show w.heap.size ≠ w.heap.size + 1 + 1; omega) (.slice A' n c')
 have hB2 := HB2.out.setCell (a := ⟨w.heap.size + 1 + 1, 0, none⟩) (by show w.heap.size + 1 ≠ w.heap.size + 1 + 1; omega) (.slice A' n c')
 have hb := HBW.out.setCell (p := ⟨w.heap.size + 1 + 1, 0, none⟩) (by show w.heap.size ≤ w.heap.size + 1 + 1; omega) (.slice A' n c')
 have hrow : ∀ g, row A' = some g → w.heap.size + 1 + 1 < g := by
  intro g hg
  rcases HAT.out with h | h
  ·
   rw [row_own] at h; rw [hg] at h; cases h
  ·
   rw [row_own] at h; rw [hg] at h; injection h with h; have := HT.out.2.2.2.2; omega
 have ho : (w1.setCell ⟨w.heap.size + 1 + 1, 0, none⟩ (.slice A' n c')).ownsRow w.heap.size 52 1 (.slice A' n c') n (wds l) := by
  have h := HO.out
  simp only [Nat.zero_add, List.nil_append] at h
  exact ownsRow_setCell_other h (by rw [row_own]; intro e; have := hrow _ e; exact absurd this (Nat.lt_irrefl _)) _
 have HR := hD hrow
 generalize w1.setCell ⟨w.heap.size + 1 + 1, 0, none⟩ (.slice A' n c') = w5 at hB1 hB2 hB3 hb ho ⊢
 clear HB1 HB2 HB3 HBW HO HAT HT HX j0 j1 hi hz0 hz1 hz2 h1 m1 m2 hrow
 go_loopw [6] (fun i wr => ∃ k : Nat, k ≤ hs.length ∧ i = .int .i64 k ∧ Bx wr w.heap.size A n c s ∧ Bx wr (w.heap.size + 1) none 0 0 0 ∧ Bx wr (w.heap.size + 1 + 1) A' n c' s ∧ Below w.heap.size w wr ∧ wr.ownsRow w.heap.size 52 1 (.slice A' n c') n (wds (setAll s.toNat l (hs.take k)))) (fun i _ => hs.length - (intOf i).toNat)
 case atStart => exact ⟨0, Nat.zero_le _, rfl, hB1, hB2, hB3, hb, ho⟩
 case round =>
  clear hB1 hB2 hB3 hb ho
  obtain ⟨k, hk, rfl, hB1, hB2, hB3, hb, ho⟩ := hrel
  by_cases hlt : k < hs.length
  ·
   have hne : hs ≠ [] := by intro e; rw [e] at hlt; simp at hlt
   obtain ⟨p0, p1, p2⟩ : 0 < n ∧ 0 ≤ s ∧ s ≤ 31 := HF.out.resolve_left hne
   obtain ⟨g, rfl, hg1, hg2⟩ := own_some ho p0
   obtain ⟨s, rfl⟩ : ∃ k : Nat, s = k := ⟨s.toNat, by omega⟩
   cases Ah with
   | none => have := (HH.out.nil rfl).1; omega
   | some ad =>
    have hc := (HH.out.below hb (fun _ h => h)).at_ ad rfl k _ (hsh_get hs k hlt)
    have HS := hD (setAll_take s l hs k hlt)
    have HL2 := hD ((setAll_len s l (hs.take k)).trans HL.out)
    rw [show ((s : Int).toNat) = s by simp] at ho ⊢
    generalize setAll s l (hs.take k) = cur at ho HS HL2
    generalize hs[k] = h at hc HS
    have hi := idx_lt n h p0
    have h32 := h.toNat_lt
    have hma : (h.toNat : Int) % 64 = ((h.toNat % 64 : Nat) : Int) := by simp
    generalize hxa : h.toNat % 64 = a at hma
    have hmt : (h.toNat : Int).tmod 64 = (a : Int) := by rw [Int.tmod_eq_emod_of_nonneg (by omega)]; exact hma
    have ha : a < 64 := by omega
    have hx2 : h.toNat / 2 ^ s ≤ h.toNat := Nat.div_le_self _ _
    generalize hxx : h.toNat / 2 ^ s = x at hx2
    have hmb : (x : Int) % 64 = ((x % 64 : Nat) : Int) := by simp
    generalize hxb : x % 64 = b at hmb
    have hmu : (x : Int).tmod 64 = (b : Int) := by rw [Int.tmod_eq_emod_of_nonneg (by omega)]; exact hmb
    have hbb : b < 64 := by omega
    have HSH := hD (fun w : World => rshifted_nat h s x w (by omega) hxx)
    have HXX := hD hxx
    have HXA := hD hxa
    have HXB := hD hxb
    have hix : (h.toNat : Int) / 64 % (n : Int) = (idx n h : Nat) := by simp [idx]
    clear hxx hxa hxb
    have k1 := hB1.c0
    have k2 := hB1.c1
    have k3 := hB3.c0
    have k4 := hB3.c1
    have k5 := ho.cellAt (idx n h) (by omega)
    rw [wds_get _ _ (by rw [HL2.out]; exact hi)] at k5
    have k6 := ho.frozenAt (idx n h)
    have HB1 := hD hB1
    have HB2 := hD hB2
    have HB3 := hD hB3
    have HB := hD hb
    have HO := hD ho
    clear hB1 hB2 hB3 hb ho
    have hcw : ∀ w : World, Calls Tryz.prog 25 #[u64v (wd cur (idx n h)), u32n a] w fun e w' => e = .returned (u64v (wd cur (idx n h) ||| bit a)) ∧ w' = w := fun w => (rwith_any (wd cur (idx n h)) a w ha).mono (fun e w' h => ⟨h.1, h.2.symm⟩)
    generalize hy : wd cur (idx n h) ||| bit a = y at hcw
    have HY := hD hy
    have HCW := hD hcw
    clear hy hcw
    go_wp2
    go_still_tail 11, (by kernel_rfl)
    refine wpStill_step (fun K hK => ?_)
    go_simp
    refine ⟨_, HCW.out _, hK _ ?_⟩
    clear hK K
    refine wpStill_nil ?_
    change wpList _ _ _ _ _ wr.drew
    go_wp2
    have hB1 := (HB1.out.setCell (a := ⟨g, idx n h, none⟩) (by show w.heap.size ≠ g; have := HR.out g rfl; omega) (u64v y)).below (drew_below _)
    have hB2 := (HB2.out.setCell (a := ⟨g, idx n h, none⟩) (by show w.heap.size + 1 ≠ g; have := HR.out g rfl; omega) (u64v y)).below (drew_below _)
    have hB3 := (HB3.out.setCell (a := ⟨g, idx n h, none⟩) (by show w.heap.size + 1 + 1 ≠ g; have := HR.out g rfl; omega) (u64v y)).below (drew_below _)
    have hb := (HB.out.setCell (p := ⟨g, idx n h, none⟩) (by exact hg1) (u64v y)).drew
    have ho := own_below (HO.out.stored (idx n h) (u64v y)).1 (drew_below _)
    generalize (wr.setCell ⟨g, idx n h, none⟩ (u64v y)).drew = w6 at hB1 hB2 hB3 hb ho ⊢
    rw [← wds_set] at ho
    clear HB1 HB2 HB3 HB HO k1 k2 k3 k4 k5 k6 hc HCW
    have k1 := hB1.c0
    have k2 := hB1.c1
    have k3 := hB3.c0
    have k4 := hB3.c1
    have k5 := ho.cellAt (idx n h) (by omega)
    rw [wds_get _ _ (by rw [List.length_set, HL2.out]; exact hi)] at k5
    have hwd : wd (cur.set (idx n h) y) (idx n h) = y := by
     have := HL2.out
     simp [wd, this, hi]
    rw [hwd] at k5
    have k6 := ho.frozenAt (idx n h)
    clear hwd
    have hcw : ∀ w : World, Calls Tryz.prog 25 #[u64v y, u32n b] w fun e w' => e = .returned (u64v (y ||| bit b)) ∧ w' = w := fun w => (rwith_any y b w hbb).mono (fun e w' h => ⟨h.1, h.2.symm⟩)
    generalize hz : y ||| bit b = z at hcw
    have HSET := hD (show setW s cur h = (cur.set (idx n h) y).set (idx n h) z by
     rw [List.set_set, setW, HL2.out, msk, HXA.out, HXX.out, HXB.out, ← UInt64.or_assoc, HY.out, hz])
    have HCW := hD hcw
    have HB1 := hD hB1
    have HB2 := hD hB2
    have HB3 := hD hB3
    have HB := hD hb
    have HO := hD ho
    clear hB1 hB2 hB3 hb ho hz hcw
    generalize cur.set (idx n h) y = cur2 at HO HSET
    clear HXA HXX HXB hma hmt hmb
    go_still_tail 14, (by kernel_rfl)
    refine wpStill_step (fun K hK => ?_)
    go_simp
    refine ⟨_, (HSH.out _).mono (fun e w' h => ⟨h.1, h.2.symm⟩), hK _ ?_⟩
    clear hK K
    repeat still_step
    refine wpStill_step (fun K hK => ?_)
    go_simp
    refine ⟨_, HCW.out _, hK _ ?_⟩
    clear hK K
    refine wpStill_nil ?_
    change wpList _ _ _ _ _ w6.drew
    go_wp2
    have e : wds ((cur2).set (idx n h) z) = (wds cur2).set (idx n h) (u64v z) := wds_set _ _ _
    go_roundw
    case rel =>
     refine ⟨k + 1, by omega, by go_num, (HB1.out.setCell (a := ⟨g, idx n h, none⟩) (by show w.heap.size ≠ g; have := HR.out g rfl; omega) (u64v z)).below (drew_below _), (HB2.out.setCell (a := ⟨g, idx n h, none⟩) (by show w.heap.size + 1 ≠ g; have := HR.out g rfl; omega) (u64v z)).below (drew_below _), (HB3.out.setCell (a := ⟨g, idx n h, none⟩) (by show w.heap.size + 1 + 1 ≠ g; have := HR.out g rfl; omega) (u64v z)).below (drew_below _), (HB.out.setCell (p := ⟨g, idx n h, none⟩) (by exact hg1) (u64v z)).drew, ?_⟩
     rw [HS.out, HSET.out, e]
     exact own_below (HO.out.stored (idx n h) (u64v z)).1 (drew_below _)
    case measure => simp [intOf]; omega
  ·
   obtain rfl : k = hs.length := by omega
   rw [List.take_of_length_le (Nat.le_refl _)] at ho
   have k0 := hB3.c0
   have k1 := hB3.c1
   have k2 := hB2.c0
   have k3 := hB2.c1
   have k4 := hB2.f0 0
   have k5 := hB2.f0 1
   have HB2 := hD hB2
   have HB := hD hb
   have HO := hD ho
   clear hB1 hB2 hB3 hb ho
   go_wp2
   have hq := HB2.out.over A' n c' s
   have q0 := hq.c0
   have q1 := hq.c1
   have hrw : ∀ j, (Value.slice A' n c').ownBlock ≠ some (⟨w.heap.size + 1, j, none⟩ : Addr).block := fun j e => by
    rw [row_own] at e
    have := HR.out _ e
    have h' : w.heap.size + 1 + 1 < w.heap.size + 1 := this
    omega
   have how := ownsRow_setCell_other (ownsRow_setCell_other HO.out (hrw 0) (.slice A' n c')) (hrw 1) (.int .i64 s)
   have hbw := (HB.out.setCell (p := ⟨w.heap.size + 1, 0, none⟩) (by show w.heap.size ≤ w.heap.size + 1; omega) (.slice A' n c')).setCell (p := ⟨w.heap.size + 1, 1, none⟩) (by show w.heap.size ≤ w.heap.size + 1; omega) (.int .i64 s)
   generalize (wr.setCell ⟨w.heap.size + 1, 0, none⟩ (.slice A' n c')).setCell ⟨w.heap.size + 1, 1, none⟩ (.int .i64 s) = w3 at q0 q1 how hbw ⊢
   exact bodyPost_ret (v := flt A' n c' s) (by simp [results, Tryz.results13, go_sem, q0, q1]) rfl ⟨A', c', rfl, how, hbw⟩
end Go.Proofs.YtfljignkjmabpaaGreat.Siv
