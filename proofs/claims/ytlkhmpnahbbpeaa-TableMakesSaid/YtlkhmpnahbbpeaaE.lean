/-
  Tables that are made.
-/
import Derived.Test.YtlkhmpnahbbpeaaD
namespace Go.Proofs.Ytlkhmpnahbbpeaa
open Go.RowKit

def cntS (ss : List Sym) : Nat := (cntT ((hashesS ss).length : Int)).toNat
def wlS (ss : List Sym) : Nat := wcN (hashesS ss).length
def filS (ss : List Sym) : List UInt64 := Siv.setAll 6 (Siv.blank (wlS ss)) (hashesS ss)
theorem hashes_all (ss : List Sym) : (hashesS ss).length ≤ ss.length := by
  have := hashes_len ss ss.length
  rw [List.take_length] at this
  exact this
theorem cntS_val (ss : List Sym) : ((cntS ss : Nat) : Int) = cntT ((hashesS ss).length : Int) := by
  have := cnt_pos ((hashesS ss).length : Int)
  unfold cntS
  omega
theorem cntS_le {ss : List Sym} (h : ss.length ≤ 512) : 0 < cntS ss ∧ cntS ss ≤ 128 := by
  have h1 := hashes_all ss
  have h2 := cntS_val ss
  unfold cntT at h2
  split at h2 <;> omega
theorem wl_form (n : Nat) : Siv.formB (wcN n : Int) ((6 : Nat) : Int) = true := by
  unfold wcN
  repeat' split
  all_goals rfl
theorem fil_len (ss : List Sym) : (filS ss).length = wlS ss := by
  unfold filS
  rw [Siv.setAll_len]
  simp [Siv.blank]
abbrev tabA (gA : Option Addr) (n c : Nat) (Af : Option Addr) (wl cf : Nat) (sh : Int) : Array Value := #[.slice gA n c, .slice Af wl cf, .int .i64 sh]
/-- A table that was made of symbols. -/
def TabM (w0 w' : World) (ss : List Sym) (g : Nat) (s : Nat → Option Addr × Nat) (Af : Option Addr) (cf : Nat) : Prop :=
  Bks w' w0.heap.size g (cntS ss) (fillS ss (cntS ss) ss.length) s ∧ w'.ownsRow w0.heap.size 65 1 (.slice Af (wlS ss) cf) (wlS ss) (Siv.wds (filS ss)) ∧ Below w0.heap.size w0 w'
theorem Try.info_tab : (Try.prog.info? 29).map (·.size) = some 3 := by kernel_rfl
/-- A box of cells: a table's. -/
def Tx (w : World) (b : Nat) (cs : Array Value) : Prop := w.heap[b]? = some (.cells cs 29 (0, 0))
theorem results_tab {fn : Func} {p r : Tmp} {t : TypeId} (h : fn.results = #[.cell p t, .tmp r]) (tmps : Array Value) (P : Program) (w : World) :
    (results fn tmps).run P w = ((asAddr (tmps.getD p undef)).run P w).andThen fun a w₁ => ((loadVar t a).run P w₁).andThen fun v w₂ => .ok (.tuple #[v, tmps.getD r undef]) w₂ := by
  simp only [results, h]
  simp [Sem.run_bind, Result.andThen]
theorem Syl.lt {w w1 : World} {A : Option Addr} {n c : Nat} {ss : List Sym} (h : Syl w (fun k => k < w.heap.size) A n c ss) (hb : Below w.heap.size w w1) : Syl w1 (fun k => k < w1.heap.size) A n c ss := by
  have q := h.below hb (fun _ h => h)
  exact ⟨q.len, q.nil, q.cap, fun ad e h0 => Nat.lt_of_lt_of_le (q.blk ad e h0) hb.size, q.at_⟩
theorem grow_cell (w : World) (b j : Nat) (v : Value) : w.grownBy (w.setCell ⟨b, j, none⟩ v) (some b) :=
  ⟨rfl, rfl, rfl, by simp [World.setCell], fun k _ hn => Below.heap_setCell w ⟨b, j, none⟩ v k (fun e => hn (by rw [e]))⟩
theorem own_cell {w : World} {B b n : Nat} {e : TypeId} {v : Value} {xs : List Value} (h : w.ownsRow B e 1 v n xs) (hb : b < B) (j : Nat) (u : Value) : (w.setCell ⟨b, j, none⟩ u).ownsRow B e 1 v n xs :=
  h.kept (grow_cell w b j u) (by
    cases hq : v.ownBlock with
    | none => exact .inl rfl
    | some q => exact .inr fun e => absurd (Option.some.inj e) (fun e' => by have := (h.lt q hq).1; omega))
theorem Bks.cells {w : World} {B g n b : Nat} {f : Nat → List Int} {s : Nat → Option Addr × Nat} (h : Bks w B g n f s) (hb : b < B) (j : Nat) (u : Value) : Bks (w.setCell ⟨b, j, none⟩ u) B g n f s :=
  ⟨own_cell h.out hb j u, fun k hk => own_cell (h.own k hk) hb j u, h.apart⟩
theorem Bks.base {w : World} {B B' g n : Nat} {f : Nat → List Int} {s : Nat → Option Addr × Nat} (h : Bks w B g n f s) (hB : B' ≤ B) : Bks w B' g n f s := ⟨own_more h.out hB, fun k hk => own_more (h.own k hk) hB, h.apart⟩
set_option maxRecDepth 100000 in
set_option maxHeartbeats 4000000 in
theorem tmake_no (A : Option Addr) (n c : Nat) (w : World) (hn : 512 < n) (hn2 : n ≤ 9223372036854775807) :
    Calls Try.prog 12 #[.slice A n c] w fun e w' => e = .returned (.tuple #[.agg (tabA none 0 0 none 0 0 0), .int .i64 2]) ∧ Below w.heap.size w w' := by
  have h1 : (512 : Int) < (n : Int) := by omega
  have HB := Lib.hid (show Below w.heap.size w (w.alloc (.cells (tabA none 0 0 none 0 0 0) 29)) from (Below.refl _ _).alloc (Nat.le_refl _) _)
  go_enter Try.func12, Try.ntmps12
  go_wp2_with fail
  refine bodyPost_ret (v := .tuple #[.agg (tabA none 0 0 none 0 0 0), .int .i64 2]) (by rw [results_tab rfl]; go_simp) rfl ⟨rfl, HB.out⟩
set_option maxRecDepth 100000 in
set_option maxHeartbeats 4000000 in
theorem tmake_any (A : Option Addr) (c : Nat) (ss : List Sym) (w : World) (h : Syl w (fun k => k < w.heap.size) A ss.length c ss) (hn : ss.length ≤ 512) (hs : Named ss) :
    Calls Try.prog 12 #[.slice A ss.length c] w fun e w' => ∃ g s Af cf, e = .returned (.tuple #[.agg (tabA (some ⟨g, 0, none⟩) (cntS ss) (cntS ss) Af (wlS ss) cf 6), .int .i64 0]) ∧ TabM w w' ss g s Af cf := by
  have H := Lib.hid h
  have HS := Lib.hid hs
  have hc := cntS_le hn
  have hall := hashes_all ss
  have HC1 := Lib.hid (fun X => tcount_any ((hashesS ss).length : Int) (by unfold I64; omega) X)
  rw [← cntS_val] at HC1
  have HWC := Lib.hid (fun X => wordCount_any (hashesS ss).length X)
  have HFL := Lib.hid (fil_len ss)
  have HFF := Lib.hid (show filS ss = Siv.setAll ((6 : Nat)) (Siv.blank (wcN (hashesS ss).length)) (hashesS ss) from rfl)
  have hd : ¬ (512 : Int) < (ss.length : Int) := by omega
  go_enter Try.func12, Try.ntmps12
  go_upto_region 3 with (fail)
  have HB1 := Lib.hid (show Below w.heap.size w (w.alloc (.cells (tabA none 0 0 none 0 0 0) 29)) from (Below.refl _ _).alloc (Nat.le_refl _) _)
  have HX1 := Lib.hid (show Tx (w.alloc (.cells (tabA none 0 0 none 0 0 0) 29)) w.heap.size (tabA none 0 0 none 0 0 0) from heap_alloc_new _ _)
  change Code.wp _ _ _ _ (w.alloc (.cells (tabA none 0 0 none 0 0 0) 29))
  have hz1 : w.heap.size < (w.alloc (.cells (tabA none 0 0 none 0 0 0) 29)).heap.size := by simp
  generalize w.alloc (.cells (tabA none 0 0 none 0 0 0) 29) = w1 at *
  have HH := Lib.hid (hashesOf_any A ss.length c ss w1 (h.lt HB1.out) hn hs)
  clear h hs
  go_upto_region 4 with (go_at_call 29; refine (HH.out).mono ?_; rintro e w2 ⟨A2, c2, rfl, ho, hb⟩; have HO2 := Lib.hid ho; have HB2 := Lib.hid hb; clear ho hb HH)
  generalize hm : (hashesS ss).length = m at *
  have hwl : wcN m = wlS ss := by unfold wlS; rw [hm]
  have HMK := Lib.hid ((Siv.make_ok (wcN m) 6 A2 c2 (hashesS ss) w2 (wl_form m) (((by rw [hm]; exact Src.of_own HO2.out) : Src w2 _ A2 (hashesS ss).length c2 (Siv.hsh (hashesS ss))).lt) (by omega)).mono fun e w' hh => show ∃ Af cf, e = .returned (.tuple #[.agg #[.slice Af (wlS ss) cf, .int .i64 6], .int .i64 0]) ∧ w'.ownsRow w2.heap.size 65 1 (.slice Af (wlS ss) cf) (wlS ss) (Siv.wds (filS ss)) ∧ Below w2.heap.size w2 w' from by
    obtain ⟨Af, cf, h1, h2, h3⟩ := hh
    rw [← HFF.out, HFL.out] at h1 h2
    exact ⟨Af, cf, h1, h2, h3⟩)
  rw [hm] at HMK
  rw [hwl] at HMK HWC
  go_upto_region 7 with (first
    | (go_at_call 31; refine (HWC.out _).mono ?_; rintro e w' ⟨rfl, rfl⟩)
    | (go_at_call 30; refine (HMK.out).mono ?_; rintro e w3 ⟨Af, cf, rfl, hfo, hb3⟩; have HFO := Lib.hid hfo; have HB3 := Lib.hid hb3; clear hfo hb3 HMK))
  have hb4 : Below w3.heap.size w3 (w3.alloc (.cells #[.slice Af (wlS ss) cf, .int .i64 6] 27)) := (Below.refl _ _).alloc (Nat.le_refl _) _
  have hx4 : (w3.alloc (.cells #[.slice Af (wlS ss) cf, .int .i64 6] 27)).heap[w3.heap.size]? = some (.cells #[.slice Af (wlS ss) cf, .int .i64 6] 27 (0, 0)) := heap_alloc_new _ _
  change Code.wp _ _ _ _ (w3.alloc (.cells #[.slice Af (wlS ss) cf, .int .i64 6] 27))
  have HB24 := Lib.hid (HB3.out.trans (hb4.mono HB3.out.size))
  have HB14 := Lib.hid (HB2.out.trans (HB24.out.mono HB2.out.size))
  have HB04 := Lib.hid (HB1.out.trans (HB14.out.mono HB1.out.size))
  have HFO4 := Lib.hid (own_more (Siv.own_below HFO.out hb4) HB2.out.size)
  have hz3 : w1.heap.size ≤ w3.heap.size := Nat.le_trans HB2.out.size HB3.out.size
  generalize w3.alloc (.cells #[.slice Af (wlS ss) cf, .int .i64 6] 27) = w4 at *
  generalize w3.heap.size = b5 at *
  have HX4 := Lib.hid (show Tx w4 w.heap.size (tabA none 0 0 none 0 0 0) from (HB14.out.block _ hz1).trans HX1.out)
  have q0 : w4.cell? ⟨b5, 0, none⟩ = some (.slice Af (wlS ss) cf) := cell_of_row w4 b5 0 _ _ _ hx4
  have q1 : w4.cell? ⟨b5, 1, none⟩ = some (.int .i64 6) := cell_of_row w4 b5 1 _ _ _ hx4
  have HKS := Lib.hid (fun (X : World) (hX : Below w4.heap.size w4 X) => (show Below w.heap.size w X ∧ (X.cell? ⟨b5, 0, none⟩ = some (.slice Af (wlS ss) cf) ∧ X.cell? ⟨b5, 1, none⟩ = some (.int .i64 6)) ∧ Tx X w.heap.size (tabA none 0 0 none 0 0 0) ∧ X.ownsRow w1.heap.size 65 1 (.slice Af (wlS ss) cf) (wlS ss) (Siv.wds (filS ss)) from
    ⟨HB04.out.trans (hX.mono HB04.out.size), ⟨Siv.cell_below hX q0, Siv.cell_below hX q1⟩, (hX.block _ (Nat.lt_of_lt_of_le hz1 HB14.out.size)).trans HX4.out, Siv.own_below HFO4.out hX⟩))
  have HFI := Lib.hid (fun (X : World) (hX : Below w4.heap.size w4 X) => (fill_any (cntS ss) A ss.length c ss X (H.out.lt (HB04.out.trans (hX.mono HB04.out.size))) hn HS.out hc.1 (by omega)).mono fun e w' (hh : ∃ g s, _) => show ∃ g s, e = .returned (.slice (some ⟨g, 0, none⟩) (cntS ss) (cntS ss)) ∧ Bks w' w1.heap.size g (cntS ss) (fillS ss (cntS ss) ss.length) s ∧ Below w4.heap.size w4 w' from by
    obtain ⟨g, s, h1, h2, h3⟩ := hh
    exact ⟨g, s, h1, h2.base (Nat.le_trans HB14.out.size hX.size), hX.trans (h3.mono hX.size)⟩)
  have hx : w.heap.size ≠ b5 := by omega
  clear HFO HB3 HB2 HO2 HB1 HX1 hx4 hb4 HX4
  go_region_held3 (fun X => X.cell? ⟨b5, 0, none⟩ = some (.slice Af (wlS ss) cf) ∧ X.cell? ⟨b5, 1, none⟩ = some (.int .i64 6)) (first | (exact ⟨by assumption, by assumption⟩) | go_keep) (first
    | (go_at_call 21; (with_reducible refine (HC1.out _).mono ?_); rintro e w' ⟨rfl, rfl⟩)
    | (go_at_call 32; (with_reducible refine (HFI.out _ (drew_below w4)).mono ?_); rintro e w5 ⟨g, s, rfl, hk5, hb5⟩; obtain ⟨hba, ⟨p0, p1⟩, ht5, ho5⟩ := HKS.out _ hb5; have HK5 := Lib.hid hk5; have HBA := Lib.hid hba; have HO5 := Lib.hid ho5; have t0 := cell_of_row w5 w.heap.size 0 _ _ _ ht5; have t1 := cell_of_row w5 w.heap.size 1 _ _ _ ht5; have t2 := cell_of_row w5 w.heap.size 2 _ _ _ ht5; have f0 := frozen_of_row w5 w.heap.size 0 _ _ ht5; have f1 := frozen_of_row w5 w.heap.size 1 _ _ ht5; have f2 := frozen_of_row w5 w.heap.size 2 _ _ ht5; simp only [List.getElem?_toArray, List.getElem?_cons_succ, List.getElem?_cons_zero] at t0 t1 t2; clear hk5 hb5 hba ho5 ht5))
  have HK6 := Lib.hid ((((HK5.out.cells hz1 0 (.slice (some ⟨g, 0, none⟩) (cntS ss) (cntS ss))).cells hz1 1 (.slice Af (wlS ss) cf)).cells hz1 2 (.int .i64 6)).base (Nat.le_of_lt hz1))
  have HO6 := Lib.hid (own_more (own_cell (own_cell (own_cell HO5.out hz1 0 (.slice (some ⟨g, 0, none⟩) (cntS ss) (cntS ss))) hz1 1 (.slice Af (wlS ss) cf)) hz1 2 (.int .i64 6)) (Nat.le_of_lt hz1))
  have HB6 := Lib.hid (((HBA.out.setCell (p := ⟨w.heap.size, 0, none⟩) (Nat.le_refl _) (.slice (some ⟨g, 0, none⟩) (cntS ss) (cntS ss))).setCell (p := ⟨w.heap.size, 1, none⟩) (Nat.le_refl _) (.slice Af (wlS ss) cf)).setCell (p := ⟨w.heap.size, 2, none⟩) (Nat.le_refl _) (.int .i64 6))
  clear HK5 HO5 HBA HKS HFI p0 p1
  go_wp2_with fail
  refine bodyPost_ret (v := .tuple #[.agg (tabA (some ⟨g, 0, none⟩) (cntS ss) (cntS ss) Af (wlS ss) cf 6), .int .i64 0]) (by rw [results_tab rfl]; go_simp) rfl ⟨g, s, Af, cf, rfl, HK6.out, HO6.out, HB6.out⟩
end Go.Proofs.Ytlkhmpnahbbpeaa
