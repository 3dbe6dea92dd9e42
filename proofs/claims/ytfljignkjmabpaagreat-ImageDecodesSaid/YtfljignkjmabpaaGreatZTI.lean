/- A part of the proof. -/
import Derived.Test.YtfljignkjmabpaaGreatZTH
set_option linter.unusedSimpArgs false
set_option linter.unusedVariables false
namespace Go.Proofs.YtfljignkjmabpaaGreat
set_option maxRecDepth 100000
open Go.RowKit
def formT (n wl : Nat) (sh : Int) (k : Nat) : Bool := decide (k ≤ 512) && (decide (1 ≤ n) && decide (n ≤ 512)) && Siv.formB wl sh
theorem formT_bool {n wl k : Nat} {sh : Int} {b : Bool} (h : formT n wl sh k = b) : Ending.returned (Value.bool b) = .returned (.bool (formT n wl sh k)) := by rw [h]
theorem tform_any (A : Option Addr) (n c : Nat) (Af : Option Addr) (wl cf : Nat) (sh : Int) (k : Nat) (w : World) (hn : n ≤ 9223372036854775807) (hw : wl ≤ 9223372036854775807) (hk : k ≤ 9223372036854775807) :
  Calls Tryz.prog 109 #[.agg (tabA A n c Af wl cf sh), .int .i64 (k : Int)] w fun e w' => e = .returned (.bool (formT n wl sh k)) ∧ Below w.heap.size w w' := by
 have HB1 := hD (show Below w.heap.size w (w.alloc (.cells (tabA A n c Af wl cf sh) 35)) from (Below.refl _ _).alloc (Nat.le_refl _) _)
 have hx1 : Tx (w.alloc (.cells (tabA A n c Af wl cf sh) 35)) w.heap.size (tabA A n c Af wl cf sh) := heap_alloc_new _ _
 go_enter Tryz.func109, Tryz.ntmps109
 go_upto_region 1 with (fail)
 change Code.wp _ _ _ _ (w.alloc (.cells (tabA A n c Af wl cf sh) 35))
 generalize w.alloc (.cells (tabA A n c Af wl cf sh) 35) = w1 at *
 have t0 := cell_of_row w1 w.heap.size 0 _ _ _ hx1
 have t1 := cell_of_row w1 w.heap.size 1 _ _ _ hx1
 have t2 := cell_of_row w1 w.heap.size 2 _ _ _ hx1
 simp only [List.getElem?_toArray, List.getElem?_cons_succ, List.getElem?_cons_zero] at t0 t1 t2
 clear hx1
 have HRT := hD (Siv.right_any Af wl cf sh w1 hw)
 have HF := hD (show formT n wl sh k = (decide (k ≤ 512) && (decide (1 ≤ n) && decide (n ≤ 512)) && Siv.formB wl sh) from rfl)
 generalize Siv.formB wl sh = fb at *
 by_cases h1 : k ≤ 512
 ·
  have d1 : (k : Int) ≤ 512 := by omega
  by_cases h2 : 1 ≤ n
  ·
   have d2 : (1 : Int) ≤ (n : Int) := by omega
   by_cases h3 : n ≤ 512
   ·
    have d3 : (n : Int) ≤ 512 := by omega
    have HN := hD (show formT n wl sh k = fb by rw [HF.out]; simp [h1, h2, h3])
    clear h1 h2 h3 HF
    cases fb
    ·
     go_upto_region 99 with (go_at_call 170; refine (HRT.out).mono ?_; rintro e w2 ⟨rfl, hb2⟩)
     first | go_ret | skip
     exact ⟨formT_bool HN.out, HB1.out.trans (hb2.mono HB1.out.size)⟩
    ·
     go_upto_region 99 with (go_at_call 170; refine (HRT.out).mono ?_; rintro e w2 ⟨rfl, hb2⟩)
     first | go_ret | skip
     exact ⟨formT_bool HN.out, HB1.out.trans (hb2.mono HB1.out.size)⟩
   ·
    have d3 : ¬ (n : Int) ≤ 512 := by omega
    have HN := hD (show formT n wl sh k = false by rw [HF.out]; simp [h3])
    clear h1 h2 h3 HF
    go_upto_region 99 with (fail)
    first | go_ret | skip
    exact ⟨formT_bool HN.out, HB1.out⟩
  ·
   have d2 : ¬ (1 : Int) ≤ (n : Int) := by omega
   have HN := hD (show formT n wl sh k = false by rw [HF.out]; simp [h2])
   clear h1 h2 HF
   go_upto_region 99 with (fail)
   first | go_ret | skip
   exact ⟨formT_bool HN.out, HB1.out⟩
 ·
  have d1 : ¬ (k : Int) ≤ 512 := by omega
  have HN := hD (show formT n wl sh k = false by rw [HF.out]; simp [h1])
  clear h1 HF
  go_upto_region 99 with (fail)
  first | go_ret | skip
  exact ⟨formT_bool HN.out, HB1.out⟩
set_option maxHeartbeats 1000000 in
theorem hasBuckets_any (A : Option Addr) (n c : Nat) (Af : Option Addr) (wl cf : Nat) (f : Nat → List Int) (sh : Int) (B : Option Addr) (d : Nat) (ss : List Sym) (w : World)
  (ht : Rws w (fun k => k < w.heap.size) A n c f) (h : Syl w (fun k => k < w.heap.size) B ss.length d ss) (hn : ss.length ≤ 512) (hs : Named ss) (h0 : 0 < n) (h1 : n ≤ 512) (hf : ∀ k, k < n → (f k).length ≤ 4611686018427387904) :
  Calls Tryz.prog 110 #[.agg (tabA A n c Af wl cf sh), .slice B ss.length d] w fun e w' => e = .returned (.bool (rowsB n n f (fillS ss n ss.length))) ∧ Below w.heap.size w w' := by
 have HB1 := hD (show Below w.heap.size w (w.alloc (.cells (tabA A n c Af wl cf sh) 35)) from (Below.refl _ _).alloc (Nat.le_refl _) _)
 have hx1 : Tx (w.alloc (.cells (tabA A n c Af wl cf sh) 35)) w.heap.size (tabA A n c Af wl cf sh) := heap_alloc_new _ _
 have HT := hD (ht.lt HB1.out)
 have HS := hD (h.lt HB1.out)
 clear ht h
 go_enter Tryz.func110, Tryz.ntmps110
 go_upto_region 1 with (fail)
 change Code.wp _ _ _ _ (w.alloc (.cells (tabA A n c Af wl cf sh) 35))
 generalize w.alloc (.cells (tabA A n c Af wl cf sh) 35) = w1 at *
 have t0 := cell_of_row w1 w.heap.size 0 _ _ _ hx1
 simp only [List.getElem?_toArray, List.getElem?_cons_zero] at t0
 clear hx1
 have HFI := hD (fun (X : World) (hX : Below w1.heap.size w1 X) => (fill_any n B ss.length d ss X (HS.out.lt hX) hn hs h0 h1).mono fun e w' (hh : ∃ g s, _) => show ∃ g, e = .returned (.slice (some ⟨g, 0, none⟩) n n) ∧ (Rws w' (fun k => k < w'.heap.size) (some ⟨g, 0, none⟩) n n (fillS ss n ss.length) ∧ Rws w' (fun k => k < w'.heap.size) A n c f) ∧ Below w1.heap.size w1 w' from by
  obtain ⟨g, s, h1, h2, h3⟩ := hh
  exact ⟨g, h1, ⟨h2.rws.weak fun _ hk => hk.2, HT.out.lt (hX.trans (h3.mono hX.size))⟩, hX.trans (h3.mono hX.size)⟩)
 have HLE := hD (fun k => show (fillS ss n ss.length k).length ≤ 4611686018427387904 from by have := fill_len ss n ss.length k; omega)
 generalize hff : fillS ss n ss.length = ff at *
 have HFF := hD hff
 clear hff
 go_region_held3 (fun X => X.cell? ⟨w.heap.size, 0, none⟩ = some (.slice A n c)) (first | assumption | go_keep) (first
  | (go_at_call 172; (with_reducible refine (HFI.out _ (drew_below w1)).mono ?_); rintro e w2 ⟨g, rfl, hr, hb2⟩; have HR := hD hr; have HB2 := hD hb2; have t1 := cell_below hb2 t0; clear hr hb2)
  | (go_at_call 171; (with_reducible refine (equalFunc_any A n c f (some ⟨g, 0, none⟩) n n ff w2 HR.out.2 HR.out.1 (by omega) hf (by omega) (fun k _ => HLE.out k)).mono ?_); rintro e w3 ⟨rfl, hb3⟩; have t2 := cell_below hb3 t1; have HB3 := hD (HB1.out.trans ((HB2.out.trans (hb3.mono HB2.out.size)).mono HB1.out.size)); clear hb3))
 go_wp2_with fail
 first | go_ret | skip
 exact ⟨by rw [HFF.out]; rfl, HB3.out⟩
def rightT (n : Nat) (f : Nat → List Int) (L : List UInt64) (sh : Int) (ss : List Sym) : Bool := formT n L.length sh ss.length && (rowsB n n f (fillS ss n ss.length) && !(hashesS ss).any (Siv.lacksB L sh))
def errT (b : Bool) : Value := .int .i64 (if b then 0 else 80)
theorem rightT_okay {n : Nat} {f : Nat → List Int} {L : List UInt64} {sh : Int} {ss : List Sym} {b : Bool} (h : rightT n f L sh ss = b) {x : Value} (hx : x = errT b) : Ending.returned x = .returned (errT (rightT n f L sh ss)) := by rw [h, hx]
set_option maxHeartbeats 2000000 in
theorem tright_any (A : Option Addr) (n c : Nat) (Af : Option Addr) (cf : Nat) (f : Nat → List Int) (L : List UInt64) (sh : Int) (B : Option Addr) (d : Nat) (ss : List Sym) (w : World)
  (ht : TabV w (fun k => k < w.heap.size) A n c Af cf f L) (h : Syl w (fun k => k < w.heap.size) B ss.length d ss) (hs : Named ss) (hn : n ≤ 9223372036854775807) (hL : L.length ≤ 9223372036854775807) (hss : ss.length ≤ 9223372036854775807) (hf : ∀ k, k < n → (f k).length ≤ 4611686018427387904) :
  Calls Tryz.prog 32 #[.agg (tabA A n c Af L.length cf sh), .slice B ss.length d] w fun e w' => e = .returned (errT (rightT n f L sh ss)) ∧ Below w.heap.size w w' := by
 have HB1 := hD (show Below w.heap.size w (w.alloc (.cells (tabA A n c Af L.length cf sh) 35)) from (Below.refl _ _).alloc (Nat.le_refl _) _)
 have hx1 : Tx (w.alloc (.cells (tabA A n c Af L.length cf sh) 35)) w.heap.size (tabA A n c Af L.length cf sh) := heap_alloc_new _ _
 have HT := hD (ht.lt HB1.out)
 have HS := hD (h.lt HB1.out)
 clear ht h
 go_enter Tryz.func32, Tryz.ntmps32
 go_upto_region 1 with (fail)
 change Code.wp _ _ _ _ (w.alloc (.cells (tabA A n c Af L.length cf sh) 35))
 generalize w.alloc (.cells (tabA A n c Af L.length cf sh) 35) = w1 at *
 have t0 := cell_of_row w1 w.heap.size 0 _ _ _ hx1
 have t1 := cell_of_row w1 w.heap.size 1 _ _ _ hx1
 have t2 := cell_of_row w1 w.heap.size 2 _ _ _ hx1
 simp only [List.getElem?_toArray, List.getElem?_cons_succ, List.getElem?_cons_zero] at t0 t1 t2
 have HX1 := hD hx1
 clear hx1
 have HKT := hD (fun (X : World) (hX : Below w1.heap.size w1 X) => (show Below w.heap.size w X ∧ X.cell? ⟨w.heap.size, 0, none⟩ = some (.slice A n c) ∧ X.cell? ⟨w.heap.size, 1, none⟩ = some (.slice Af L.length cf) ∧ X.cell? ⟨w.heap.size, 2, none⟩ = some (.int .i64 sh) from
  ⟨HB1.out.trans (hX.mono HB1.out.size), cell_below hX t0, cell_below hX t1, cell_below hX t2⟩))
 have HFM := hD (fun (X : World) (hX : Below w1.heap.size w1 X) => (tform_any A n c Af L.length cf sh ss.length X hn hL hss).mono fun e w' hh => show e = .returned (.bool (formT n L.length sh ss.length)) ∧ Below w1.heap.size w1 w' from ⟨hh.1, hX.trans (hh.2.mono hX.size)⟩)
 have HF := hD (show rightT n f L sh ss = (formT n L.length sh ss.length && (rowsB n n f (fillS ss n ss.length) && !(hashesS ss).any (Siv.lacksB L sh))) from rfl)
 by_cases hfm : formT n L.length sh ss.length = true
 ·
  have hb := hfm
  unfold formT at hb
  simp only [Bool.and_eq_true, decide_eq_true_eq] at hb
  obtain ⟨⟨hb1, hb2, hb3⟩, -⟩ := hb
  have HHB := hD (fun (X : World) (hX : Below w1.heap.size w1 X) => (hasBuckets_any A n c Af L.length cf f sh B d ss X (HT.out.lt hX).rows (HS.out.lt hX) hb1 hs hb2 hb3 hf).mono fun e w' hh => show e = .returned (.bool (rowsB n n f (fillS ss n ss.length))) ∧ Below w1.heap.size w1 w' from ⟨hh.1, hX.trans (hh.2.mono hX.size)⟩)
  have HHO := hD (fun (X : World) (hX : Below w1.heap.size w1 X) => (hashesOf_any B ss.length d ss X (HS.out.lt hX) hb1 hs).mono fun e w' (hh : ∃ A' c', _) => show ∃ A' c', e = .returned (.slice A' (hashesS ss).length c') ∧ (Src w' (fun k => k < w'.heap.size) A' (hashesS ss).length c' (Siv.hsh (hashesS ss)) ∧ Src w' (fun k => k < w'.heap.size) Af L.length cf (Siv.wds L)) ∧ Below w1.heap.size w1 w' from by
   obtain ⟨A', c', h1, h2, h3⟩ := hh
   exact ⟨A', c', h1, ⟨(Src.of_own h2).lt, (HT.out.lt (hX.trans (h3.mono hX.size))).words⟩, hX.trans (h3.mono hX.size)⟩)
  have hhl : (hashesS ss).length ≤ 4611686018427387904 := by have := hashes_all ss; omega
  rw [hfm] at HFM HF
  simp only [Bool.true_and] at HF
  clear hfm
  generalize rowsB n n f (fillS ss n ss.length) = rb at *
  cases rb
  ·
   have HN := hD (show rightT n f L sh ss = false by rw [HF.out]; rfl)
   clear HF HHO
   first
    | (go_region_with (first
      | (go_at_call 109; (with_reducible refine (HFM.out _ (drew_below w1)).mono ?_); rintro e w2 ⟨rfl, hb2⟩; obtain ⟨-, p0, p1, p2⟩ := HKT.out _ hb2)
      | (go_at_call 110; (with_reducible refine (HHB.out _ hb2).mono ?_); rintro e w3 ⟨rfl, hb3⟩; obtain ⟨hw3, q0, q1, q2⟩ := HKT.out _ hb3)))
    | fail
   all_goals
    go_wp2_with fail
    first | go_ret | skip
    exact ⟨rightT_okay HN.out rfl, hw3⟩
  ·
   simp only [Bool.true_and] at HF
   have HLA := hD (fun (X : World) (A' : Option Addr) (c' : Nat) (hA : Src X (fun k => k < X.heap.size) A' (hashesS ss).length c' (Siv.hsh (hashesS ss)) ∧ Src X (fun k => k < X.heap.size) Af L.length cf (Siv.wds L)) (hX : Below w1.heap.size w1 X) => (lacksAny_any Af cf L sh A' c' (hashesS ss) X hA.2 hL hA.1 hhl).mono fun e w' hh => show e = .returned (.bool ((hashesS ss).any (Siv.lacksB L sh))) ∧ Below w1.heap.size w1 w' from ⟨hh.1, hX.trans (hh.2.mono hX.size)⟩)
   generalize (hashesS ss).any (Siv.lacksB L sh) = lk at *
   have HN := hD (show rightT n f L sh ss = !lk from HF.out)
   clear HF HX1 hhl
   generalize hashesS ss = hss at *
   have hfin : ∀ W : World, Below w1.heap.size w1 W → Below w.heap.size w W := fun W h => HB1.out.trans (h.mono HB1.out.size)
   have HFIN := hD hfin
   clear hfin
   go_region_held3 (fun X => X.cell? ⟨w.heap.size, 0, none⟩ = some (.slice A n c) ∧ X.cell? ⟨w.heap.size, 1, none⟩ = some (.slice Af L.length cf) ∧ X.cell? ⟨w.heap.size, 2, none⟩ = some (.int .i64 sh)) (first | (exact ⟨by assumption, by assumption, by assumption⟩) | go_keep) (first
    | (go_at_call 109; (with_reducible refine (HFM.out _ (drew_below w1)).mono ?_); rintro e w2 ⟨rfl, hb2⟩; obtain ⟨-, p0, p1, p2⟩ := HKT.out _ hb2)
    | (go_at_call 110; (with_reducible refine (HHB.out _ hb2).mono ?_); rintro e w3 ⟨rfl, hb3⟩; obtain ⟨-, q0, q1, q2⟩ := HKT.out _ hb3)
    | (go_at_call 112; (with_reducible refine (HHO.out _ hb3).mono ?_); rintro e w4 ⟨A', c', rfl, hsr, hb4⟩; obtain ⟨-, r0, r1, r2⟩ := HKT.out _ hb4)
    | (go_at_call 111; (with_reducible refine (HLA.out _ A' c' hsr hb4).mono ?_); rintro e w5 ⟨rfl, hb5⟩; obtain ⟨-, s0, s1, s2⟩ := HKT.out _ hb5))
   have HB5 := hD (HFIN.out _ hb5)
   clear t0 t1 t2 p0 p1 p2 q0 q1 q2 r0 r1 r2 s0 s1 s2 hb2 hb3 hb4 hb5 hsr
   cases lk
   ·
    go_wp2_with fail
    first | go_ret | skip
    exact ⟨rightT_okay HN.out rfl, HB5.out⟩
   ·
    go_wp2_with fail
    first | go_ret | skip
    exact ⟨rightT_okay HN.out rfl, HB5.out⟩
 ·
  have hff : formT n L.length sh ss.length = false := by simpa using hfm
  have HN := hD (show rightT n f L sh ss = false by rw [HF.out, hff]; rfl)
  rw [hff] at HFM
  clear HF hfm hff
  first
   | (go_region_with (first
     | (go_at_call 109; (with_reducible refine (HFM.out _ (Below.refl _ _)).mono ?_); rintro e w2 ⟨rfl, hb2⟩; obtain ⟨hw2, p0, p1, p2⟩ := HKT.out _ hb2)
     | (go_at_call 109; (with_reducible refine (HFM.out _ (drew_below w1)).mono ?_); rintro e w2 ⟨rfl, hb2⟩; obtain ⟨hw2, p0, p1, p2⟩ := HKT.out _ hb2)))
   | fail
  all_goals
   go_wp2_with fail
   first | go_ret | skip
   exact ⟨rightT_okay HN.out rfl, hw2⟩
end Go.Proofs.YtfljignkjmabpaaGreat
