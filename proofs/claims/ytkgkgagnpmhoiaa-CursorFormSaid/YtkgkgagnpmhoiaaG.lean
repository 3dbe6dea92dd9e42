/-
  The law CursorForm: walked.
-/
import Derived.Test.YtkgkgagnpmhoiaaF
import Derived.Test.YtkgkgagnpmhoiaaW
namespace Go.Proofs.Ytkgkgagnpmhoiaa
open Go.RowKit

/-- A reader, and a writer that has put what was read. -/
structure Both (w : World) (P : Nat → Prop) (gr B gw : Nat) (l : List UInt8) (s : St) (w' : World) : Prop where
  below : Below w.heap.size w w'
  rd : ∃ A c, Rd w' P gr s.1 A c s.2
  wr : ∃ A c bs, Wr w' B gw 0 A c bs ∧ l = bs ++ s.2

theorem Rd.step {w w' : World} {P : Nat → Prop} {g gw : Nat} {e : Int} {A : Option Addr} {c : Nat} {rest : List UInt8} {r r' : Option Nat} (h : Rd w P g e A c rest) (hs : Step gw w r w' r') (h1 : g ≠ gw) (h2 : r ≠ some g) (h3 : ∀ k, P k → k ≠ gw ∧ r ≠ some k) : Rd w' P g e A c rest :=
  ⟨(hs.block g h.lt h1 h2).trans h.blk, h.src.keep fun k hk hl => hs.block k hl (h3 k hk).1 (h3 k hk).2, h.ne, h.lim, h.small⟩
theorem Wr.is {w w' : World} {P : Nat → Prop} {B g gr : Nat} {e e' : Int} {A : Option Addr} {c : Nat} {bs rest : List UInt8} (h : Wr w B g e A c bs) (hs : Is w P gr e' rest w') (h1 : g ≠ gr) (h2 : row A ≠ some gr) : Wr w' B g e A c bs := by
  have hsz : w.heap.size ≤ w'.heap.size := by obtain ⟨_, _, _, h⟩ := hs; exact h.size
  exact h.keep hsz (hs.keepBlock g h.lt h1) fun k hk => hs.keepBlock k (h.rowLt k hk).2 (fun e => h2 (by rw [hk, e]))
theorem Is.size {w w' : World} {P : Nat → Prop} {g : Nat} {e : Int} {rest : List UInt8} (h : Is w P g e rest w') : w.heap.size ≤ w'.heap.size := by
  obtain ⟨_, _, _, h⟩ := h
  exact h.size

set_option maxHeartbeats 2000000 in
set_option maxRecDepth 100000 in
theorem form_any (Ab : Option Addr) (nb cb : Nat) (l : List UInt8) (Ap : Option Addr) (n cp : Nat) (ps : List Pc) (w : World) (hb : Src w (fun k => k < w.heap.size) Ab nb cb (cells l)) (h : Pcs w (fun k => k < w.heap.size) Ap n cp ps)
    (hnb : nb ≤ 140737488351232) (hnn : n ≤ 9223372036854775807) :
    Calls Try.prog 10 #[.slice Ab nb cb, .slice Ap n cp] w fun en w' => en = .returned (.bool true) ∧ Below w.heap.size w w' := by
  have hl := h.len
  have hlb : l.length = nb := by have := hb.len; simpa [cells_len] using this
  have HL := Lib.hid hl
  have HLB := Lib.hid hlb
  have HP := Lib.hid h
  have HS := Lib.hid hb
  clear h hl hb hlb
  go_enter Try.func10, Try.ntmps10
  go_wp2_with fail
  refine (awake_any _).mono ?_
  rintro en w0 ⟨rfl, hb0⟩
  have hl0 : w.heap.size ≤ w0.heap.size := hb0.size
  have HB0 := Lib.hid hb0
  have HC1 := Lib.hid (rnew_any _ Ab nb cb l w0 (HS.out.keep fun k hk _ => hb0.block k hk) (by omega))
  clear hb0
  go_wp2_with fail
  refine HC1.out.mono ?_
  rintro en w1 ⟨gr, A1, c1, rfl, hr1, hb1, hg1⟩
  have hl1 : w0.heap.size ≤ w1.heap.size := hb1.size
  have hgl := hr1.lt
  have HB1 := Lib.hid (HB0.out.trans (hb1.mono (by omega)))
  have HR1 := Lib.hid hr1
  clear hr1 hb1
  go_wp2_with fail
  refine (wnew_any _).mono ?_
  rintro en w2 ⟨rfl, hw2, hb2, hz2⟩
  have hl2 : w1.heap.size < w2.heap.size := by omega
  have HB2 := Lib.hid (HB1.out.trans (hb2.mono (by omega)))
  have HR2 := Lib.hid (HR1.out.below hb2)
  have HW2 := Lib.hid hw2
  clear hw2 hb2 hz2
  go_wp2_with fail
  go_loopw [8] (fun i wr => ∃ (k : Nat) (s : St), k ≤ n ∧ i = .int .i64 k ∧ Both w (fun k => w0.heap.size ≤ k ∧ k < gr) gr w2.heap.size w1.heap.size l s wr ∧ w2.heap.size ≤ wr.heap.size) (fun i _ => n - (intOf i).toNat)
  case atStart => exact ⟨0, (0, l), Nat.zero_le _, rfl, ⟨HB2.out, ⟨A1, c1, HR2.out⟩, none, 0, [], HW2.out, rfl⟩, Nat.le_refl _⟩
  case round =>
    obtain ⟨k, s, hk, rfl, hbo, hl3⟩ := hrel
    have HBO := Lib.hid hbo
    clear hbo
    by_cases hlt : k < n
    · have hkl : k < ps.length := by rw [HL.out]; exact hlt
      obtain ⟨ad, rfl⟩ : ∃ ad, Ap = some ad := by
        cases Ap with
        | none => have := (HP.out.nil rfl).1; omega
        | some ad => exact ⟨ad, rfl⟩
      obtain ⟨b, o, An, cn, As, cs, Ab', cb', rfl, hv, k0, k1, k2, k3, k4, k5⟩ := (HP.out.keep fun k hk _ => HBO.out.below.block k hk).cells k hkl
      have hcp := HP.out.cap
      clear hv
      by_cases h0 : ps[k].kind = 0
      · rw [h0] at k0
        clear h0
        obtain ⟨Ar, cr, hrd⟩ := HBO.out.rd
        obtain ⟨Aw, cw, bs, hwr, hlbs⟩ := HBO.out.wr
        have hB := HBO.out.below
        have hrw := hwr.rowLt
        have hbx := (Below.refl wr.heap.size wr).alloc (Nat.le_refl _) (.cells #[.int .i64 0, .int .i64 ps[k].size, .int .i64 ps[k].n, .slice An ps[k].ns.length cn, .slice As ps[k].ss.length cs, .slice Ab' ps[k].b.length cb'] 34)
        have hra := hrd.below hbx
        have hwa := hwr.below hbx
        have hka : (wr.alloc (.cells #[.int .i64 0, .int .i64 ps[k].size, .int .i64 ps[k].n, .slice An ps[k].ns.length cn, .slice As ps[k].ss.length cs, .slice Ab' ps[k].b.length cb'] 34)).heap[wr.heap.size]? = some (.cells #[.int .i64 0, .int .i64 ps[k].size, .int .i64 ps[k].n, .slice An ps[k].ns.length cn, .slice As ps[k].ss.length cs, .slice Ab' ps[k].b.length cb'] 34 (0, 0)) := heap_alloc_new _ _
        have hza : (wr.alloc (.cells #[.int .i64 0, .int .i64 ps[k].size, .int .i64 ps[k].n, .slice An ps[k].ns.length cn, .slice As ps[k].ss.length cs, .slice Ab' ps[k].b.length cb'] 34)).heap.size = wr.heap.size + 1 := by simp
        have HBX := Lib.hid hbx
        have HWA := Lib.hid hwa
        have HKA := Lib.hid hka
        have HZA := Lib.hid hza
        have HRW := Lib.hid hrw
        have HBB := Lib.hid hB
        have HLBS := Lib.hid hlbs
        have C := rnum_any _ gr s Ar cr ps[k].size _ hra
        have HFM := Lib.hid (num_form ps[k].size s bs)
        have HRF := Lib.hid (num_kept ps[k].size s)
        have HI := Lib.hid (rNum_i64 ps[k].size s)
        generalize rNum ps[k].size s = t at *
        obtain ⟨v, e, r⟩ := t
        have HC := Lib.hid C
        clear hrd hwr hlbs hB hrw hbx hra hwa hka hza C
        go_wp2_with fail
        generalize wr.alloc (.cells #[.int .i64 0, .int .i64 ps[k].size, .int .i64 ps[k].n, .slice An ps[k].ns.length cn, .slice As ps[k].ss.length cs, .slice Ab' ps[k].b.length cb'] 34) = wa at *
        refine HC.out.mono ?_
        rintro en w4 ⟨rfl, his⟩
        have hl4 : wa.heap.size ≤ w4.heap.size := his.size
        have hk4 := (his.keepBlock wr.heap.size (by have := HZA.out; omega) (by omega)).trans HKA.out
        have HW4 := Lib.hid (HWA.out.is his (by omega) (by intro e; have := (HRW.out _ e).1; omega))
        have HB4 := Lib.hid ((HBB.out.trans (HBX.out.mono HBB.out.size)).trans (his.to_below (B := w.heap.size) (by omega) (by have := HZA.out; have := HBB.out.size; omega)))
        have hzz := HZA.out
        obtain ⟨A4, c4, hr4, _⟩ := his
        have HF := Lib.hid (rfault_any _ gr _ A4 c4 _ w4 hr4)
        have HR4 := Lib.hid hr4
        have hc1 : w4.cell? ⟨wr.heap.size, 1, none⟩ = some (.int .i64 ps[k].size) := cell_of_row w4 _ 1 _ _ _ hk4
        have HZ := Lib.hid hzz
        clear hr4 hk4 hzz
        by_cases he : e = 0
        · subst he
          obtain ⟨d, hd1, hd2⟩ := HFM.out rfl
          have hdl : bs.length + d.length + r.length = nb := by
            have e1 := HLBS.out
            have e2 := HLB.out
            rw [e1, hd1, List.length_append, List.length_append] at e2
            omega
          have hrwl : ∀ kk, row Aw = some kk → kk < wr.heap.size := fun kk hkk => (HRW.out kk hkk).2
          have C2 := wnum_any w2.heap.size w1.heap.size (0, bs) Aw cw ps[k].size _ 1 1 [v] _ (HW4.out.alloc (.cells #[.int .i64 v] 3)) (by intro x hx; simp at hx; subst hx; exact HI.out)
            ((src_int w4 v).weak fun j hj => (by subst hj; have hzz := HZ.out; exact ⟨by omega, fun ee => by have := hrwl _ ee; omega⟩)) (by simp; omega)
          skip
          rw [hd2] at C2
          have HC2 := Lib.hid C2
          have HD1 := Lib.hid hd1
          clear C2 hd1 hd2 hdl hrwl
          go_wp2_with fail
          refine HF.out.mono ?_
          rintro en w5 ⟨rfl, rfl⟩
          go_wp2_with (go_at_call 30; refine HC2.out.mono ?_; rintro en w6 ⟨rfl, A6, c6, hw6, hs6⟩; have HW6 := Lib.hid hw6; have HS6 := Lib.hid hs6; clear hw6 hs6)
          go_roundw
          case rel =>
            have hzz := HZ.out
            refine ⟨k + 1, (0, r), by omega, by go_num, ⟨HB4.out.trans (((Step.alloc w1.heap.size w4 (row Aw) _).trans HS6.out).to_below (by omega) (by intro kk hkk; have := (HRW.out kk hkk).1; omega) (by have := HBB.out.size; omega)), ⟨A4, c4, HR4.out.step ((Step.alloc w1.heap.size w4 (row Aw) _).trans HS6.out) (by omega) (by intro ee; have := (HRW.out _ ee).1; omega) (fun kk hkk => ⟨by omega, fun ee => by have := (HRW.out _ ee).1; omega⟩)⟩, A6, c6, bs ++ d, HW6.out, ?_⟩, ?_⟩
            · rw [HLBS.out, List.append_assoc]
              show bs ++ s.2 = bs ++ (d ++ r)
              rw [HD1.out]
            · have := ((Step.alloc w1.heap.size w4 (row Aw) _).trans HS6.out).size
              omega
          case measure => simp [intOf]; omega
        · have he' : (e == 0) = false := by simpa using he
          have HRE := Lib.hid (HRF.out he)
          clear he
          go_wp2_with fail
          refine HF.out.mono ?_
          rintro en w5 ⟨rfl, rfl⟩
          go_wp2_with fail
          go_roundw
          case rel => exact ⟨k + 1, (e, r), by omega, by go_num, ⟨HB4.out, ⟨A4, c4, HR4.out⟩, Aw, cw, bs, HW4.out, by rw [HLBS.out]; show bs ++ s.2 = bs ++ r; rw [HRE.out]⟩, by have hzz := HZ.out; omega⟩
          case measure => simp [intOf]; omega

      by_cases h1 : ps[k].kind = 1
      · rw [h1] at k0
        clear h1
        obtain ⟨Ar, cr, hrd⟩ := HBO.out.rd
        obtain ⟨Aw, cw, bs, hwr, hlbs⟩ := HBO.out.wr
        have hB := HBO.out.below
        have hrw := hwr.rowLt
        have hbx := (Below.refl wr.heap.size wr).alloc (Nat.le_refl _) (.cells #[.int .i64 1, .int .i64 ps[k].size, .int .i64 ps[k].n, .slice An ps[k].ns.length cn, .slice As ps[k].ss.length cs, .slice Ab' ps[k].b.length cb'] 34)
        have hra := hrd.below hbx
        have hwa := hwr.below hbx
        have hka : (wr.alloc (.cells #[.int .i64 1, .int .i64 ps[k].size, .int .i64 ps[k].n, .slice An ps[k].ns.length cn, .slice As ps[k].ss.length cs, .slice Ab' ps[k].b.length cb'] 34)).heap[wr.heap.size]? = some (.cells #[.int .i64 1, .int .i64 ps[k].size, .int .i64 ps[k].n, .slice An ps[k].ns.length cn, .slice As ps[k].ss.length cs, .slice Ab' ps[k].b.length cb'] 34 (0, 0)) := heap_alloc_new _ _
        have hza : (wr.alloc (.cells #[.int .i64 1, .int .i64 ps[k].size, .int .i64 ps[k].n, .slice An ps[k].ns.length cn, .slice As ps[k].ss.length cs, .slice Ab' ps[k].b.length cb'] 34)).heap.size = wr.heap.size + 1 := by simp
        have HBX := Lib.hid hbx
        have HWA := Lib.hid hwa
        have HKA := Lib.hid hka
        have HZA := Lib.hid hza
        have HRW := Lib.hid hrw
        have HBB := Lib.hid hB
        have HLBS := Lib.hid hlbs
        have C := rtext_any _ gr s Ar cr _ hra
        have HFM := Lib.hid (meas_form 2 4096 s bs (by decide) (by omega))
        have HRF := Lib.hid (meas_kept 2 4096 s)
        generalize rMeas 2 4096 s = t at *
        obtain ⟨v, e, r⟩ := t
        have HC := Lib.hid C
        clear hrd hwr hlbs hB hrw hbx hra hwa hka hza C
        go_wp2_with fail
        generalize wr.alloc (.cells #[.int .i64 1, .int .i64 ps[k].size, .int .i64 ps[k].n, .slice An ps[k].ns.length cn, .slice As ps[k].ss.length cs, .slice Ab' ps[k].b.length cb'] 34) = wa at *
        refine HC.out.mono ?_
        rintro en w4 ⟨rfl, his⟩
        have hl4 : wa.heap.size ≤ w4.heap.size := his.size
        have hk4 := (his.keepBlock wr.heap.size (by have := HZA.out; omega) (by omega)).trans HKA.out
        have HW4 := Lib.hid (HWA.out.is his (by omega) (by intro e; have := (HRW.out _ e).1; omega))
        have HB4 := Lib.hid ((HBB.out.trans (HBX.out.mono HBB.out.size)).trans (his.to_below (B := w.heap.size) (by omega) (by have := HZA.out; have := HBB.out.size; omega)))
        have hzz := HZA.out
        obtain ⟨A4, c4, hr4, _⟩ := his
        have HF := Lib.hid (rfault_any _ gr _ A4 c4 _ w4 hr4)
        have HR4 := Lib.hid hr4
        have hc1 : w4.cell? ⟨wr.heap.size, 1, none⟩ = some (.int .i64 ps[k].size) := cell_of_row w4 _ 1 _ _ _ hk4
        have HZ := Lib.hid hzz
        clear hr4 hk4 hzz
        by_cases he : e = 0
        · subst he
          obtain ⟨d, hd1, hd2, hd3⟩ := HFM.out rfl
          have hdl : bs.length + d.length + r.length = nb := by
            have e1 := HLBS.out
            have e2 := HLB.out
            rw [e1, hd1, List.length_append, List.length_append] at e2
            omega
          have hrwl : ∀ kk, row Aw = some kk → kk < wr.heap.size := fun kk hkk => (HRW.out kk hkk).2
          have C2 := wtext_any w2.heap.size w1.heap.size (0, bs) Aw cw _ 1 1 [v] _ (HW4.out.alloc (.cells #[.string ⟨v.toArray⟩] 9))
            ((src_str w4 v).weak fun j hj => (by subst hj; have hzz := HZ.out; exact ⟨by omega, fun ee => by have := hrwl _ ee; omega⟩)) (by rw [room_one]; show bs.length + _ ≤ _; have : d.length = 2 + v.length := hd3; omega)
          change Calls _ _ _ _ (Wrote _ _ _ _ (wMeas 2 4096 v (0, bs)).1 (wMeas 2 4096 v (0, bs)).2) at C2
          rw [hd2] at C2
          have HC2 := Lib.hid C2
          have HD1 := Lib.hid hd1
          clear C2 hd1 hd2 hdl hrwl
          go_wp2_with fail
          refine HF.out.mono ?_
          rintro en w5 ⟨rfl, rfl⟩
          go_wp2_with (go_at_call 31; refine HC2.out.mono ?_; rintro en w6 ⟨rfl, A6, c6, hw6, hs6⟩; have HW6 := Lib.hid hw6; have HS6 := Lib.hid hs6; clear hw6 hs6)
          go_roundw
          case rel =>
            have hzz := HZ.out
            refine ⟨k + 1, (0, r), by omega, by go_num, ⟨HB4.out.trans (((Step.alloc w1.heap.size w4 (row Aw) _).trans HS6.out).to_below (by omega) (by intro kk hkk; have := (HRW.out kk hkk).1; omega) (by have := HBB.out.size; omega)), ⟨A4, c4, HR4.out.step ((Step.alloc w1.heap.size w4 (row Aw) _).trans HS6.out) (by omega) (by intro ee; have := (HRW.out _ ee).1; omega) (fun kk hkk => ⟨by omega, fun ee => by have := (HRW.out _ ee).1; omega⟩)⟩, A6, c6, bs ++ d, HW6.out, ?_⟩, ?_⟩
            · rw [HLBS.out, List.append_assoc]
              show bs ++ s.2 = bs ++ (d ++ r)
              rw [HD1.out]
            · have := ((Step.alloc w1.heap.size w4 (row Aw) _).trans HS6.out).size
              omega
          case measure => simp [intOf]; omega
        · have he' : (e == 0) = false := by simpa using he
          have HRE := Lib.hid (HRF.out he)
          clear he
          go_wp2_with fail
          refine HF.out.mono ?_
          rintro en w5 ⟨rfl, rfl⟩
          go_wp2_with fail
          go_roundw
          case rel => exact ⟨k + 1, (e, r), by omega, by go_num, ⟨HB4.out, ⟨A4, c4, HR4.out⟩, Aw, cw, bs, HW4.out, by rw [HLBS.out]; show bs ++ s.2 = bs ++ r; rw [HRE.out]⟩, by have hzz := HZ.out; omega⟩
          case measure => simp [intOf]; omega

      by_cases h2 : ps[k].kind = 2
      · rw [h2] at k0
        clear h2
        obtain ⟨Ar, cr, hrd⟩ := HBO.out.rd
        obtain ⟨Aw, cw, bs, hwr, hlbs⟩ := HBO.out.wr
        have hB := HBO.out.below
        have hrw := hwr.rowLt
        have hbx := (Below.refl wr.heap.size wr).alloc (Nat.le_refl _) (.cells #[.int .i64 2, .int .i64 ps[k].size, .int .i64 ps[k].n, .slice An ps[k].ns.length cn, .slice As ps[k].ss.length cs, .slice Ab' ps[k].b.length cb'] 34)
        have hra := hrd.below hbx
        have hwa := hwr.below hbx
        have hka : (wr.alloc (.cells #[.int .i64 2, .int .i64 ps[k].size, .int .i64 ps[k].n, .slice An ps[k].ns.length cn, .slice As ps[k].ss.length cs, .slice Ab' ps[k].b.length cb'] 34)).heap[wr.heap.size]? = some (.cells #[.int .i64 2, .int .i64 ps[k].size, .int .i64 ps[k].n, .slice An ps[k].ns.length cn, .slice As ps[k].ss.length cs, .slice Ab' ps[k].b.length cb'] 34 (0, 0)) := heap_alloc_new _ _
        have hza : (wr.alloc (.cells #[.int .i64 2, .int .i64 ps[k].size, .int .i64 ps[k].n, .slice An ps[k].ns.length cn, .slice As ps[k].ss.length cs, .slice Ab' ps[k].b.length cb'] 34)).heap.size = wr.heap.size + 1 := by simp
        have HBX := Lib.hid hbx
        have HWA := Lib.hid hwa
        have HKA := Lib.hid hka
        have HZA := Lib.hid hza
        have HRW := Lib.hid hrw
        have HBB := Lib.hid hB
        have HLBS := Lib.hid hlbs
        have C := rblock_any _ gr s Ar cr _ hra
        have HFM := Lib.hid (meas_form 4 1048576 s bs (by decide) (by omega))
        have HRF := Lib.hid (meas_kept 4 1048576 s)
        generalize rMeas 4 1048576 s = t at *
        obtain ⟨v, e, r⟩ := t
        have HC := Lib.hid C
        clear hrd hwr hlbs hB hrw hbx hra hwa hka hza C
        go_wp2_with fail
        generalize wr.alloc (.cells #[.int .i64 2, .int .i64 ps[k].size, .int .i64 ps[k].n, .slice An ps[k].ns.length cn, .slice As ps[k].ss.length cs, .slice Ab' ps[k].b.length cb'] 34) = wa at *
        refine HC.out.mono ?_
        rintro en w4 ⟨A5, c5, rfl, hown, his⟩
        have HO := Lib.hid hown
        clear hown
        have hl4 : wa.heap.size ≤ w4.heap.size := his.size
        have hk4 := (his.keepBlock wr.heap.size (by have := HZA.out; omega) (by omega)).trans HKA.out
        have HW4 := Lib.hid (HWA.out.is his (by omega) (by intro e; have := (HRW.out _ e).1; omega))
        have HB4 := Lib.hid ((HBB.out.trans (HBX.out.mono HBB.out.size)).trans (his.to_below (B := w.heap.size) (by omega) (by have := HZA.out; have := HBB.out.size; omega)))
        have hzz := HZA.out
        obtain ⟨A4, c4, hr4, _⟩ := his
        have HF := Lib.hid (rfault_any _ gr _ A4 c4 _ w4 hr4)
        have HR4 := Lib.hid hr4
        have hc1 : w4.cell? ⟨wr.heap.size, 1, none⟩ = some (.int .i64 ps[k].size) := cell_of_row w4 _ 1 _ _ _ hk4
        have HZ := Lib.hid hzz
        clear hr4 hk4 hzz
        by_cases he : e = 0
        · subst he
          obtain ⟨d, hd1, hd2, hd3⟩ := HFM.out rfl
          have hdl : bs.length + d.length + r.length = nb := by
            have e1 := HLBS.out
            have e2 := HLB.out
            rw [e1, hd1, List.length_append, List.length_append] at e2
            omega
          have hrwl : ∀ kk, row Aw = some kk → kk < wr.heap.size := fun kk hkk => (HRW.out kk hkk).2
          have C2 := wblock_any w2.heap.size w1.heap.size (0, bs) Aw cw A5 v.length c5 v w4 HW4.out
            ((Src.of_own HO.out).weak fun j hj => (by have hzz := HZ.out; exact ⟨by omega, fun ee => by have := hrwl _ ee; omega⟩)) (by show bs.length + 8 + v.length ≤ _; have : d.length = 4 + v.length := hd3; omega)
          skip
          rw [hd2] at C2
          have HC2 := Lib.hid C2
          have HD1 := Lib.hid hd1
          clear C2 hd1 hd2 hdl hrwl
          go_wp2_with fail
          refine HF.out.mono ?_
          rintro en w5 ⟨rfl, rfl⟩
          go_wp2_with (go_at_call 33; refine HC2.out.mono ?_; rintro en w6 ⟨rfl, A6, c6, hw6, hs6⟩; have HW6 := Lib.hid hw6; have HS6 := Lib.hid hs6; clear hw6 hs6)
          go_roundw
          case rel =>
            have hzz := HZ.out
            refine ⟨k + 1, (0, r), by omega, by go_num, ⟨HB4.out.trans (HS6.out.to_below (by omega) (by intro kk hkk; have := (HRW.out kk hkk).1; omega) (by have := HBB.out.size; omega)), ⟨A4, c4, HR4.out.step (HS6.out) (by omega) (by intro ee; have := (HRW.out _ ee).1; omega) (fun kk hkk => ⟨by omega, fun ee => by have := (HRW.out _ ee).1; omega⟩)⟩, A6, c6, bs ++ d, HW6.out, ?_⟩, ?_⟩
            · rw [HLBS.out, List.append_assoc]
              show bs ++ s.2 = bs ++ (d ++ r)
              rw [HD1.out]
            · have := (HS6.out).size
              omega
          case measure => simp [intOf]; omega
        · have he' : (e == 0) = false := by simpa using he
          have HRE := Lib.hid (HRF.out he)
          clear he
          go_wp2_with fail
          refine HF.out.mono ?_
          rintro en w5 ⟨rfl, rfl⟩
          go_wp2_with fail
          go_roundw
          case rel => exact ⟨k + 1, (e, r), by omega, by go_num, ⟨HB4.out, ⟨A4, c4, HR4.out⟩, Aw, cw, bs, HW4.out, by rw [HLBS.out]; show bs ++ s.2 = bs ++ r; rw [HRE.out]⟩, by have hzz := HZ.out; omega⟩
          case measure => simp [intOf]; omega

      by_cases h3 : ps[k].kind = 3
      · rw [h3] at k0
        clear h3
        obtain ⟨Ar, cr, hrd⟩ := HBO.out.rd
        obtain ⟨Aw, cw, bs, hwr, hlbs⟩ := HBO.out.wr
        have hB := HBO.out.below
        have hrw := hwr.rowLt
        have hbx := (Below.refl wr.heap.size wr).alloc (Nat.le_refl _) (.cells #[.int .i64 3, .int .i64 ps[k].size, .int .i64 ps[k].n, .slice An ps[k].ns.length cn, .slice As ps[k].ss.length cs, .slice Ab' ps[k].b.length cb'] 34)
        have hra := hrd.below hbx
        have hwa := hwr.below hbx
        have hka : (wr.alloc (.cells #[.int .i64 3, .int .i64 ps[k].size, .int .i64 ps[k].n, .slice An ps[k].ns.length cn, .slice As ps[k].ss.length cs, .slice Ab' ps[k].b.length cb'] 34)).heap[wr.heap.size]? = some (.cells #[.int .i64 3, .int .i64 ps[k].size, .int .i64 ps[k].n, .slice An ps[k].ns.length cn, .slice As ps[k].ss.length cs, .slice Ab' ps[k].b.length cb'] 34 (0, 0)) := heap_alloc_new _ _
        have hza : (wr.alloc (.cells #[.int .i64 3, .int .i64 ps[k].size, .int .i64 ps[k].n, .slice An ps[k].ns.length cn, .slice As ps[k].ss.length cs, .slice Ab' ps[k].b.length cb'] 34)).heap.size = wr.heap.size + 1 := by simp
        have HBX := Lib.hid hbx
        have HWA := Lib.hid hwa
        have HKA := Lib.hid hka
        have HZA := Lib.hid hza
        have HRW := Lib.hid hrw
        have HBB := Lib.hid hB
        have HLBS := Lib.hid hlbs
        have C := rraw_any _ gr s Ar cr ps[k].n _ hra
        have HFM : Hid ((rRaw ps[k].n s).2.1 = 0 → ∃ d, s.2 = d ++ (rRaw ps[k].n s).2.2 ∧ ((0 : Int), putIf 0 bs (rRaw ps[k].n s).1) = (0, bs ++ d) ∧ d = (rRaw ps[k].n s).1) := fun h => ⟨_, raw_form ps[k].n s h, by simp [putIf], rfl⟩
        have HRF := Lib.hid (raw_kept ps[k].n s)
        generalize rRaw ps[k].n s = t at *
        obtain ⟨v, e, r⟩ := t
        have HC := Lib.hid C
        clear hrd hwr hlbs hB hrw hbx hra hwa hka hza C
        go_wp2_with fail
        generalize wr.alloc (.cells #[.int .i64 3, .int .i64 ps[k].size, .int .i64 ps[k].n, .slice An ps[k].ns.length cn, .slice As ps[k].ss.length cs, .slice Ab' ps[k].b.length cb'] 34) = wa at *
        refine HC.out.mono ?_
        rintro en w4 ⟨A5, c5, rfl, hown, his⟩
        have HO := Lib.hid hown
        clear hown
        have hl4 : wa.heap.size ≤ w4.heap.size := his.size
        have hk4 := (his.keepBlock wr.heap.size (by have := HZA.out; omega) (by omega)).trans HKA.out
        have HW4 := Lib.hid (HWA.out.is his (by omega) (by intro e; have := (HRW.out _ e).1; omega))
        have HB4 := Lib.hid ((HBB.out.trans (HBX.out.mono HBB.out.size)).trans (his.to_below (B := w.heap.size) (by omega) (by have := HZA.out; have := HBB.out.size; omega)))
        have hzz := HZA.out
        obtain ⟨A4, c4, hr4, _⟩ := his
        have HF := Lib.hid (rfault_any _ gr _ A4 c4 _ w4 hr4)
        have HR4 := Lib.hid hr4
        have hc1 : w4.cell? ⟨wr.heap.size, 1, none⟩ = some (.int .i64 ps[k].size) := cell_of_row w4 _ 1 _ _ _ hk4
        have HZ := Lib.hid hzz
        clear hr4 hk4 hzz
        by_cases he : e = 0
        · subst he
          obtain ⟨d, hd1, hd2, hd3⟩ := HFM.out rfl
          have hdl : bs.length + d.length + r.length = nb := by
            have e1 := HLBS.out
            have e2 := HLB.out
            rw [e1, hd1, List.length_append, List.length_append] at e2
            omega
          have hrwl : ∀ kk, row Aw = some kk → kk < wr.heap.size := fun kk hkk => (HRW.out kk hkk).2
          have C2 := raw_any w2.heap.size w1.heap.size 0 Aw cw bs _ A5 v.length c5 v w4 HW4.out
            (Src.of_own HO.out) (by have : d = v := hd3; subst this; omega)
          have hd4 : putIf 0 bs v = bs ++ d := congrArg Prod.snd hd2; rw [hd4] at C2; have hd2 : True := trivial
          have HC2 := Lib.hid C2
          have HD1 := Lib.hid hd1
          clear C2 hd1 hd2 hdl hrwl
          go_wp2_with fail
          refine HF.out.mono ?_
          rintro en w5 ⟨rfl, rfl⟩
          go_wp2_with (go_at_call 34; refine HC2.out.mono ?_; rintro en w6 ⟨rfl, A6, c6, hw6, hs6⟩; have HW6 := Lib.hid hw6; have HS6 := Lib.hid hs6; clear hw6 hs6)
          go_roundw
          case rel =>
            have hzz := HZ.out
            refine ⟨k + 1, (0, r), by omega, by go_num, ⟨HB4.out.trans (HS6.out.to_below (by omega) (by intro kk hkk; have := (HRW.out kk hkk).1; omega) (by have := HBB.out.size; omega)), ⟨A4, c4, HR4.out.step (HS6.out) (by omega) (by intro ee; have := (HRW.out _ ee).1; omega) (fun kk hkk => ⟨by omega, fun ee => by have := (HRW.out _ ee).1; omega⟩)⟩, A6, c6, bs ++ d, HW6.out, ?_⟩, ?_⟩
            · rw [HLBS.out, List.append_assoc]
              show bs ++ s.2 = bs ++ (d ++ r)
              rw [HD1.out]
            · have := (HS6.out).size
              omega
          case measure => simp [intOf]; omega
        · have he' : (e == 0) = false := by simpa using he
          have HRE := Lib.hid (HRF.out he)
          clear he
          go_wp2_with fail
          refine HF.out.mono ?_
          rintro en w5 ⟨rfl, rfl⟩
          go_wp2_with fail
          go_roundw
          case rel => exact ⟨k + 1, (e, r), by omega, by go_num, ⟨HB4.out, ⟨A4, c4, HR4.out⟩, Aw, cw, bs, HW4.out, by rw [HLBS.out]; show bs ++ s.2 = bs ++ r; rw [HRE.out]⟩, by have hzz := HZ.out; omega⟩
          case measure => simp [intOf]; omega

      have b0 : (ps[k].kind == 0) = false := by simpa using h0
      have b1 : (ps[k].kind == 1) = false := by simpa using h1
      have b2 : (ps[k].kind == 2) = false := by simpa using h2
      have b3 : (ps[k].kind == 3) = false := by simpa using h3
      clear h0 h1 h2 h3
      go_wp2_with fail
      obtain ⟨Ar, cr, hrd⟩ := HBO.out.rd
      obtain ⟨Aw, cw, bs, hwr, hlbs⟩ := HBO.out.wr
      have hB := HBO.out.below
      have hbx := (Below.refl wr.heap.size wr).alloc (Nat.le_refl _) (.cells #[.int .i64 ps[k].kind, .int .i64 ps[k].size, .int .i64 ps[k].n, .slice An ps[k].ns.length cn, .slice As ps[k].ss.length cs, .slice Ab' ps[k].b.length cb'] 34)
      exact ⟨⟨k + 1, s, by omega, by go_num, ⟨hB.trans (hbx.mono hB.size), ⟨Ar, cr, hrd.below hbx⟩, Aw, cw, bs, hwr.below hbx, hlbs⟩, Nat.le_trans hl3 hbx.size⟩, by simp [intOf]; omega⟩
    · obtain rfl : k = n := by omega
      obtain ⟨Ar, cr, hrd⟩ := HBO.out.rd
      obtain ⟨Aw, cw, bs, hwr, hlbs⟩ := HBO.out.wr
      have hB := Lib.hid HBO.out.below
      obtain ⟨e, r⟩ := s
      have hlbs' : l = bs ++ r := hlbs
      have hbl : bs.length + r.length = nb := by
        have e2 := HLB.out
        rw [hlbs', List.length_append] at e2
        exact e2
      have HC3 := Lib.hid (bytes_ok _ _ _ _ _ wr hwr (by omega))
      have HR3 := Lib.hid hrd
      have hr1 : r.length ≤ nb := by omega
      have htk : l.take (nb - r.length) = bs := by rw [hlbs']; exact List.take_left' (by omega)
      have HTK := Lib.hid htk
      have hcb := HS.out.cap
      have HBL := Lib.hid hbl
      clear hrd hwr hlbs hlbs' htk hbl
      obtain ⟨wz, rfl⟩ : ∃ wz : World, wz = wr := ⟨_, rfl⟩
      go_wp2_with fail
      refine HC3.out.mono ?_
      rintro en w4 ⟨A4, c4, rfl, hown, hb4⟩
      have hB4 := Lib.hid (hB.out.trans (hb4.mono hB.out.size))
      have HO := Lib.hid hown
      have HL4 := Lib.hid (rleft_any _ gr _ Ar cr _ w4 (HR3.out.below hb4))
      clear hown hb4
      go_wp2_with fail
      refine HL4.out.mono ?_
      rintro en w5 ⟨rfl, rfl⟩
      have hcv1 : ∀ nq, Sem.run Try.prog (convert 27 9 (.slice A4 bs.length c4)) (w4.drewN nq) = .ok (.string ⟨bs.toArray⟩) (w4.drewN nq) := fun nq => conv_string (w := w4.drewN nq) ((Src.of_own HO.out).keep fun _ _ _ => rfl)
      have hfr := (HS.out.keep (w' := w4) fun k hk _ => hB4.out.block k hk).front (nb - r.length) (by omega)
      rw [HTK.out] at hfr
      have hbl2 : bs.length = nb - r.length := by have := HBL.out; omega
      rw [hbl2] at hfr
      have hcv2 : ∀ nq, Sem.run Try.prog (convert 27 9 (.slice Ab (nb - r.length) cb)) (w4.drewN nq) = .ok (.string ⟨bs.toArray⟩) (w4.drewN nq) := fun nq => conv_string (w := w4.drewN nq) (hfr.keep fun _ _ _ => rfl)
      have hcv3 : Sem.run Try.prog (convert 27 9 (.slice A4 bs.length c4)) w4.drew = .ok (.string ⟨bs.toArray⟩) w4.drew := hcv1 1
      have hcv4 : Sem.run Try.prog (convert 27 9 (.slice Ab (nb - r.length) cb)) w4.drew = .ok (.string ⟨bs.toArray⟩) w4.drew := hcv2 1
      have hcb2 : nb ≤ 9223372036854775807 := by omega
      have q1 : ((nb : Int) - (r.length : Int)) ≤ cb := by omega
      have q2 : 0 ≤ ((nb : Int) - (r.length : Int)) := by omega
      clear hfr hbl2
      go_wp2_with fail
      go_quiet (fail)
      go_wp2_with fail
      go_ret
      exact ⟨rfl, hB4.out.os, hB4.out.tape, hB4.out.output, hB4.out.size, hB4.out.block⟩
end Go.Proofs.Ytkgkgagnpmhoiaa
