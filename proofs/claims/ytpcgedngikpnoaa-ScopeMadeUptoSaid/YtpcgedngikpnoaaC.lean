/-
  The program's Look and Linear: first, whatever function it is handed; the two closures.
-/
import Derived.Test.YtpcgedngikpnoaaB
namespace Go.Proofs.Ytpcgedngikpnoaa
set_option maxRecDepth 100000
set_option linter.unusedSimpArgs false
set_option linter.unusedVariables false
open Go.RowKit

theorem Ims.cells {w : World} {P : Nat → Prop} {b o : Nat} {n c : Nat} {q : Nat → Pl} {xs : List Im} (h : Els w P (some ⟨b, o, none⟩) n c 15 (fun k => imA (q k) (xs.getD k noIm))) (k : Nat) (hk : k < n) :
    w.cell? ⟨b, o + k * 15, none⟩ = some (str (xs.getD k noIm).name) ∧ w.cell? ⟨b, o + k * 15 + 1, none⟩ = some (.int .i64 (xs.getD k noIm).flags) ∧ w.cell? ⟨b, o + k * 15 + 2, none⟩ = some (.slice (q k).sg.1 (xs.getD k noIm).segs.length (q k).sg.2) ∧ w.cell? ⟨b, o + k * 15 + 3, none⟩ = some (.slice (q k).nd.1 (xs.getD k noIm).needed.length (q k).nd.2) ∧
    w.cell? ⟨b, o + k * 15 + 4, none⟩ = some (.slice (q k).rp.1 (xs.getD k noIm).run.length (q k).rp.2) ∧ w.cell? ⟨b, o + k * 15 + 5, none⟩ = some (.slice (q k).sy.1 (xs.getD k noIm).syms.length (q k).sy.2) ∧ w.cell? ⟨b, o + k * 15 + 6, none⟩ = some (.slice (q k).bk.1 (xs.getD k noIm).rows.length (q k).bk.2) ∧ w.cell? ⟨b, o + k * 15 + 7, none⟩ = some (.slice (q k).fw.1 (xs.getD k noIm).words.length (q k).fw.2) ∧
    w.cell? ⟨b, o + k * 15 + 8, none⟩ = some (.int .i64 (xs.getD k noIm).shift) ∧ w.cell? ⟨b, o + k * 15 + 9, none⟩ = some (.slice (q k).rl.1 (xs.getD k noIm).relocs.length (q k).rl.2) ∧ w.cell? ⟨b, o + k * 15 + 10, none⟩ = some (.slice (q k).sl.1 (xs.getD k noIm).slots.length (q k).sl.2) ∧ w.cell? ⟨b, o + k * 15 + 11, none⟩ = some (.slice (q k).ini.1 (xs.getD k noIm).init.length (q k).ini.2) ∧
    w.cell? ⟨b, o + k * 15 + 12, none⟩ = some (.slice (q k).fin.1 (xs.getD k noIm).fini.length (q k).fin.2) ∧ w.cell? ⟨b, o + k * 15 + 13, none⟩ = some (.slice (q k).tl.1 (xs.getD k noIm).tls.length (q k).tl.2) ∧ w.cell? ⟨b, o + k * 15 + 14, none⟩ = some (.int .i64 (xs.getD k noIm).tlsSize) :=
  ⟨by simpa only [Nat.add_zero] using h.get k hk 0 (str (xs.getD k noIm).name) rfl, h.get k hk 1 _ rfl, h.get k hk 2 _ rfl, h.get k hk 3 _ rfl, h.get k hk 4 _ rfl, h.get k hk 5 _ rfl, h.get k hk 6 _ rfl, h.get k hk 7 _ rfl, h.get k hk 8 _ rfl, h.get k hk 9 _ rfl, h.get k hk 10 _ rfl, h.get k hk 11 _ rfl, h.get k hk 12 _ rfl, h.get k hk 13 _ rfl, h.get k hk 14 _ rfl⟩
theorem Bx.over {w w' : World} {B g : Nat} {cs : Array Value} {t : TypeId} (h : Bx w g cs t) (hk : ∀ b, B ≤ b → b < w.heap.size → w'.heap[b]? = w.heap[b]?) (hB : B ≤ g) : Bx w' g cs t := (hk g hB h.lt).trans h
abbrev fd3 (w : World) (g : Nat) (t : Fd) : World := ((w.setCell ⟨g, 0, none⟩ (.int .i64 t.1)).setCell ⟨g, 1, none⟩ (.int .i64 t.2.1)).setCell ⟨g, 2, none⟩ (.bool t.2.2)
theorem fd_set {w : World} {g : Nat} {s : Fd} {T : TypeId} (h : Bx w g (fdA s) T) (t : Fd) : Bx (fd3 w g t) g (fdA t) T ∧ Below g w (fd3 w g t) := by
  refine ⟨?_, rfl, rfl, rfl, ?_, fun k hk => ?_⟩
  · exact heap_setCell_same _ g 2 _ _ _ (heap_setCell_same _ g 1 _ _ _ (heap_setCell_same _ g 0 _ _ _ h))
  · simp [World.setCell]
  · exact (heap_setCell_other _ ⟨g, 2, none⟩ k _ (by show k ≠ g; omega)).trans ((heap_setCell_other _ ⟨g, 1, none⟩ k _ (by show k ≠ g; omega)).trans (heap_setCell_other _ ⟨g, 0, none⟩ k _ (by show k ≠ g; omega)))
theorem fd_rest (w : World) (g : Nat) (t : Fd) : But g w (fd3 w g t) ∧ (fd3 w g t).heap.size = w.heap.size :=
  ⟨⟨rfl, rfl, rfl, by simp [World.setCell], fun k hk _ => (heap_setCell_other _ ⟨g, 2, none⟩ k _ hk).trans ((heap_setCell_other _ ⟨g, 1, none⟩ k _ hk).trans (heap_setCell_other _ ⟨g, 0, none⟩ k _ hk))⟩, by simp [World.setCell]⟩
set_option maxRecDepth 100000 in
set_option maxHeartbeats 4000000 in
/-- The first image for which the function tells a symbol. -/
theorem first_any (I : Nat → World → Prop) (f : Im → Int) (skip : Int) (A : Option Addr) (n c : Nat) (xs : List Im) (q : Nat → Pl) (fn : Nat) (fr : Array Value) (w0 w : World)
    (h : Els w0 (fun k => k < w0.heap.size) A n c 15 (fun k => imA (q k) (xs.getD k noIm))) (hlen : xs.length = n) (hn : n ≤ 4611686018427387904) (hE : ∀ (args : Array Value) (X : World), (callFunc fn args).run Try.prog X = .ok (.enter fn args) X)
    (h0 : I 0 w) (hs : ∀ k X X', I k X → Below w.heap.size X X' → I k X') (hb : ∀ k X, I k X → Below w0.heap.size w0 X) (hk : ∀ k X, k < n → (k : Int) = skip → I k X → I (k + 1) X)
    (HF : ∀ k X, k < n → ¬ (k : Int) = skip → I k X → w.heap.size ≤ X.heap.size → Calls Try.prog fn (#[.int .i64 (k : Int), imV (q k) (xs.getD k noIm)] ++ fr) X fun e w' => e = .returned (.int .i64 (f (xs.getD k noIm))) ∧ I (k + 1) w' ∧ X.heap.size ≤ w'.heap.size ∧ ∀ b, w.heap.size ≤ b → b < X.heap.size → w'.heap[b]? = X.heap[b]?) :
    Calls Try.prog 31 #[.int .i64 skip, .func (.func fn) #[] fr, .slice A n c] w fun e w' => e = .returned (fdV (lookP f skip 0 xs)) ∧ I (goneP f skip 0 xs) w' ∧ w.heap.size ≤ w'.heap.size := by
  obtain rfl := hlen
  have H := Lib.hid h
  have HS := Lib.hid hs
  have HBB := Lib.hid hb
  have HK := Lib.hid hk
  have HFF := Lib.hid HF
  have hcap := h.cap
  have hb1 : Below w.heap.size w (w.alloc (.cells (fdA (0, 0, false)) 29)) := (Below.refl _ _).alloc (Nat.le_refl _) _
  have HI1 := Lib.hid (hs 0 w _ h0 hb1)
  have HX1 := Lib.hid (Bx.new w (fdA (0, 0, false)) 29)
  obtain ⟨R, hR⟩ : ∃ R, R = lookP f skip 0 xs := ⟨_, rfl⟩
  obtain ⟨G, hG⟩ : ∃ G, G = goneP f skip 0 xs := ⟨_, rfl⟩
  rw [← hR, ← hG]
  have HR := Lib.hid hR
  have HG := Lib.hid hG
  clear h hs hb hk HF h0 hb1 hR hG
  go_enter Try.func31, Try.ntmps31
  go_upto_region 2 with (fail)
  change Code.wp _ _ _ _ (w.alloc (.cells (fdA (0, 0, false)) 29))
  generalize w.alloc (.cells (fdA (0, 0, false)) 29) = w1 at *
  have HZ := Lib.hid (show w.heap.size < w1.heap.size from HX1.out.lt)
  generalize hgw : w.heap.size = g at *
  have HGW := Lib.hid hgw
  clear hgw
  go_loopw [12] (fun t wr => ∃ k : Nat, k ≤ xs.length ∧ t = .int .i64 (k : Int) ∧ I k wr ∧ Bx wr g (fdA (0, 0, false)) 29 ∧ R = lookP f skip k (xs.drop k) ∧ G = goneP f skip k (xs.drop k)) (fun t _ => xs.length - (intOf t).toNat)
  case atStart => exact ⟨0, Nat.zero_le _, rfl, HI1.out, HX1.out, HR.out, HG.out⟩
  case round =>
    obtain ⟨k, hk, rfl, hi, hx, hr, hg⟩ := hrel
    have HI := Lib.hid hi
    have HX := Lib.hid hx
    have HRR := Lib.hid hr
    have HGG := Lib.hid hg
    clear hi hx hr hg
    by_cases hlt : k < xs.length
    · obtain ⟨ad, rfl⟩ : ∃ ad, A = some ad := by
        cases A with
        | none => have := (H.out.nil rfl).1; omega
        | some ad => exact ⟨ad, rfl⟩
      obtain ⟨b, o, rfl⟩ := H.out.plain (by omega) rfl
      obtain ⟨c0, c1, c2, c3, c4, c5, c6, c7, c8, c9, c10, c11, c12, c13, c14⟩ := Ims.cells (H.out.lt (HBB.out _ _ HI.out)) k hlt
      have HON := Lib.hid (fun h => look_on (f := f) (skip := skip) hlt h)
      have HAT := Lib.hid (fun h h2 => look_at (f := f) (skip := skip) hlt h h2)
      have HKK := Lib.hid (fun (X : World) h hI => HK.out k X hlt h hI)
      have HFK := Lib.hid (fun (X : World) h hI hz => HFF.out k X hlt h hI hz)
      generalize hxk : xs.getD k noIm = x at *
      generalize q k = p at *
      have hk0 : (0 : Int) ≤ (k : Int) := by omega
      have hk1 : (k : Int) < (xs.length : Int) := by omega
      go_upto_region 4 with (fail)
      have hbx := ibox_below wr p x
      have HY3 := Lib.hid (Ix.new wr p x)
      have HI3 := Lib.hid (HS.out _ _ _ HI.out (hbx.mono (by have := HX.out.lt; omega)))
      have HX3 := Lib.hid (HX.out.below hbx)
      have HL3 := Lib.hid (show g ≤ wr.heap.size from Nat.le_of_lt HX.out.lt)
      clear hbx c0 c1 c2 c3 c4 c5 c6 c7 c8 c9 c10 c11 c12 c13 c14
      change Code.wp _ _ _ _ (wr.alloc (.cells (imA p x) 62))
      generalize wr.alloc (.cells (imA p x) 62) = w3 at *
      generalize wr.heap.size = gi at *
      by_cases hsk : (k : Int) = skip
      · have d0 : ((k : Int) == skip) = true := by simp [hsk]
        have HI4 := Lib.hid (HKK.out _ hsk HI3.out)
        have HN := Lib.hid (HON.out (.inl hsk))
        clear hsk
        go_wp2
        go_roundw
        case rel => exact ⟨k + 1, by omega, by go_num, HI4.out, HX3.out, HRR.out.trans HN.out.1, HGG.out.trans HN.out.2⟩
        case measure => simp [intOf]; omega
      · have d0 : ((k : Int) == skip) = false := by simp [hsk]
        have HC := Lib.hid (HFK.out w3 hsk HI3.out (by have := HX3.out.lt; omega))
        have HHT := Lib.hid (fun h2 => HAT.out hsk h2)
        clear hsk
        obtain ⟨c0, c1, c2, c3, c4, c5, c6, c7, c8, c9, c10, c11, c12, c13, c14⟩ := HY3.out.cells
        go_upto_region 6 with (with_reducible refine (HC.out).mono ?_; rintro e w4 ⟨rfl, hi4, hz4, hk4⟩; have HI4 := Lib.hid hi4; have HX4 := Lib.hid (HX3.out.over hk4 (Nat.le_refl _)); clear hi4 hz4 hk4)
        clear c0 c1 c2 c3 c4 c5 c6 c7 c8 c9 c10 c11 c12 c13 c14
        by_cases hf : f x = -1
        · have d1 : (f x == -1) = true := by simp [hf]
          have HN := Lib.hid (HON.out (.inr hf))
          generalize f x = y at *
          subst hf
          go_wp2
          go_roundw
          case rel => exact ⟨k + 1, by omega, by go_num, HI4.out, HX4.out, HRR.out.trans HN.out.1, HGG.out.trans HN.out.2⟩
          case measure => simp [intOf]; omega
        · have d1 : (f x == -1) = false := by simp [hf]
          have HN := Lib.hid (HHT.out hf)
          clear HC
          generalize f x = y at *
          have x0 := HX4.out.c 0
          have x1 := HX4.out.c 1
          have x2 := HX4.out.c 2
          have f0 := HX4.out.f 0
          have f1 := HX4.out.f 1
          have f2 := HX4.out.f 2
          go_wp2
          obtain ⟨q0, q1⟩ := fd_set HX4.out ((k : Int), y, true)
          have HI5 := Lib.hid (HS.out _ _ _ HI4.out q1)
          have HZ5 := Lib.hid q1.size
          have HLG := Lib.hid HX4.out.lt
          clear q1 x0 x1 x2 f0 f1 f2
          change bodyPost _ _ _ _ _ (fd3 w4 g ((k : Int), y, true))
          generalize fd3 w4 g ((k : Int), y, true) = w5 at *
          have x0 := q0.c 0
          have x1 := q0.c 1
          have x2 := q0.c 2
          refine bodyPost_ret (v := fdV ((k : Int), y, true)) (by simp [results, Try.results31, go_sem, x0, x1, x2]) rfl ⟨by rw [HRR.out, HN.out.1], ?_, ?_⟩
          · rw [HGG.out, HN.out.2]; exact HI5.out
          · have := HZ5.out; have := HLG.out; have := HGW.out; omega
    · obtain rfl : k = xs.length := by omega
      have HN := Lib.hid (look_end (f := f) (skip := skip) (xs := xs))
      have x0 := HX.out.c 0
      have x1 := HX.out.c 1
      have x2 := HX.out.c 2
      have f0 := HX.out.f 0
      have f1 := HX.out.f 1
      have f2 := HX.out.f 2
      go_wp2
      obtain ⟨q0, q1⟩ := fd_set HX.out (0, 0, false)
      have HI5 := Lib.hid (HS.out _ _ _ HI.out q1)
      have HZ5 := Lib.hid q1.size
      have HLG := Lib.hid HX.out.lt
      clear q1 x0 x1 x2 f0 f1 f2
      change bodyPost _ _ _ _ _ (fd3 wr g (0, 0, false))
      generalize fd3 wr g (0, 0, false) = w5 at *
      have x0 := q0.c 0
      have x1 := q0.c 1
      have x2 := q0.c 2
      refine bodyPost_ret (v := fdV (0, 0, false)) (by simp [results, Try.results31, go_sem, x0, x1, x2]) rfl ⟨by rw [HRR.out, HN.out.1], ?_, ?_⟩
      · rw [HGG.out, HN.out.2]; exact HI5.out
      · have := HZ5.out; have := HLG.out; have := HGW.out; omega
end Go.Proofs.Ytpcgedngikpnoaa
