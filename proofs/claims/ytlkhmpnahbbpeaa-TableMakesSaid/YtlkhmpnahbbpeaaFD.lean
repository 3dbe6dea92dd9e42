/-
  Filters that are made: Make, clone, Add, and the document's own Add.
-/
import Derived.Test.YtlkhmpnahbbpeaaFC
namespace Go.Proofs.Ytlkhmpnahbbpeaa.Siv
open Go.RowKit

theorem Try.info_word : (Try.prog.info? 65).map (fun i => (i.zero, i.size, i.bytes)) = some (some (.int .u64 0), 1, 8) := by kernel_rfl

/-- A new filter with these words. -/
def Made (w : World) (l : List UInt64) (s : Int) (e : Ending) (w' : World) : Prop :=
  ∃ A c, e = .returned (.tuple #[flt A l.length c s, .int .i64 0]) ∧ w'.ownsRow w.heap.size 65 1 (.slice A l.length c) l.length (wds l) ∧ Below w.heap.size w w'
/-- No filter. -/
def NoF (w : World) (e : Ending) (w' : World) : Prop := e = .returned (.tuple #[flt none 0 0 0, .int .i64 20]) ∧ Below w.heap.size w w'
def blank (n : Nat) : List UInt64 := List.replicate n 0
theorem made_blank (n : Nat) : (madeCells (Value.int .u64 0).cells (n * 1)).toList = wds (blank n) := by
  apply List.ext_getElem
  · simp [madeCells, wds, blank]
  · intro i h1 h2
    simp [madeCells, wds, blank, Value.cells, Nat.mod_one]

theorem make_no (n s : Int) (x : Value) (w : World) (hn : -9223372036854775808 ≤ n ∧ n ≤ 9223372036854775807) (hf : formB n s = false) : Calls Try.prog 30 #[.int .i64 n, .int .i64 s, x] w (NoF w) := by
  have HF := Lib.hid hf
  have HN := Lib.hid hn
  clear hf hn
  go_enter Try.func30, Try.ntmps30
  go_wp2_with (go_at_call 55; refine (isForm_any n s _ HN.out).mono ?_; rw [HF.out]; rintro e w' ⟨rfl, rfl⟩)
  refine bodyPost_ret (v := .tuple #[flt none 0 0 0, .int .i64 20]) (by simp [results, Try.results30, go_sem]) rfl ⟨rfl, (Below.refl _ _).alloc (Nat.le_refl _) _⟩

theorem make_ok (n s : Nat) (Ah : Option Addr) (ch : Nat) (hs : List UInt32) (w : World) (hf : formB n s = true) (hh : Src w (fun k => k < w.heap.size) Ah hs.length ch (hsh hs)) (hm : hs.length ≤ 4611686018427387904) :
    Calls Try.prog 30 #[.int .i64 n, .int .i64 s, .slice Ah hs.length ch] w (Made w (setAll s (blank n) hs) s) := by
  obtain ⟨p0, p1, p2, p3⟩ := form_pos hf
  obtain ⟨i0, hi, hz0, hz1, hz2⟩ := info_parts Try.info_word
  have HF := Lib.hid hf
  have HH := Lib.hid hh
  clear hf hh
  have m3 : n ≤ maxLen := by simp only [maxLen]; omega
  have hbl : (blank n).length = n := by simp [blank]
  have hX := made_blank n
  have hsl : (setAll s (blank n) hs).length = n := (setAll_len _ _ _).trans hbl
  simp only [Nat.mul_one] at hX
  have HX := Lib.hid hX
  have HBL := Lib.hid hbl
  have HSL := Lib.hid hsl
  clear hX hbl hsl
  go_enter Try.func30, Try.ntmps30
  go_wp2_with (first
    | (go_at_call 55; refine (isForm_any n s _ (by omega)).mono ?_; rw [HF.out]; rintro e w' ⟨rfl, rfl⟩)
    | (at_make; refine wpList_make_full _ rfl _ _ _ rfl (w.heap.size) 65 i0 _ 1 Try.underlying25 hi hz0 hz1 .i64 .i64 _ _ n rfl rfl rfl rfl (by rw [hz2]; omega) m3 (by simp) ?_; intro w1 hown hg1; have HO := Lib.hid hown; have HG := Lib.hid hg1; clear hown hg1; have HBR := Lib.hid ((Bx.new w none 0 0 0).grown HG.out (by simp)); have hsz1 : w.heap.size + 1 ≤ w1.heap.size := by have := HG.out.size; simpa using this))
  have hv : (w.alloc (.cells #[.slice none 0 0, .int .i64 0] 27)).heap.size = w.heap.size + 1 := by simp
  have ho1 : w1.ownsRow w.heap.size 65 1 (.slice (some ⟨w.heap.size + 1, 0, none⟩) n n) n (wds (blank n)) := by
    have h := HO.out
    rw [made_blank, hv] at h
    exact h
  have hlt1 : w.heap.size + 1 < w1.heap.size := (ho1.lt _ rfl).2
  have HO1 := Lib.hid ho1
  clear ho1
  have hh2 : Src (w1.alloc (.cells #[.slice (some ⟨w.heap.size + 1, 0, none⟩) n n, .int .i64 (s : Int)] 27)) (fun k => some k ≠ row (some ⟨w.heap.size + 1, 0, none⟩)) Ah hs.length ch (hsh hs) := by
    refine (HH.out.below (B := w.heap.size) ?_ (fun k hk => hk)).weak fun k hk => ?_
    · exact (((Below.refl _ w).alloc (Nat.le_refl _) _).grown HG.out (by simp) (fun k hk => by cases hk)).alloc (by omega) _
    · simp only [row, Option.map_some, ne_eq, Option.some.injEq]
      omega
  refine (set_n w.heap.size (some ⟨w.heap.size + 1, 0, none⟩) n n s (blank n) Ah ch hs _ HBL.out (HO1.out.alloc _) p0 (by omega) (by omega) hh2 hm).mono ?_
  rintro e w2 ⟨rfl, hg2, ho2⟩
  have HBX := ((Bx.new w1 (some ⟨w.heap.size + 1, 0, none⟩) n n s).grown hg2 (by intro e; injection e with e; have e' : w1.heap.size = w.heap.size + 1 := e; omega))
  have HBR2 := ((HBR.out.below ((Below.refl _ _).alloc (Nat.le_refl _) _)).grown hg2 (by simp [row]))
  have k0 := HBX.c0
  have k1 := HBX.c1
  have k2 := HBR2.c0
  have k3 := HBR2.c1
  have k4 := HBR2.f0 0
  have k5 := HBR2.f0 1
  have HG2 := Lib.hid hg2
  have HO2 := Lib.hid ho2
  have HBR3 := Lib.hid HBR2
  clear hg2 ho2 HBX HBR2
  go_wp2
  refine bodyPost_ret (v := .tuple #[flt (some ⟨w.heap.size + 1, 0, none⟩) n n s, .int .i64 0]) ?_ rfl ?_
  · have hq := HBR3.out.over (some ⟨w.heap.size + 1, 0, none⟩) n n s
    have q0 := hq.c0
    have q1 := hq.c1
    generalize (w2.setCell ⟨w.heap.size, 0, none⟩ (.slice (some ⟨w.heap.size + 1, 0, none⟩) n n)).setCell ⟨w.heap.size, 1, none⟩ (.int .i64 s) = w3 at q0 q1 ⊢
    simp [results, Try.results30, go_sem, q0, q1]
  · refine ⟨_, n, by rw [HSL.out], ?_, ?_⟩
    · rw [HSL.out]
      exact ownsRow_setCell_other (ownsRow_setCell_other HO2.out (by simp [Value.ownBlock])  _) (by simp [Value.ownBlock]) _
    · have hb := (((((Below.refl w.heap.size w).alloc (Nat.le_refl _) (.cells #[.slice none 0 0, .int .i64 0] 27)).grown HG.out (by simp) (fun k hk => by cases hk)).alloc (by omega) (.cells #[.slice (some ⟨w.heap.size + 1, 0, none⟩) n n, .int .i64 (s : Int)] 27)).grown HG2.out (by simp; omega) (fun k hk => by cases hk; show w.heap.size ≤ w.heap.size + 1; omega))
      exact (hb.setCell (p := ⟨w.heap.size, 0, none⟩) (Nat.le_refl _) _).setCell (p := ⟨w.heap.size, 1, none⟩) (Nat.le_refl _) _
end Go.Proofs.Ytlkhmpnahbbpeaa.Siv
