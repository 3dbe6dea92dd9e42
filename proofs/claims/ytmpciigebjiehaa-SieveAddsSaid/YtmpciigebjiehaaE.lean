/-
  Copies of filters: slices.Clone, clone, Add.
-/
import Derived.Test.YtmpciigebjiehaaD
namespace Go.Proofs.Ytmpciigebjiehaa
open Go.RowKit

/-- A new row with these words; all else is as it was. -/
def Cloned (w : World) (n : Nat) (l : List UInt64) (e : Ending) (w' : World) : Prop :=
  ∃ A' c', e = .returned (.slice A' n c') ∧ w'.ownsRow w.heap.size 53 1 (.slice A' n c') n (wds l) ∧ Below w.heap.size w w'

set_option maxHeartbeats 400000 in
/-- slices.Clone, of words. -/
theorem sclone_any (P : Nat → Prop) (A : Option Addr) (n c : Nat) (l : List UInt64) (w : World) (h : Src w P A n c (wds l)) (hn : n * 8 ≤ 140737488355328) :
    Calls Try.prog 38 #[.slice A n c] w (Cloned w n l) := by
  obtain ⟨i0, hi, hz0, hz1, hz2⟩ := info_parts Try.info_word
  have hq := @Lib.run_eql_slice_nil Try.prog
  cases A with
  | none =>
    obtain ⟨rfl, rfl⟩ := h.nil rfl
    have h0 := h.len
    go_enter Try.func38, Try.ntmps38
    go_wp2
    go_ret
    exact ⟨none, 0, rfl, ⟨by simpa using h0, .inl ⟨rfl, rfl⟩⟩, Below.refl _ _⟩
  | some ad =>
    have hs : Src (w.alloc (.cells #[] 53)) (fun k => k < w.heap.size) (some ad) n c (wds l) :=
      ⟨h.len, h.nil, h.cap, fun ad' ha hn' => (by
        cases ha
        have hl : 0 < (wds l).length := by rw [h.len]; exact hn'
        have h1 := h.at_ ad rfl 0 _ (List.getElem?_eq_getElem hl)
        have h2 := World.block_lt_of_cell? w _ h1
        rw [addBlock] at h2
        exact h2), fun ad' ha j u hu => (by
        have h1 := h.at_ ad' ha j u hu
        rw [World.cell?_alloc_lt w _ _ (World.block_lt_of_cell? w _ h1)]
        exact h1)⟩
    have ho : (w.alloc (.cells #[] 53)).ownsRow w.heap.size 53 1 (.slice (some ⟨w.heap.size, 0, none⟩) 0 0) 0 [] :=
      ⟨rfl, .inr ⟨w.heap.size, 0, #[], rfl, Nat.le_refl _, heap_alloc_new _ _, Nat.le_refl _, Nat.zero_le _, rfl, rfl⟩⟩
    have h1 := wds_one l
    have m1 : 0 + n ≤ maxLen := by simp only [maxLen]; omega
    have m2 : (0 + n) * 8 ≤ 140737488355328 := by omega
    clear h
    go_enter Try.func38, Try.ntmps38
    go_wp2_with (at_builtin; refine wpList_append_src rfl (.tmp 5) (.tmp 6) _ rfl w.heap.size 53 i0 _ 8 Try.underlying28 hi hz0 hz1 hz2 rfl (.slice (some ⟨w.heap.size, 0, none⟩) 0 0) 0 [] rfl ho _ _ n c (wds l) rfl hs h1 m1 m2 (by simp) ?_; intro v' w1 hown hg hat; obtain ⟨A', c', rfl⟩ := own_slice hown)
    have hb : Below w.heap.size w w1 := ((Below.refl _ _).alloc (Nat.le_refl _) _).grown hg (by simp) (fun k hk => by cases hk; exact Nat.le_refl _)
    go_ret
    simp only [Nat.zero_add, List.nil_append] at hown ⊢
    exact ⟨A', c', rfl, hown, hb⟩


/-- A new filter with these words, handed back alone. -/
def Copied (w : World) (n : Nat) (l : List UInt64) (s : Int) (e : Ending) (w' : World) : Prop :=
  ∃ A c, e = .returned (flt A n c s) ∧ w'.ownsRow w.heap.size 53 1 (.slice A n c) n (wds l) ∧ Below w.heap.size w w'

theorem clone_any (P : Nat → Prop) (A : Option Addr) (n c : Nat) (s : Int) (l : List UInt64) (w : World) (h : Src w P A n c (wds l)) (hn : n * 8 ≤ 140737488355328) :
    Calls Try.prog 33 #[flt A n c s] w (Copied w n l s) := by
  have HX := Lib.hid h.lt
  clear h
  have hB1 : Bx ((w.alloc (.cells #[.slice A n c, .int .i64 s] 30)).alloc (.cells #[.slice none 0 0, .int .i64 0] 30)) w.heap.size A n c s := (Bx.new w A n c s).below ((Below.refl _ _).alloc (Nat.le_refl _) _)
  have hB2 : Bx ((w.alloc (.cells #[.slice A n c, .int .i64 s] 30)).alloc (.cells #[.slice none 0 0, .int .i64 0] 30)) (w.heap.size + 1) none 0 0 0 := by
    have := Bx.new (w.alloc (.cells #[.slice A n c, .int .i64 s] 30)) none 0 0 0
    simpa using this
  have hb : Below w.heap.size w ((w.alloc (.cells #[.slice A n c, .int .i64 s] 30)).alloc (.cells #[.slice none 0 0, .int .i64 0] 30)) := ((Below.refl _ _).alloc (Nat.le_refl _) _).alloc (by simp) _
  have HB1 := Lib.hid hB1
  have HB2 := Lib.hid hB2
  have HB := Lib.hid hb
  clear hB1 hB2 hb
  go_enter Try.func33, Try.ntmps33
  go_wp2
  have hB1 := HB1.out
  have hB2 := HB2.out
  have hb := HB.out
  clear HB1 HB2 HB
  generalize (w.alloc (.cells #[.slice A n c, .int .i64 s] 30)).alloc (.cells #[.slice none 0 0, .int .i64 0] 30) = w0 at *
  have hX := HX.out.below hb (fun _ h => h)
  have CC := Lib.hid ((sclone_any _ A n c l w0.drew (hX.keep (w' := w0.drew) (fun _ _ _ => rfl)) hn).mono (R' := fun e w' => ∃ A' c', e = .returned (.slice A' n c') ∧ w'.ownsRow w0.heap.size 53 1 (.slice A' n c') n (wds l) ∧ Below w0.heap.size w0 w') (fun e w' h => by obtain ⟨A', c', h1, h2, h3⟩ := h; exact ⟨A', c', h1, h2, (drew_below w0).trans h3⟩))
  have h1 := hB1.c0
  have h2 := hB1.c1
  have h3 := hB2.c0
  have h4 := hB2.c1
  have h5 := hB2.f0 0
  have h6 := hB2.f0 1
  have HB1 := Lib.hid hB1
  have HB2 := Lib.hid hB2
  have HB := Lib.hid hb
  clear hB1 hB2 hb hX
  go_region_with (go_at_call 38; refine CC.out.mono ?_; rintro en w2 ⟨A2, c2, rfl, ho, hb2⟩; have hD1 := HB1.out.below (w' := w2) hb2; have e1 := hD1.c0; have e2 := hD1.c1; have hD2 := HB2.out.below (w' := w2) hb2; have e3 := hD2.c0; have e4 := hD2.c1; have e5 := hD2.f0 0; have e6 := hD2.f0 1; have HO := Lib.hid ho; have HC := Lib.hid hb2; have HD2 := Lib.hid hD2; clear ho hb2 hD1 hD2)
  all_goals
    go_wp2
    have hq := HD2.out.over A2 n c2 s
    have q0 := hq.c0
    have q1 := hq.c1
    have hlt := HB2.out.lt
    have hrow : ∀ j, (Value.slice A2 n c2).ownBlock ≠ some (⟨w.heap.size + 1, j, none⟩ : Addr).block := fun j e => by
      have h := (HO.out.lt _ e).1
      have h' : w0.heap.size ≤ w.heap.size + 1 := h
      omega
    have how := ownsRow_setCell_other (ownsRow_setCell_other HO.out (hrow 0) (.slice A2 n c2)) (hrow 1) (.int .i64 s)
    have hbw := ((HB.out.trans (HC.out.mono (by omega))).setCell (p := ⟨w.heap.size + 1, 0, none⟩) (by show w.heap.size ≤ w.heap.size + 1; omega) (.slice A2 n c2)).setCell (p := ⟨w.heap.size + 1, 1, none⟩) (by show w.heap.size ≤ w.heap.size + 1; omega) (.int .i64 s)
    generalize (w2.setCell ⟨w.heap.size + 1, 0, none⟩ (.slice A2 n c2)).setCell ⟨w.heap.size + 1, 1, none⟩ (.int .i64 s) = w3 at q0 q1 how hbw ⊢
    refine bodyPost_ret (v := flt A2 n c2 s) (by simp [results, Try.results33, go_sem, q0, q1]) rfl ⟨A2, c2, rfl, own_more how (by omega), hbw⟩

/-- An argument's box and a result's. -/
theorem two_boxes (w : World) (A : Option Addr) (n c : Nat) (s : Int) :
    Bx ((w.alloc (.cells #[.slice A n c, .int .i64 s] 30)).alloc (.cells #[.slice none 0 0, .int .i64 0] 30)) w.heap.size A n c s ∧
    Bx ((w.alloc (.cells #[.slice A n c, .int .i64 s] 30)).alloc (.cells #[.slice none 0 0, .int .i64 0] 30)) (w.heap.size + 1) none 0 0 0 ∧
    Below w.heap.size w ((w.alloc (.cells #[.slice A n c, .int .i64 s] 30)).alloc (.cells #[.slice none 0 0, .int .i64 0] 30)) ∧
    ((w.alloc (.cells #[.slice A n c, .int .i64 s] 30)).alloc (.cells #[.slice none 0 0, .int .i64 0] 30)).heap.size = w.heap.size + 2 := by
  refine ⟨(Bx.new w A n c s).below ((Below.refl _ _).alloc (Nat.le_refl _) _), ?_, ((Below.refl _ _).alloc (Nat.le_refl _) _).alloc (by simp) _, by simp⟩
  have := Bx.new (w.alloc (.cells #[.slice A n c, .int .i64 s] 30)) none 0 0 0
  simpa using this

theorem add_no (A : Option Addr) (n c : Nat) (s : Int) (x : Value) (w : World) (hn : n ≤ 9223372036854775807) (hf : formB n s = false) : Calls Try.prog 22 #[flt A n c s, x] w (NoF w) := by
  have HF := Lib.hid hf
  have HT := Lib.hid (two_boxes w A n c s)
  clear hf
  go_enter Try.func22, Try.ntmps22
  go_wp2_with (go_at_call 24; refine (right_any A n c s _ hn).mono ?_; rw [HF.out]; rintro e w1 ⟨rfl, hb1⟩; have HB1 := Lib.hid hb1; have HR := Lib.hid (HT.out.2.1.below hb1); have k0 := HR.out.c0; have k1 := HR.out.c1; have k2 := HR.out.f0 0; have k3 := HR.out.f0 1; clear hb1)
  have hq := HR.out.over none 0 0 0
  have q0 := hq.c0
  have q1 := hq.c1
  have hbw := ((HT.out.2.2.1.trans (HB1.out.mono (by simp; omega))).setCell (p := ⟨w.heap.size + 1, 0, none⟩) (by show w.heap.size ≤ w.heap.size + 1; omega) (.slice none 0 0)).setCell (p := ⟨w.heap.size + 1, 1, none⟩) (by show w.heap.size ≤ w.heap.size + 1; omega) (.int .i64 0)
  generalize (w1.setCell ⟨w.heap.size + 1, 0, none⟩ (.slice none 0 0)).setCell ⟨w.heap.size + 1, 1, none⟩ (.int .i64 0) = w3 at q0 q1 hbw ⊢
  exact bodyPost_ret (v := .tuple #[flt none 0 0 0, .int .i64 20]) (by simp [results, Try.results22, go_sem, q0, q1]) rfl ⟨rfl, hbw⟩

theorem add_ok (P : Nat → Prop) (A : Option Addr) (n c s : Nat) (l : List UInt64) (Ah : Option Addr) (ch : Nat) (hs : List UInt32) (w : World) (hx : Src w P A n c (wds l)) (hf : formB n s = true) (hh : Src w (fun k => k < w.heap.size) Ah hs.length ch (hsh hs)) (hm : hs.length ≤ 4611686018427387904) :
    Calls Try.prog 22 #[flt A n c s, .slice Ah hs.length ch] w (Made w (setAll s l hs) s) := by
  obtain ⟨p0, p1, p2, p3⟩ := form_pos hf
  have HF := Lib.hid hf
  have HT := Lib.hid (two_boxes w A n c s)
  have HX := Lib.hid hx.lt
  have HH := Lib.hid hh
  have HL := Lib.hid (show l.length = n by simpa [wds_len] using hx.len)
  clear hf hx hh
  go_enter Try.func22, Try.ntmps22
  go_wp2_with (first
    | (go_at_call 24; refine (right_any A n c s _ (by omega)).mono ?_; rw [HF.out]; rintro e w1 ⟨rfl, hb1⟩; have HB1 := Lib.hid hb1; have HA := Lib.hid (HT.out.1.below hb1); have HR := Lib.hid (HT.out.2.1.below hb1); have j0 := HA.out.c0; have j1 := HA.out.c1; have HBW := Lib.hid (HT.out.2.2.1.trans (hb1.mono (by rw [HT.out.2.2.2]; omega))); have HX1 := Lib.hid (HX.out.below HBW.out (fun _ h => h)); clear hb1)
    | (go_at_call 33; refine (clone_any _ A n c s l _ HX1.out (by omega)).mono ?_; rintro e w2 ⟨A2, c2, rfl, ho2, hb2⟩; have HO2 := Lib.hid ho2; have HB2 := Lib.hid hb2; clear ho2 hb2 j0 j1))
  have hlr := HR.out.lt
  have hs1 := HB1.out.size
  rw [HT.out.2.2.2] at hs1
  have hs2 := HB2.out.size
  obtain ⟨g, rfl, hg1, hg2⟩ := own_some HO2.out p0
  have HBW2 := Lib.hid (HBW.out.trans (HB2.out.mono (by omega)))
  have hh2 : Src (w2.alloc (.cells #[.slice (some ⟨g, 0, none⟩) n c2, .int .i64 (s : Int)] 30)) (fun k => some k ≠ row (some ⟨g, 0, none⟩)) Ah hs.length ch (hsh hs) := by
    refine (HH.out.below (B := w.heap.size) (HBW2.out.alloc (by omega) _) (fun k hk => hk)).weak fun k hk e => ?_
    injection e with e
    have e' : k = g := e
    omega
  refine (set_n w1.heap.size (some ⟨g, 0, none⟩) n c2 s l Ah ch hs _ HL.out (HO2.out.alloc _) p0 (by omega) (by omega) hh2 hm).mono ?_
  rintro e w3 ⟨rfl, hg3, ho3⟩
  have HBX := (Bx.new w2 (some ⟨g, 0, none⟩) n c2 s).grown hg3 (by intro e; injection e with e; have e' : w2.heap.size = g := e; omega)
  have HBR2 := (((HR.out.below HB2.out).below ((Below.refl _ _).alloc (Nat.le_refl _) _)).grown hg3 (by intro e; injection e with e; have e' : w.heap.size + 1 = g := e; omega))
  have k0 := HBX.c0
  have k1 := HBX.c1
  have k2 := HBR2.c0
  have k3 := HBR2.c1
  have k4 := HBR2.f0 0
  have k5 := HBR2.f0 1
  have HG3 := Lib.hid hg3
  have HO3 := Lib.hid ho3
  have HBR3 := Lib.hid HBR2
  have HSZ := Lib.hid hs2
  have HSY := Lib.hid hs1
  clear hg3 ho3 HBX HBR2 hs1 hs2
  go_wp2
  have hq := HBR3.out.over (some ⟨g, 0, none⟩) n c2 s
  have q0 := hq.c0
  have q1 := hq.c1
  have hrow : ∀ j, (Value.slice (some ⟨g, 0, none⟩) n c2).ownBlock ≠ some (⟨w.heap.size + 1, j, none⟩ : Addr).block := fun j e => by
    injection e with e
    have e' : g = w.heap.size + 1 := e
    omega
  have how := ownsRow_setCell_other (ownsRow_setCell_other HO3.out (hrow 0) (.slice (some ⟨g, 0, none⟩) n c2)) (hrow 1) (.int .i64 s)
  have hbw := (((HBW2.out.alloc (by have := HSZ.out; omega) (.cells #[.slice (some ⟨g, 0, none⟩) n c2, .int .i64 (s : Int)] 30)).grown HG3.out (by have := HSZ.out; simp; omega) (fun k hk => by injection hk with hk; have hk' : g = k := hk; omega)).setCell (p := ⟨w.heap.size + 1, 0, none⟩) (by show w.heap.size ≤ w.heap.size + 1; omega) (.slice (some ⟨g, 0, none⟩) n c2)).setCell (p := ⟨w.heap.size + 1, 1, none⟩) (by show w.heap.size ≤ w.heap.size + 1; omega) (.int .i64 s)
  generalize (w3.setCell ⟨w.heap.size + 1, 0, none⟩ (.slice (some ⟨g, 0, none⟩) n c2)).setCell ⟨w.heap.size + 1, 1, none⟩ (.int .i64 s) = w4 at q0 q1 how hbw ⊢
  have hsl : (setAll s l hs).length = n := (setAll_len _ _ _).trans HL.out
  exact bodyPost_ret (v := .tuple #[flt (some ⟨g, 0, none⟩) n c2 s, .int .i64 0]) (by simp [results, Try.results22, go_sem, q0, q1]) rfl ⟨_, c2, by rw [hsl], by rw [hsl]; exact own_more how (by omega), hbw⟩
end Go.Proofs.Ytmpciigebjiehaa
