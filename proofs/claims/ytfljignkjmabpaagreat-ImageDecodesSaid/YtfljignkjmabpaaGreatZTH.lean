/- A part of the proof. -/
import Derived.Test.YtfljignkjmabpaaGreatZWA
set_option linter.unusedSimpArgs false
set_option linter.unusedVariables false
namespace Go.Proofs.YtfljignkjmabpaaGreat
set_option maxRecDepth 100000
open Go.RowKit
abbrev fltA (A : Option Addr) (n c : Nat) (s : Int) : Array Value := #[.slice A n c, .int .i64 s]
abbrev fltV (A : Option Addr) (n c : Nat) (s : Int) : Value := .agg (fltA A n c s)
theorem lacksAny1_any (A : Option Addr) (c : Nat) (L : List UInt64) (s : Int) (g : Nat) (h : UInt32) (w : World) (hx : Src w (fun k => k < w.heap.size) A L.length c (Siv.wds L)) (hL : L.length ≤ 9223372036854775807) (hb : Bx w g (fltA A L.length c s) 33) :
  Calls Tryz.prog 175 #[hv h, .pointer (some ⟨g, 0, none⟩)] w fun e w' => e = .returned (.bool (Siv.lacksB L s h)) ∧ Below w.heap.size w w' := by
 have H := hD (Siv.lacks_any _ A c L s h w hx hL)
 have q0 := hb.c 0
 have q1 := hb.c 1
 generalize Siv.lacksB L s h = b at *
 generalize h.toNat = hn at *
 simp only [List.getElem?_toArray, List.getElem?_cons_succ, List.getElem?_cons_zero] at q0 q1
 clear hb hx
 go_enter Tryz.func175, Tryz.ntmps175
 go_wp2_with (go_at_call 176; refine (H.out).mono ?_; rintro e w2 ⟨rfl, hb2⟩)
 first | go_ret | skip
 exact ⟨rfl, hb2⟩
theorem any_take' {α : Type} {p : α → Bool} {l : List α} {k : Nat} (hk : k < l.length) (h : (l.take k).any p = false) : (l.take (k + 1)).any p = p l[k] := by
 rw [List.take_succ_eq_append_getElem hk, List.any_append, h]
 simp
theorem any_yes' {α : Type} {p : α → Bool} {l : List α} {k : Nat} (hk : k < l.length) (h : p l[k] = true) : l.any p = true := List.any_eq_true.2 ⟨_, List.getElem_mem hk, h⟩
theorem indexFunc_any (A : Option Addr) (c : Nat) (L : List UInt64) (s : Int) (g : Nat) (B : Option Addr) (d : Nat) (hs : List UInt32) (w : World) (hx : Src w (fun k => k < w.heap.size) A L.length c (Siv.wds L)) (hL : L.length ≤ 9223372036854775807) (hb : Bx w g (fltA A L.length c s) 33)
  (hh : Src w (fun k => k < w.heap.size) B hs.length d (Siv.hsh hs)) (hn : hs.length ≤ 4611686018427387904) :
  Calls Tryz.prog 204 #[.slice B hs.length d, .func (.func 175) #[] #[.pointer (some ⟨g, 0, none⟩)]] w fun e w' => ∃ i : Int, e = .returned (.int .i64 i) ∧ decide (0 ≤ i) = hs.any (Siv.lacksB L s) ∧ Below w.heap.size w w' := by
 have HX := hD hx
 have HBX := hD hb
 have HH := hD hh
 have hcap := hh.cap
 clear hx hb hh
 go_enter Tryz.func204, Tryz.ntmps204
 go_wp2
 go_loopw [8] (fun t wr => ∃ k : Nat, k ≤ hs.length ∧ t = .int .i64 k ∧ Below w.heap.size w wr ∧ (hs.take k).any (Siv.lacksB L s) = false) (fun t _ => hs.length - (intOf t).toNat)
 case atStart => exact ⟨0, Nat.zero_le _, rfl, Below.refl _ _, rfl⟩
 case round =>
  obtain ⟨k, hk, rfl, hb, he⟩ := hrel
  have HE := hD he
  have HB := hD hb
  clear he hb
  by_cases hlt : k < hs.length
  ·
   obtain ⟨ad, rfl⟩ : ∃ ad, B = some ad := by
    cases B with
    | none => have := (HH.out.nil rfl).1; omega
    | some ad => exact ⟨ad, rfl⟩
   have hc : wr.cell? (ad.add k) = some (hv hs[k]) := (HH.out.below HB.out (fun _ h => h)).at_ ad rfl k _ (Siv.hsh_get hs k hlt)
   have HC := hD (lacksAny1_any A c L s g hs[k] wr ((HX.out.below HB.out (fun _ h => h)).lt) hL (HBX.out.below' HB.out HBX.out.lt))
   have HY := hD (fun h => any_yes' (p := Siv.lacksB L s) hlt h)
   have HT := hD (any_take' hlt HE.out)
   generalize hs[k] = h at *
   generalize Siv.lacksB L s h = b at *
   generalize h.toNat = hn' at *
   generalize hhl : hs.length = nn at *
   cases b
   ·
    go_wp2_with (go_at_call 175; refine (HC.out).mono ?_; rintro e w2 ⟨rfl, hb2⟩; have HB2 := hD (HB.out.trans (hb2.mono HB.out.size)); clear hb2)
    go_roundw
    case rel => exact ⟨k + 1, by omega, by go_num, HB2.out, HT.out⟩
    case measure => simp [intOf]; omega
   ·
    go_wp2_with (go_at_call 175; refine (HC.out).mono ?_; rintro e w2 ⟨rfl, hb2⟩; have HB2 := hD (HB.out.trans (hb2.mono HB.out.size)); clear hb2)
    first | go_ret | skip
    exact ⟨k, rfl, by rw [HY.out trivial]; simp, HB2.out⟩
  ·
   obtain rfl : k = hs.length := by omega
   have HN := hD (show hs.any (Siv.lacksB L s) = false by have := HE.out; rwa [List.take_length] at this)
   go_wp2
   first | go_ret | skip
   exact ⟨-1, rfl, by rw [HN.out]; rfl, HB.out⟩
theorem containsFunc_any (A : Option Addr) (c : Nat) (L : List UInt64) (s : Int) (g : Nat) (B : Option Addr) (d : Nat) (hs : List UInt32) (w : World) (hx : Src w (fun k => k < w.heap.size) A L.length c (Siv.wds L)) (hL : L.length ≤ 9223372036854775807) (hb : Bx w g (fltA A L.length c s) 33)
  (hh : Src w (fun k => k < w.heap.size) B hs.length d (Siv.hsh hs)) (hn : hs.length ≤ 4611686018427387904) :
  Calls Tryz.prog 174 #[.slice B hs.length d, .func (.func 175) #[] #[.pointer (some ⟨g, 0, none⟩)]] w fun e w' => e = .returned (.bool (hs.any (Siv.lacksB L s))) ∧ Below w.heap.size w w' := by
 have HC := hD (indexFunc_any A c L s g B d hs w hx hL hb hh hn)
 clear hx hb hh
 go_enter Tryz.func174, Tryz.ntmps174
 go_upto_region 99 with (go_at_call 204; refine (HC.out).mono ?_; rintro e w2 ⟨i, rfl, hi, hb2⟩)
 first | go_ret | skip
 exact ⟨by rw [← hi]; rfl, hb2⟩
theorem lacksAny_any (A : Option Addr) (c : Nat) (L : List UInt64) (s : Int) (B : Option Addr) (d : Nat) (hs : List UInt32) (w : World) (hx : Src w (fun k => k < w.heap.size) A L.length c (Siv.wds L)) (hL : L.length ≤ 9223372036854775807)
  (hh : Src w (fun k => k < w.heap.size) B hs.length d (Siv.hsh hs)) (hn : hs.length ≤ 4611686018427387904) :
  Calls Tryz.prog 111 #[fltV A L.length c s, .slice B hs.length d] w fun e w' => e = .returned (.bool (hs.any (Siv.lacksB L s))) ∧ Below w.heap.size w w' := by
 have hB := (Below.refl w.heap.size w).alloc (Nat.le_refl _) (.cells (fltA A L.length c s) 33)
 have HC := hD (containsFunc_any A c L s w.heap.size B d hs (w.alloc (.cells (fltA A L.length c s) 33)) ((hx.below hB (fun _ h => h)).lt) hL (Bx.new _ _ _) ((hh.below hB (fun _ h => h)).lt) hn)
 have HB := hD hB
 clear hx hh hB
 go_enter Tryz.func111, Tryz.ntmps111
 go_upto_region 99 with (go_at_call 174; refine (HC.out).mono ?_; rintro e w2 ⟨rfl, hb2⟩)
 first | go_ret | skip
 exact ⟨rfl, HB.out.trans (hb2.mono HB.out.size)⟩
end Go.Proofs.YtfljignkjmabpaaGreat
