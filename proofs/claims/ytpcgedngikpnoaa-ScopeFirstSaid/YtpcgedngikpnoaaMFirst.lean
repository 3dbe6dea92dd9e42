/-
  The law ScopeFirst, walked (written by mkl.py).
-/
import Derived.Test.YtpcgedngikpnoaaMMeans
import Derived.Test.YtpcgedngikpnoaaMCounts
namespace Go.Proofs.Ytpcgedngikpnoaa
set_option maxRecDepth 100000
set_option linter.unusedSimpArgs false
set_option linter.unusedVariables false
open Go.RowKit

set_option maxRecDepth 100000 in
set_option maxHeartbeats 4000000 in
theorem firsts_any (r : Sym) (skip : Int) (A : Option Addr) (n c : Nat) (xs : List Im) (w : World) (h : Ims w (fun k => k < w.heap.size) A n c xs) (hf : FitsS xs) (hn : n ≤ 17592186044416) (hrn : r.name.length ≤ 140737488355328) :
    Calls Try.prog 8 #[symV r, .int .i64 skip, .slice A n c] w fun e w' => e = .returned (.bool true) ∧ Below w.heap.size w w' := by
  obtain rfl := h.len
  have hbx := box_below w r
  have HB1 := Lib.hid hbx
  have HR1 := Lib.hid (Sx.new w r)
  have HI1 := Lib.hid (h.lt hbx)
  have HF := Lib.hid hf
  clear hbx h hf
  go_enter Try.func8, Try.ntmps8
  go_upto_region 1 with (fail)
  change Code.wp _ _ _ _ (w.alloc (.cells (symA r) 25))
  generalize w.alloc (.cells (symA r) 25) = w1 at *
  go_upto_region 2 with (go_at_call 12; (with_reducible refine (awake_any _).mono ?_); rintro e w2 ⟨rfl, hb2⟩; have HR2 := Lib.hid (HR1.out.below hb2); have HI2 := Lib.hid (HI1.out.lt hb2); have HB2 := Lib.hid (HB1.out.trans (hb2.mono HB1.out.size)); clear hb2 HR1 HI1 HB1)
  have HRT := Lib.hid (fun (X : World) (hX : Ims X (fun k => k < X.heap.size) A xs.length c xs) => dright_any A xs.length c xs X hX HF.out hn)
  have HRI := Lib.hid (show rightsB xs = true → rightsB xs = true from id)
  by_cases hri : rightsB xs = true
  case neg =>
    have e : rightsB xs = false := by simpa using hri
    rw [e] at HRT
    clear hri e
    go_upto_region 3 with (go_at_call 23; (with_reducible refine (HRT.out _ HI2.out).mono ?_); rintro e w3 ⟨rfl, hb3⟩; have HR3 := Lib.hid (HR2.out.below hb3); have HI3 := Lib.hid (HI2.out.lt hb3); have HB3 := Lib.hid (HB2.out.trans (hb3.mono HB2.out.size)); clear HR2 HI2 HB2)
    go_wp2
    first | go_ret2 | go_ret | skip
    exact ⟨rfl, HB3.out⟩
  rw [hri] at HRT
  have HRI := Lib.hid hri
  clear hri
  go_upto_region 4 with (go_at_call 23; (with_reducible refine (HRT.out _ HI2.out).mono ?_); rintro e w3 ⟨rfl, hb3⟩; have HR3 := Lib.hid (HR2.out.below hb3); have HI3 := Lib.hid (HI2.out.lt hb3); have HB3 := Lib.hid (HB2.out.trans (hb3.mono HB2.out.size)); clear HR2 HI2 HB2; clear hb3)
  have HLK := Lib.hid (fun (X : World) (hX : Ims X (fun k => k < X.heap.size) A xs.length c xs) => look_any r skip A xs.length c xs X hX HF.out hn hrn)
  have hsp := look_spec (f := fun x => (tabI r x).1) (skip := skip) (xs := xs) xs.length 0 (by omega)
  rw [List.drop_zero] at hsp
  have HSP := Lib.hid hsp
  have hln : (numL (tabN r) skip xs (goneP (fun x => (tabI r x).1) skip 0 xs)).length = xs.length := numL_len _ _ _ _
  have HNV := Lib.hid (show ∀ i, i < xs.length → ((i : Int) = skip ∨ goneP (fun x => (tabI r x).1) skip 0 xs ≤ i) → (numL (tabN r) skip xs (goneP (fun x => (tabI r x).1) skip 0 xs)).getD i 0 = 0 from fun i hi h => by
    rw [← getD_get _ 0 (by rw [hln]; exact hi)]
    simp only [numL, numA, List.getElem_map, List.getElem_range]
    rw [if_neg (by rintro ⟨h1, h2⟩; rcases h with h | h; exact h2 h; omega)])
  have HLN := Lib.hid hln
  clear hsp hln
  generalize lookP (fun x => (tabI r x).1) skip 0 xs = L at *
  generalize goneP (fun x => (tabI r x).1) skip 0 xs = G at *
  generalize numL (tabN r) skip xs G = nl at *
  have HRR := Lib.hid (fun (x : Im) (hx : x ∈ xs) => right_lin (List.all_eq_true.1 HRI.out x hx) r)
  obtain ⟨y0, y1, y2, y3, y4, y5, y6, y7, y8⟩ := HR3.out.cells
  go_upto_region 5 with (go_at_call 13; (with_reducible refine (HLK.out _ HI3.out).mono ?_); rintro e w4 ⟨nb, rfl, ho, hb4⟩; have HNA4 := Lib.hid (show Nw nl xs.length nb w4 from ⟨_, ho⟩); clear ho; have HR4 := Lib.hid (HR3.out.below hb4); have HI4 := Lib.hid (HI3.out.lt hb4); have HB4 := Lib.hid (HB3.out.trans (hb4.mono HB3.out.size)); clear HR3 HI3 HB3)
  clear y0 y1 y2 y3 y4 y5 y6 y7 y8 hb4
  have hbx : Below w4.heap.size w4 (w4.alloc (.cells (fdA L) 29)) := (Below.refl _ _).alloc (Nat.le_refl _) _
  have HFA5 := Lib.hid (Bx.new w4 (fdA L) 29)
  have HR5 := Lib.hid (HR4.out.below hbx)
  have HI5 := Lib.hid (HI4.out.lt hbx)
  have HNA5 := Lib.hid (HNA4.out.keepb hbx)
  have HB5 := Lib.hid (HB4.out.trans (hbx.mono HB4.out.size))
  clear HR4 HI4 HNA4 HB4
  clear hbx
  change Code.wp _ _ _ _ (w4.alloc (.cells (fdA L) 29))
  generalize (w4.alloc (.cells (fdA L) 29)) = w5 at *
  generalize w4.heap.size = g5 at *
  have hcap := HI5.out.ex
  obtain ⟨q, hels, hsy⟩ := hcap
  have hcap := hels.cap
  have HE := Lib.hid hels
  have HY := Lib.hid hsy
  clear hels hsy HLK
  rcases HSP.out with ⟨rfl, rfl, hno⟩ | ⟨j, -, hj, rfl, rfl, hjs, hjf, hno⟩
  · clear HSP
    have HNP := Lib.hid (show ∀ i, i < xs.length → ¬ (i : Int) = skip → ∀ k (hk : k < (xs.getD i noIm).syms.length), matchB r (xs.getD i noIm).syms[k] ((xs.getD i noIm).syms.any vdB) = false from fun i hi his k hk => first_not (by
      have := hno i (Nat.zero_le _) hi his
      have e := HRR.out _ (getD_mem xs noIm hi)
      rw [e] at this
      exact this) k hk)
    clear hno
    have z0 := HFA5.out.c 0
    have z1 := HFA5.out.c 1
    have z2 := HFA5.out.c 2
    go_upto_region 7 with (fail)
    clear z0 z1 z2
    have hd := drew_below w5
    have HB6 := Lib.hid hd
    have HR6 := Lib.hid (HR5.out.below hd)
    have z0 := (HFA5.out.below hd).c 0
    have z1 := (HFA5.out.below hd).c 1
    have z2 := (HFA5.out.below hd).c 2
    refine wp_region_held_drew (S := fun X => Below w5.drew.heap.size w5.drew X) (by kernel_rfl) (Below.refl _ _) (fun hHeld0 => ?_)
    clear hd
    generalize w5.drew = w6 at *
    refine take_at (i := 0) (d := 46) (v := (.pointer (some ⟨g5, 2, none⟩))) rfl rfl (by kernel_rfl) (by kernel_rfl) (by kernel_rfl) (fun _ _ _ h => h) (Or.inl ⟨by rfl, ?_⟩) (by assumption) ?_
    · intro X hX; go_simp
    (try simp only [Act.put, List.setIfInBounds_toArray, List.set_cons_zero, List.set_cons_succ])
    refine take_at (i := 1) (d := 47) (v := (.bool false)) rfl rfl (by kernel_rfl) (by kernel_rfl) (by kernel_rfl) (fun _ _ _ h => h) (Or.inl ⟨by rfl, ?_⟩) (by assumption) ?_
    · intro X hX; have z0 := cell_below hX z0; have z1 := cell_below hX z1; have z2 := cell_below hX z2; go_simp
    (try simp only [Act.put, List.setIfInBounds_toArray, List.set_cons_zero, List.set_cons_succ])
    refine take_at (i := 2) (d := 48) (v := (.bool false)) rfl rfl (by kernel_rfl) (by kernel_rfl) (by kernel_rfl) (fun _ _ _ h => h) (Or.inl ⟨by rfl, ?_⟩) (by assumption) ?_
    · intro X hX; go_simp
    (try simp only [Act.put, List.setIfInBounds_toArray, List.set_cons_zero, List.set_cons_succ])
    refine take_at (i := 3) (d := 49) (v := undef) rfl rfl (by kernel_rfl) (by kernel_rfl) (by kernel_rfl) (fun _ _ _ h => h) (Or.inr ⟨by rfl, rfl⟩) (by assumption) ?_
    (try simp only [Act.put, List.setIfInBounds_toArray, List.set_cons_zero, List.set_cons_succ])
    refine take_at (i := 4) (d := 50) (v := undef) rfl rfl (by kernel_rfl) (by kernel_rfl) (by kernel_rfl) (fun _ _ _ h => h) (Or.inr ⟨by rfl, rfl⟩) (by assumption) ?_
    (try simp only [Act.put, List.setIfInBounds_toArray, List.set_cons_zero, List.set_cons_succ])
    refine take_at (i := 5) (d := 51) (v := undef) rfl rfl (by kernel_rfl) (by kernel_rfl) (by kernel_rfl) (fun _ _ _ h => h) (Or.inr ⟨by rfl, rfl⟩) (by assumption) ?_
    (try simp only [Act.put, List.setIfInBounds_toArray, List.set_cons_zero, List.set_cons_succ])
    refine take_at (i := 6) (d := 52) (v := undef) rfl rfl (by kernel_rfl) (by kernel_rfl) (by kernel_rfl) (fun _ _ _ h => h) (Or.inr ⟨by rfl, rfl⟩) (by assumption) ?_
    (try simp only [Act.put, List.setIfInBounds_toArray, List.set_cons_zero, List.set_cons_succ])
    refine take_at (i := 7) (d := 53) (v := undef) rfl rfl (by kernel_rfl) (by kernel_rfl) (by kernel_rfl) (fun _ _ _ h => h) (Or.inr ⟨by rfl, rfl⟩) (by assumption) ?_
    (try simp only [Act.put, List.setIfInBounds_toArray, List.set_cons_zero, List.set_cons_succ])
    refine take_at (i := 8) (d := 54) (v := undef) rfl rfl (by kernel_rfl) (by kernel_rfl) (by kernel_rfl) (fun _ _ _ h => h) (Or.inr ⟨by rfl, rfl⟩) (by assumption) ?_
    (try simp only [Act.put, List.setIfInBounds_toArray, List.set_cons_zero, List.set_cons_succ])
    refine take_at (i := 9) (d := 55) (v := undef) rfl rfl (by kernel_rfl) (by kernel_rfl) (by kernel_rfl) (fun _ _ _ h => h) (Or.inr ⟨by rfl, rfl⟩) (by assumption) ?_
    (try simp only [Act.put, List.setIfInBounds_toArray, List.set_cons_zero, List.set_cons_succ])
    refine take_at (i := 10) (d := 56) (v := undef) rfl rfl (by kernel_rfl) (by kernel_rfl) (by kernel_rfl) (fun _ _ _ h => h) (Or.inr ⟨by rfl, rfl⟩) (by assumption) ?_
    (try simp only [Act.put, List.setIfInBounds_toArray, List.set_cons_zero, List.set_cons_succ])
    refine take_at (i := 11) (d := 57) (v := undef) rfl rfl (by kernel_rfl) (by kernel_rfl) (by kernel_rfl) (fun _ _ _ h => h) (Or.inr ⟨by rfl, rfl⟩) (by assumption) ?_
    (try simp only [Act.put, List.setIfInBounds_toArray, List.set_cons_zero, List.set_cons_succ])
    refine take_at (i := 12) (d := 58) (v := undef) rfl rfl (by kernel_rfl) (by kernel_rfl) (by kernel_rfl) (fun _ _ _ h => h) (Or.inr ⟨by rfl, rfl⟩) (by assumption) ?_
    (try simp only [Act.put, List.setIfInBounds_toArray, List.set_cons_zero, List.set_cons_succ])
    refine take_at (i := 13) (d := 59) (v := (.bool false)) rfl rfl (by kernel_rfl) (by kernel_rfl) (by kernel_rfl) (fun _ _ _ h => h) (Or.inl ⟨by rfl, ?_⟩) (by assumption) ?_
    · intro X hX; go_simp
    (try simp only [Act.put, List.setIfInBounds_toArray, List.set_cons_zero, List.set_cons_succ])
    refine take_at (i := 14) (d := 60) (v := (.bool false)) rfl rfl (by kernel_rfl) (by kernel_rfl) (by kernel_rfl) (fun _ _ _ h => h) (Or.inl ⟨by rfl, ?_⟩) (by assumption) ?_
    · intro X hX; go_simp
    (try simp only [Act.put, List.setIfInBounds_toArray, List.set_cons_zero, List.set_cons_succ])
    refine take_at (i := 15) (d := 61) (v := (.pointer (some ⟨g5, 2, none⟩))) rfl rfl (by kernel_rfl) (by kernel_rfl) (by kernel_rfl) (fun _ _ _ h => h) (Or.inl ⟨by rfl, ?_⟩) (by assumption) ?_
    · intro X hX; go_simp
    (try simp only [Act.put, List.setIfInBounds_toArray, List.set_cons_zero, List.set_cons_succ])
    refine take_at (i := 16) (d := 62) (v := (.bool false)) rfl rfl (by kernel_rfl) (by kernel_rfl) (by kernel_rfl) (fun _ _ _ h => h) (Or.inl ⟨by rfl, ?_⟩) (by assumption) ?_
    · intro X hX; have z0 := cell_below hX z0; have z1 := cell_below hX z1; have z2 := cell_below hX z2; go_simp
    (try simp only [Act.put, List.setIfInBounds_toArray, List.set_cons_zero, List.set_cons_succ])
    refine take_at (i := 17) (d := 63) (v := (.bool false)) rfl rfl (by kernel_rfl) (by kernel_rfl) (by kernel_rfl) (fun _ _ _ h => h) (Or.inl ⟨by rfl, ?_⟩) (by assumption) ?_
    · intro X hX; go_simp
    (try simp only [Act.put, List.setIfInBounds_toArray, List.set_cons_zero, List.set_cons_succ])
    refine take_at (i := 18) (d := 64) (v := undef) rfl rfl (by kernel_rfl) (by kernel_rfl) (by kernel_rfl) (fun _ _ _ h => h) (Or.inr ⟨by rfl, rfl⟩) (by assumption) ?_
    (try simp only [Act.put, List.setIfInBounds_toArray, List.set_cons_zero, List.set_cons_succ])
    refine take_at (i := 19) (d := 65) (v := undef) rfl rfl (by kernel_rfl) (by kernel_rfl) (by kernel_rfl) (fun _ _ _ h => h) (Or.inr ⟨by rfl, rfl⟩) (by assumption) ?_
    (try simp only [Act.put, List.setIfInBounds_toArray, List.set_cons_zero, List.set_cons_succ])
    refine take_at (i := 20) (d := 66) (v := undef) rfl rfl (by kernel_rfl) (by kernel_rfl) (by kernel_rfl) (fun _ _ _ h => h) (Or.inr ⟨by rfl, rfl⟩) (by assumption) ?_
    (try simp only [Act.put, List.setIfInBounds_toArray, List.set_cons_zero, List.set_cons_succ])
    refine take_at (i := 21) (d := 67) (v := undef) rfl rfl (by kernel_rfl) (by kernel_rfl) (by kernel_rfl) (fun _ _ _ h => h) (Or.inr ⟨by rfl, rfl⟩) (by assumption) ?_
    (try simp only [Act.put, List.setIfInBounds_toArray, List.set_cons_zero, List.set_cons_succ])
    refine take_at (i := 22) (d := 68) (v := (.bool false)) rfl rfl (by kernel_rfl) (by kernel_rfl) (by kernel_rfl) (fun _ _ _ h => h) (Or.inl ⟨by rfl, ?_⟩) (by assumption) ?_
    · intro X hX; go_simp
    (try simp only [Act.put, List.setIfInBounds_toArray, List.set_cons_zero, List.set_cons_succ])
    refine take_at (i := 23) (d := 69) (v := (.bool false)) rfl rfl (by kernel_rfl) (by kernel_rfl) (by kernel_rfl) (fun _ _ _ h => h) (Or.inl ⟨by rfl, ?_⟩) (by assumption) ?_
    · intro X hX; go_simp
    (try simp only [Act.put, List.setIfInBounds_toArray, List.set_cons_zero, List.set_cons_succ])
    refine wpAnyH_done (by kernel_rfl) ?_ _
    have HB7 := Lib.hid (HB6.out.trans (hHeld0.mono HB6.out.size))
    clear z0 z1 z2
    go_upto_region 10 with (fail)
    go_loopw [10] (fun t wr => ∃ i : Nat, i ≤ xs.length ∧ t = .int .i64 (i : Int) ∧ Below w5.heap.size w5 wr) (fun t _ => xs.length - (intOf t).toNat)
    case atStart => exact ⟨0, Nat.zero_le _, rfl, HB7.out⟩
    case round =>
      obtain ⟨i, hi, rfl, hb⟩ := hrel
      have HBR := Lib.hid hb
      clear hb
      have z0 := (HFA5.out.below HBR.out).c 0
      have z1 := (HFA5.out.below HBR.out).c 1
      have z2 := (HFA5.out.below HBR.out).c 2
      by_cases hlt : i < xs.length
      · obtain ⟨ad, rfl⟩ : ∃ ad, A = some ad := by
          cases A with
          | none => have := (HE.out.nil rfl).1; omega
          | some ad => exact ⟨ad, rfl⟩
        obtain ⟨b, o, rfl⟩ := HE.out.plain (by omega) rfl
        have hx := getD_mem xs noIm hlt
        have HFX := Lib.hid (HF.out.2 _ hx)
        have HCE := Lib.hid (fun (X : World) (hX : Below w5.heap.size w5 X) => Ims.cells (HE.out.lt hX) i hlt)
        have HSY := Lib.hid (fun (X : World) (hX : Below w5.heap.size w5 X) => (HY.out i hlt).lt hX)
        have n0 := (HNA5.out.keepb HBR.out).at_ (show i < nl.length by rw [HLN.out]; exact hlt)
        have HNI := Lib.hid (HNV.out i hlt)
        have HNQ := Lib.hid (HNP.out i hlt)
        clear hx
        generalize xs.getD i noIm = x at *
        generalize q i = p at *
        generalize nl.getD i 0 = v at *
        have hi0 : (0 : Int) ≤ (i : Int) := by omega
        have hi1 : (i : Int) < (xs.length : Int) := by omega
        by_cases hsk : (i : Int) = skip
        · obtain rfl := HNI.out (.inl hsk)
          have e0 : ((i : Int) == skip) = true := by simp [hsk]
          have e1 : ((i : Int) != skip) = false := by simp [hsk]
          clear hsk
          go_upto_region 16 with (fail)
          go_loopw [12] (fun t w8 => Below w5.heap.size w5 w8) (fun _ _ => 0)
          case atStart => exact HBR.out
          case round =>
            rename World => w8
            have HB8 := Lib.hid hrel
            clear hrel
            go_wp2
            go_roundw
            case rel => exact ⟨i + 1, by omega, by go_num, HB8.out⟩
            case measure => simp [intOf]; omega
        · have e0 : ((i : Int) == skip) = false := by simp [hsk]
          have e1 : ((i : Int) != skip) = true := by simp [hsk]
          have HNO := Lib.hid (HNQ.out hsk)
          clear hsk
          go_upto_region 16 with (fail)
          go_loopw [12] (fun t w8 => ∃ k : Nat, k ≤ x.syms.length ∧ t = .int .i64 (k : Int) ∧ Below w5.heap.size w5 w8) (fun t _ => x.syms.length - (intOf t).toNat)
          case atStart => exact ⟨0, Nat.zero_le _, rfl, HBR.out⟩
          case round =>
            rename World => w8
            obtain ⟨k, hk, rfl, hb⟩ := hrel
            have HB8 := Lib.hid hb
            clear hb
            have c5 := (HCE.out _ HB8.out).2.2.2.2.2.1
            have hss := HFX.out.syms
            by_cases hki : k < x.syms.length
            · have HME := Lib.hid (fun (X : World) (hX : Below w5.heap.size w5 X) => dmeans_any r p x k X (HSY.out X hX) HFX.out hki)
              rw [HNO.out k hki] at HME
              have hk0 : (0 : Int) ≤ (k : Int) := by omega
              have hk1 : (k : Int) < (x.syms.length : Int) := by omega
              go_upto_region 18 with (fail)
              have hd := drew_below w8
              have HB9 := Lib.hid (HB8.out.trans (hd.mono HB8.out.size))
              refine wp_region_held_drew (S := fun X => Below w8.drew.heap.size w8.drew X) (by kernel_rfl) (Below.refl _ _) (fun hHeld0 => ?_)
              clear hd c5
              generalize w8.drew = w9 at *
              refine take_at (i := 0) (d := 130) (v := (symV r)) rfl rfl (by kernel_rfl) (by kernel_rfl) (by kernel_rfl) (fun _ _ _ h => h) (Or.inl ⟨by rfl, ?_⟩) (by assumption) ?_
              · intro X hX; obtain ⟨y0, y1, y2, y3, y4, y5, y6, y7, y8⟩ := (HR5.out.below (HB9.out.trans (hX.mono HB9.out.size))).cells; go_simp
              (try simp only [Act.put, List.setIfInBounds_toArray, List.set_cons_zero, List.set_cons_succ])
              refine take_at (i := 1) (d := 131) (v := (.slice (some ⟨b, o, none⟩) xs.length c)) rfl rfl (by kernel_rfl) (by kernel_rfl) (by kernel_rfl) (fun _ _ _ h => h) (Or.inl ⟨by rfl, ?_⟩) (by assumption) ?_
              · intro X hX; go_simp
              (try simp only [Act.put, List.setIfInBounds_toArray, List.set_cons_zero, List.set_cons_succ])
              refine take_at (i := 2) (d := 132) (v := (.int .i64 (i : Int))) rfl rfl (by kernel_rfl) (by kernel_rfl) (by kernel_rfl) (fun _ _ _ h => h) (Or.inl ⟨by rfl, ?_⟩) (by assumption) ?_
              · intro X hX; go_simp
              (try simp only [Act.put, List.setIfInBounds_toArray, List.set_cons_zero, List.set_cons_succ])
              refine take_at (i := 3) (d := 133) (v := (.pointer (some ⟨b, o + i * 15, none⟩))) rfl rfl (by kernel_rfl) (by kernel_rfl) (by kernel_rfl) (fun _ _ _ h => h) (Or.inl ⟨by rfl, ?_⟩) (by assumption) ?_
              · intro X hX; go_simp
              (try simp only [Act.put, List.setIfInBounds_toArray, List.set_cons_zero, List.set_cons_succ])
              refine take_at (i := 4) (d := 134) (v := (imV p x)) rfl rfl (by kernel_rfl) (by kernel_rfl) (by kernel_rfl) (fun _ _ _ h => h) (Or.inl ⟨by rfl, ?_⟩) (by assumption) ?_
              · intro X hX; obtain ⟨c0, c1, c2, c3, c4, c5, c6, c7, c8, c9, c10, c11, c12, c13, c14⟩ := HCE.out _ (HB9.out.trans (hX.mono HB9.out.size)); go_simp
              (try simp only [Act.put, List.setIfInBounds_toArray, List.set_cons_zero, List.set_cons_succ])
              refine take_at (i := 5) (d := 135) (v := (.int .i64 (k : Int))) rfl rfl (by kernel_rfl) (by kernel_rfl) (by kernel_rfl) (fun _ _ _ h => h) (Or.inl ⟨by rfl, ?_⟩) (by assumption) ?_
              · intro X hX; go_simp
              (try simp only [Act.put, List.setIfInBounds_toArray, List.set_cons_zero, List.set_cons_succ])
              refine wpAnyH_ready (rs := [6]) (by kernel_rfl) (by simp) ?_
              refine AllReadyH.cons rfl (fun K hK => ?_) AllReadyH.nil
              go_simp
              (with_reducible refine (HME.out _ (HB9.out.trans (hHeld0.mono HB9.out.size))).mono ?_)
              rintro e wa ⟨rfl, hba⟩
              have HBa := Lib.hid hba; clear hba
              go_simp
              refine hK.out _ _ (hHeld0.trans (HBa.out.mono hHeld0.size)) (fun hHeld1 => ?_)
              clear hK K
              (try simp only [Act.put, List.setIfInBounds_toArray, List.set_cons_zero, List.set_cons_succ])
              refine wpAnyH_done (by kernel_rfl) ?_ _
              have HBN := Lib.hid (HB9.out.trans (hHeld1.mono HB9.out.size))
              go_wp2
              go_roundw
              case rel => exact ⟨k + 1, by omega, by go_num, HBN.out⟩
              case measure => simp [intOf]; omega
            · obtain rfl : k = x.syms.length := by omega
              go_wp2
              go_roundw
              case rel => exact ⟨i + 1, by omega, by go_num, HB8.out⟩
              case measure => simp [intOf]; omega
      · obtain rfl : i = xs.length := by omega
        go_wp2
        first | go_ret2 | go_ret | skip
        exact ⟨rfl, HB5.out.trans (HBR.out.mono HB5.out.size)⟩
  · clear HSP
    have hxj := getD_mem xs noIm hj
    have hlin := HRR.out _ hxj
    have HFJ := Lib.hid (HF.out.2 _ hxj)
    obtain ⟨m, hm, hm1, hm2⟩ := first_yes (r := r) (ss := (xs.getD j noIm).syms) (by show ¬ linI r (xs.getD j noIm) = -1; rw [← hlin]; exact hjf)
    have HNP := Lib.hid (show ∀ i, i < xs.length → i < j → ¬ (i : Int) = skip → ∀ k (hk : k < (xs.getD i noIm).syms.length), matchB r (xs.getD i noIm).syms[k] ((xs.getD i noIm).syms.any vdB) = false from fun i hi hij his k hk => first_not (by
      have := hno i (Nat.zero_le _) hij his
      have e := HRR.out _ (getD_mem xs noIm hi)
      rw [e] at this
      exact this) k hk)
    have hjm : (tabI r (xs.getD j noIm)).1 = (m : Int) := hlin.trans hm1
    rw [hjm] at HFA5
    have HMJ := Lib.hid (fun (X : World) (hX : Below w5.heap.size w5 X) => dmeans_any r (q j) (xs.getD j noIm) m X ((HY.out j hj).lt hX) HFJ.out hm)
    rw [hm2] at HMJ
    have HCJ := Lib.hid (fun (X : World) (hX : Below w5.heap.size w5 X) => HE.out.lt hX)
    obtain ⟨ad, rfl⟩ : ∃ ad, A = some ad := by
      cases A with
      | none => have := (HE.out.nil rfl).1; omega
      | some ad => exact ⟨ad, rfl⟩
    obtain ⟨b, o, rfl⟩ := HE.out.plain (by omega) rfl
    have HCJ := Lib.hid (fun (X : World) (hX : Below w5.heap.size w5 X) => Ims.cells (HE.out.lt hX) j hj)
    generalize hxj' : xs.getD j noIm = xj at *
    generalize hpj : q j = pj at *
    clear hxj hlin hm1 hm2 hno hjf hm hjm hxj' hpj HFJ
    have a0 : (0 : Int) ≤ (j : Int) := by omega
    have a1 : (j : Int) < (xs.length : Int) := by omega
    have d0 : decide ((j : Int) < 0) = false := decide_eq_false (by omega)
    have d1 : decide ((xs.length : Int) ≤ (j : Int)) = false := decide_eq_false (by omega)
    have d2 : ((j : Int) == skip) = false := by simp [hjs]
    have z0 := HFA5.out.c 0
    have z1 := HFA5.out.c 1
    have z2 := HFA5.out.c 2
    go_upto_region 7 with (fail)
    clear z0 z1 z2
    have hd := drew_below w5
    have HB6 := Lib.hid hd
    have HR6 := Lib.hid (HR5.out.below hd)
    have z0 := (HFA5.out.below hd).c 0
    have z1 := (HFA5.out.below hd).c 1
    have z2 := (HFA5.out.below hd).c 2
    refine wp_region_held_drew (S := fun X => Below w5.drew.heap.size w5.drew X) (by kernel_rfl) (Below.refl _ _) (fun hHeld0 => ?_)
    clear hd
    generalize w5.drew = w6 at *
    refine take_at (i := 0) (d := 46) (v := (.pointer (some ⟨g5, 2, none⟩))) rfl rfl (by kernel_rfl) (by kernel_rfl) (by kernel_rfl) (fun _ _ _ h => h) (Or.inl ⟨by rfl, ?_⟩) (by assumption) ?_
    · intro X hX; go_simp
    (try simp only [Act.put, List.setIfInBounds_toArray, List.set_cons_zero, List.set_cons_succ])
    refine take_at (i := 1) (d := 47) (v := (.bool true)) rfl rfl (by kernel_rfl) (by kernel_rfl) (by kernel_rfl) (fun _ _ _ h => h) (Or.inl ⟨by rfl, ?_⟩) (by assumption) ?_
    · intro X hX; have z0 := cell_below hX z0; have z1 := cell_below hX z1; have z2 := cell_below hX z2; go_simp
    (try simp only [Act.put, List.setIfInBounds_toArray, List.set_cons_zero, List.set_cons_succ])
    refine take_at (i := 2) (d := 48) (v := (.bool true)) rfl rfl (by kernel_rfl) (by kernel_rfl) (by kernel_rfl) (fun _ _ _ h => h) (Or.inl ⟨by rfl, ?_⟩) (by assumption) ?_
    · intro X hX; go_simp
    (try simp only [Act.put, List.setIfInBounds_toArray, List.set_cons_zero, List.set_cons_succ])
    refine take_at (i := 3) (d := 49) (v := (symV r)) rfl rfl (by kernel_rfl) (by kernel_rfl) (by kernel_rfl) (fun _ _ _ h => h) (Or.inl ⟨by rfl, ?_⟩) (by assumption) ?_
    · intro X hX; obtain ⟨y0, y1, y2, y3, y4, y5, y6, y7, y8⟩ := (HR6.out.below hX).cells; go_simp
    (try simp only [Act.put, List.setIfInBounds_toArray, List.set_cons_zero, List.set_cons_succ])
    refine take_at (i := 4) (d := 50) (v := (.slice (some ⟨b, o, none⟩) xs.length c)) rfl rfl (by kernel_rfl) (by kernel_rfl) (by kernel_rfl) (fun _ _ _ h => h) (Or.inl ⟨by rfl, ?_⟩) (by assumption) ?_
    · intro X hX; go_simp
    (try simp only [Act.put, List.setIfInBounds_toArray, List.set_cons_zero, List.set_cons_succ])
    refine take_at (i := 5) (d := 51) (v := (.pointer (some ⟨g5, 0, none⟩))) rfl rfl (by kernel_rfl) (by kernel_rfl) (by kernel_rfl) (fun _ _ _ h => h) (Or.inl ⟨by rfl, ?_⟩) (by assumption) ?_
    · intro X hX; go_simp
    (try simp only [Act.put, List.setIfInBounds_toArray, List.set_cons_zero, List.set_cons_succ])
    refine take_at (i := 6) (d := 52) (v := (.int .i64 (j : Int))) rfl rfl (by kernel_rfl) (by kernel_rfl) (by kernel_rfl) (fun _ _ _ h => h) (Or.inl ⟨by rfl, ?_⟩) (by assumption) ?_
    · intro X hX; have z0 := cell_below hX z0; have z1 := cell_below hX z1; have z2 := cell_below hX z2; go_simp
    (try simp only [Act.put, List.setIfInBounds_toArray, List.set_cons_zero, List.set_cons_succ])
    refine take_at (i := 7) (d := 53) (v := (.pointer (some ⟨b, o + j * 15, none⟩))) rfl rfl (by kernel_rfl) (by kernel_rfl) (by kernel_rfl) (fun _ _ _ h => h) (Or.inl ⟨by rfl, ?_⟩) (by assumption) ?_
    · intro X hX; go_simp
    (try simp only [Act.put, List.setIfInBounds_toArray, List.set_cons_zero, List.set_cons_succ])
    refine take_at (i := 8) (d := 54) (v := (imV pj xj)) rfl rfl (by kernel_rfl) (by kernel_rfl) (by kernel_rfl) (fun _ _ _ h => h) (Or.inl ⟨by rfl, ?_⟩) (by assumption) ?_
    · intro X hX; obtain ⟨c0, c1, c2, c3, c4, c5, c6, c7, c8, c9, c10, c11, c12, c13, c14⟩ := HCJ.out _ (HB6.out.trans (hX.mono HB6.out.size)); go_simp
    (try simp only [Act.put, List.setIfInBounds_toArray, List.set_cons_zero, List.set_cons_succ])
    refine take_at (i := 9) (d := 55) (v := (.pointer (some ⟨g5, 1, none⟩))) rfl rfl (by kernel_rfl) (by kernel_rfl) (by kernel_rfl) (fun _ _ _ h => h) (Or.inl ⟨by rfl, ?_⟩) (by assumption) ?_
    · intro X hX; go_simp
    (try simp only [Act.put, List.setIfInBounds_toArray, List.set_cons_zero, List.set_cons_succ])
    refine take_at (i := 10) (d := 56) (v := (.int .i64 (m : Int))) rfl rfl (by kernel_rfl) (by kernel_rfl) (by kernel_rfl) (fun _ _ _ h => h) (Or.inl ⟨by rfl, ?_⟩) (by assumption) ?_
    · intro X hX; have z0 := cell_below hX z0; have z1 := cell_below hX z1; have z2 := cell_below hX z2; go_simp
    (try simp only [Act.put, List.setIfInBounds_toArray, List.set_cons_zero, List.set_cons_succ])
    refine wpAnyH_ready (rs := [11]) (by kernel_rfl) (by simp) ?_
    refine AllReadyH.cons rfl (fun K hK => ?_) AllReadyH.nil
    go_simp
    (with_reducible refine (HMJ.out _ (HB6.out.trans (hHeld0.mono HB6.out.size))).mono ?_)
    rintro e wa ⟨rfl, hba⟩
    have HBa := Lib.hid hba; clear hba
    go_simp
    refine hK.out _ _ (hHeld0.trans (HBa.out.mono hHeld0.size)) (fun hHeld1 => ?_)
    clear hK K
    (try simp only [Act.put, List.setIfInBounds_toArray, List.set_cons_zero, List.set_cons_succ])
    refine take_at (i := 12) (d := 58) (v := (.bool false)) rfl rfl (by kernel_rfl) (by kernel_rfl) (by kernel_rfl) (fun _ _ _ h => h) (Or.inl ⟨by rfl, ?_⟩) (by assumption) ?_
    · intro X hX; go_simp
    (try simp only [Act.put, List.setIfInBounds_toArray, List.set_cons_zero, List.set_cons_succ])
    refine take_at (i := 13) (d := 59) (v := (.bool false)) rfl rfl (by kernel_rfl) (by kernel_rfl) (by kernel_rfl) (fun _ _ _ h => h) (Or.inl ⟨by rfl, ?_⟩) (by assumption) ?_
    · intro X hX; go_simp
    (try simp only [Act.put, List.setIfInBounds_toArray, List.set_cons_zero, List.set_cons_succ])
    refine take_at (i := 14) (d := 60) (v := (.bool false)) rfl rfl (by kernel_rfl) (by kernel_rfl) (by kernel_rfl) (fun _ _ _ h => h) (Or.inl ⟨by rfl, ?_⟩) (by assumption) ?_
    · intro X hX; go_simp
    (try simp only [Act.put, List.setIfInBounds_toArray, List.set_cons_zero, List.set_cons_succ])
    refine take_at (i := 15) (d := 61) (v := (.pointer (some ⟨g5, 2, none⟩))) rfl rfl (by kernel_rfl) (by kernel_rfl) (by kernel_rfl) (fun _ _ _ h => h) (Or.inl ⟨by rfl, ?_⟩) (by assumption) ?_
    · intro X hX; go_simp
    (try simp only [Act.put, List.setIfInBounds_toArray, List.set_cons_zero, List.set_cons_succ])
    refine take_at (i := 16) (d := 62) (v := (.bool true)) rfl rfl (by kernel_rfl) (by kernel_rfl) (by kernel_rfl) (fun _ _ _ h => h) (Or.inl ⟨by rfl, ?_⟩) (by assumption) ?_
    · intro X hX; have z0 := cell_below hX z0; have z1 := cell_below hX z1; have z2 := cell_below hX z2; go_simp
    (try simp only [Act.put, List.setIfInBounds_toArray, List.set_cons_zero, List.set_cons_succ])
    refine take_at (i := 17) (d := 63) (v := (.bool true)) rfl rfl (by kernel_rfl) (by kernel_rfl) (by kernel_rfl) (fun _ _ _ h => h) (Or.inl ⟨by rfl, ?_⟩) (by assumption) ?_
    · intro X hX; go_simp
    (try simp only [Act.put, List.setIfInBounds_toArray, List.set_cons_zero, List.set_cons_succ])
    refine take_at (i := 18) (d := 64) (v := (.pointer (some ⟨g5, 0, none⟩))) rfl rfl (by kernel_rfl) (by kernel_rfl) (by kernel_rfl) (fun _ _ _ h => h) (Or.inl ⟨by rfl, ?_⟩) (by assumption) ?_
    · intro X hX; go_simp
    (try simp only [Act.put, List.setIfInBounds_toArray, List.set_cons_zero, List.set_cons_succ])
    refine take_at (i := 19) (d := 65) (v := (.int .i64 (j : Int))) rfl rfl (by kernel_rfl) (by kernel_rfl) (by kernel_rfl) (fun _ _ _ h => h) (Or.inl ⟨by rfl, ?_⟩) (by assumption) ?_
    · intro X hX; have z0 := cell_below hX z0; have z1 := cell_below hX z1; have z2 := cell_below hX z2; go_simp
    (try simp only [Act.put, List.setIfInBounds_toArray, List.set_cons_zero, List.set_cons_succ])
    refine take_at (i := 20) (d := 66) (v := (.int .i64 skip)) rfl rfl (by kernel_rfl) (by kernel_rfl) (by kernel_rfl) (fun _ _ _ h => h) (Or.inl ⟨by rfl, ?_⟩) (by assumption) ?_
    · intro X hX; go_simp
    (try simp only [Act.put, List.setIfInBounds_toArray, List.set_cons_zero, List.set_cons_succ])
    refine take_at (i := 21) (d := 67) (v := (.bool false)) rfl rfl (by kernel_rfl) (by kernel_rfl) (by kernel_rfl) (fun _ _ _ h => h) (Or.inl ⟨by rfl, ?_⟩) (by assumption) ?_
    · intro X hX; go_simp
    (try simp only [Act.put, List.setIfInBounds_toArray, List.set_cons_zero, List.set_cons_succ])
    refine take_at (i := 22) (d := 68) (v := (.bool false)) rfl rfl (by kernel_rfl) (by kernel_rfl) (by kernel_rfl) (fun _ _ _ h => h) (Or.inl ⟨by rfl, ?_⟩) (by assumption) ?_
    · intro X hX; go_simp
    (try simp only [Act.put, List.setIfInBounds_toArray, List.set_cons_zero, List.set_cons_succ])
    refine take_at (i := 23) (d := 69) (v := (.bool false)) rfl rfl (by kernel_rfl) (by kernel_rfl) (by kernel_rfl) (fun _ _ _ h => h) (Or.inl ⟨by rfl, ?_⟩) (by assumption) ?_
    · intro X hX; go_simp
    (try simp only [Act.put, List.setIfInBounds_toArray, List.set_cons_zero, List.set_cons_succ])
    refine wpAnyH_done (by kernel_rfl) ?_ _
    have HB7 := Lib.hid (HB6.out.trans (hHeld1.mono HB6.out.size))
    clear z0 z1 z2
    go_upto_region 10 with (fail)
    go_loopw [10] (fun t wr => ∃ i : Nat, i ≤ xs.length ∧ t = .int .i64 (i : Int) ∧ Below w5.heap.size w5 wr) (fun t _ => xs.length - (intOf t).toNat)
    case atStart => exact ⟨0, Nat.zero_le _, rfl, HB7.out⟩
    case round =>
      obtain ⟨i, hi, rfl, hb⟩ := hrel
      have HBR := Lib.hid hb
      clear hb
      have z0 := (HFA5.out.below HBR.out).c 0
      have z1 := (HFA5.out.below HBR.out).c 1
      have z2 := (HFA5.out.below HBR.out).c 2
      by_cases hlt : i < xs.length
      · have hx := getD_mem xs noIm hlt
        have HFX := Lib.hid (HF.out.2 _ hx)
        have HCE := Lib.hid (fun (X : World) (hX : Below w5.heap.size w5 X) => Ims.cells (HE.out.lt hX) i hlt)
        have HSY := Lib.hid (fun (X : World) (hX : Below w5.heap.size w5 X) => (HY.out i hlt).lt hX)
        have n0 := (HNA5.out.keepb HBR.out).at_ (show i < nl.length by rw [HLN.out]; exact hlt)
        have HNI := Lib.hid (HNV.out i hlt)
        have HNQ := Lib.hid (HNP.out i hlt)
        clear hx
        generalize xs.getD i noIm = x at *
        generalize q i = p at *
        generalize nl.getD i 0 = v at *
        have hi0 : (0 : Int) ≤ (i : Int) := by omega
        have hi1 : (i : Int) < (xs.length : Int) := by omega
        by_cases hsk : (i : Int) = skip
        · obtain rfl := HNI.out (.inl hsk)
          have e0 : ((i : Int) == skip) = true := by simp [hsk]
          have e1 : ((i : Int) != skip) = false := by simp [hsk]
          clear hsk
          by_cases hij : j < i
          · have e2 : decide ((j : Int) < (i : Int)) = true := decide_eq_true (by omega)
            go_upto_region 16 with (fail)
            go_loopw [12] (fun t w8 => Below w5.heap.size w5 w8) (fun _ _ => 0)
            case atStart => exact HBR.out
            case round =>
              rename World => w8
              have HB8 := Lib.hid hrel
              clear hrel
              go_wp2
              go_roundw
              case rel => exact ⟨i + 1, by omega, by go_num, HB8.out⟩
              case measure => simp [intOf]; omega
          · have e2 : decide ((j : Int) < (i : Int)) = false := decide_eq_false (by omega)
            go_upto_region 16 with (fail)
            go_loopw [12] (fun t w8 => Below w5.heap.size w5 w8) (fun _ _ => 0)
            case atStart => exact HBR.out
            case round =>
              rename World => w8
              have HB8 := Lib.hid hrel
              clear hrel
              go_wp2
              go_roundw
              case rel => exact ⟨i + 1, by omega, by go_num, HB8.out⟩
              case measure => simp [intOf]; omega
        · have e0 : ((i : Int) == skip) = false := by simp [hsk]
          have e1 : ((i : Int) != skip) = true := by simp [hsk]
          by_cases hij : i < j
          · have e2 : decide ((j : Int) < (i : Int)) = false := decide_eq_false (by omega)
            have e3 : decide ((i : Int) < (j : Int)) = true := decide_eq_true (by omega)
            have HNO := Lib.hid (HNQ.out hij hsk)
            clear hsk
            go_upto_region 16 with (fail)
            go_loopw [12] (fun t w8 => ∃ k : Nat, k ≤ x.syms.length ∧ t = .int .i64 (k : Int) ∧ Below w5.heap.size w5 w8) (fun t _ => x.syms.length - (intOf t).toNat)
            case atStart => exact ⟨0, Nat.zero_le _, rfl, HBR.out⟩
            case round =>
              rename World => w8
              obtain ⟨k, hk, rfl, hb⟩ := hrel
              have HB8 := Lib.hid hb
              clear hb
              have c5 := (HCE.out _ HB8.out).2.2.2.2.2.1
              have hss := HFX.out.syms
              by_cases hki : k < x.syms.length
              · have HME := Lib.hid (fun (X : World) (hX : Below w5.heap.size w5 X) => dmeans_any r p x k X (HSY.out X hX) HFX.out hki)
                rw [HNO.out k hki] at HME
                have hk0 : (0 : Int) ≤ (k : Int) := by omega
                have hk1 : (k : Int) < (x.syms.length : Int) := by omega
                go_upto_region 18 with (fail)
                have hd := drew_below w8
                have HB9 := Lib.hid (HB8.out.trans (hd.mono HB8.out.size))
                refine wp_region_held_drew (S := fun X => Below w8.drew.heap.size w8.drew X) (by kernel_rfl) (Below.refl _ _) (fun hHeld0 => ?_)
                clear hd c5
                generalize w8.drew = w9 at *
                refine take_at (i := 0) (d := 130) (v := (symV r)) rfl rfl (by kernel_rfl) (by kernel_rfl) (by kernel_rfl) (fun _ _ _ h => h) (Or.inl ⟨by rfl, ?_⟩) (by assumption) ?_
                · intro X hX; obtain ⟨y0, y1, y2, y3, y4, y5, y6, y7, y8⟩ := (HR5.out.below (HB9.out.trans (hX.mono HB9.out.size))).cells; go_simp
                (try simp only [Act.put, List.setIfInBounds_toArray, List.set_cons_zero, List.set_cons_succ])
                refine take_at (i := 1) (d := 131) (v := (.slice (some ⟨b, o, none⟩) xs.length c)) rfl rfl (by kernel_rfl) (by kernel_rfl) (by kernel_rfl) (fun _ _ _ h => h) (Or.inl ⟨by rfl, ?_⟩) (by assumption) ?_
                · intro X hX; go_simp
                (try simp only [Act.put, List.setIfInBounds_toArray, List.set_cons_zero, List.set_cons_succ])
                refine take_at (i := 2) (d := 132) (v := (.int .i64 (i : Int))) rfl rfl (by kernel_rfl) (by kernel_rfl) (by kernel_rfl) (fun _ _ _ h => h) (Or.inl ⟨by rfl, ?_⟩) (by assumption) ?_
                · intro X hX; go_simp
                (try simp only [Act.put, List.setIfInBounds_toArray, List.set_cons_zero, List.set_cons_succ])
                refine take_at (i := 3) (d := 133) (v := (.pointer (some ⟨b, o + i * 15, none⟩))) rfl rfl (by kernel_rfl) (by kernel_rfl) (by kernel_rfl) (fun _ _ _ h => h) (Or.inl ⟨by rfl, ?_⟩) (by assumption) ?_
                · intro X hX; go_simp
                (try simp only [Act.put, List.setIfInBounds_toArray, List.set_cons_zero, List.set_cons_succ])
                refine take_at (i := 4) (d := 134) (v := (imV p x)) rfl rfl (by kernel_rfl) (by kernel_rfl) (by kernel_rfl) (fun _ _ _ h => h) (Or.inl ⟨by rfl, ?_⟩) (by assumption) ?_
                · intro X hX; obtain ⟨c0, c1, c2, c3, c4, c5, c6, c7, c8, c9, c10, c11, c12, c13, c14⟩ := HCE.out _ (HB9.out.trans (hX.mono HB9.out.size)); go_simp
                (try simp only [Act.put, List.setIfInBounds_toArray, List.set_cons_zero, List.set_cons_succ])
                refine take_at (i := 5) (d := 135) (v := (.int .i64 (k : Int))) rfl rfl (by kernel_rfl) (by kernel_rfl) (by kernel_rfl) (fun _ _ _ h => h) (Or.inl ⟨by rfl, ?_⟩) (by assumption) ?_
                · intro X hX; go_simp
                (try simp only [Act.put, List.setIfInBounds_toArray, List.set_cons_zero, List.set_cons_succ])
                refine wpAnyH_ready (rs := [6]) (by kernel_rfl) (by simp) ?_
                refine AllReadyH.cons rfl (fun K hK => ?_) AllReadyH.nil
                go_simp
                (with_reducible refine (HME.out _ (HB9.out.trans (hHeld0.mono HB9.out.size))).mono ?_)
                rintro e wa ⟨rfl, hba⟩
                have HBa := Lib.hid hba; clear hba
                go_simp
                refine hK.out _ _ (hHeld0.trans (HBa.out.mono hHeld0.size)) (fun hHeld1 => ?_)
                clear hK K
                (try simp only [Act.put, List.setIfInBounds_toArray, List.set_cons_zero, List.set_cons_succ])
                refine wpAnyH_done (by kernel_rfl) ?_ _
                have HBN := Lib.hid (HB9.out.trans (hHeld1.mono HB9.out.size))
                go_wp2
                go_roundw
                case rel => exact ⟨k + 1, by omega, by go_num, HBN.out⟩
                case measure => simp [intOf]; omega
              · obtain rfl : k = x.syms.length := by omega
                go_wp2
                go_roundw
                case rel => exact ⟨i + 1, by omega, by go_num, HB8.out⟩
                case measure => simp [intOf]; omega
          · have e3 : decide ((i : Int) < (j : Int)) = false := decide_eq_false (by omega)
            by_cases hji : j < i
            · obtain rfl := HNI.out (.inr (by omega))
              have e2 : decide ((j : Int) < (i : Int)) = true := decide_eq_true (by omega)
              clear hsk
              go_upto_region 16 with (fail)
              go_loopw [12] (fun t w8 => Below w5.heap.size w5 w8) (fun _ _ => 0)
              case atStart => exact HBR.out
              case round =>
                rename World => w8
                have HB8 := Lib.hid hrel
                clear hrel
                go_wp2
                go_roundw
                case rel => exact ⟨i + 1, by omega, by go_num, HB8.out⟩
                case measure => simp [intOf]; omega
            · have e2 : decide ((j : Int) < (i : Int)) = false := decide_eq_false (by omega)
              clear hsk
              go_upto_region 16 with (fail)
              go_loopw [12] (fun t w8 => Below w5.heap.size w5 w8) (fun _ _ => 0)
              case atStart => exact HBR.out
              case round =>
                rename World => w8
                have HB8 := Lib.hid hrel
                clear hrel
                go_wp2
                go_roundw
                case rel => exact ⟨i + 1, by omega, by go_num, HB8.out⟩
                case measure => simp [intOf]; omega
      · obtain rfl : i = xs.length := by omega
        go_wp2
        first | go_ret2 | go_ret | skip
        exact ⟨rfl, HB5.out.trans (HBR.out.mono HB5.out.size)⟩
end Go.Proofs.Ytpcgedngikpnoaa
