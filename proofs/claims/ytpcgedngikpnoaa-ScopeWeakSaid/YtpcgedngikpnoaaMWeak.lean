/-
  The law ScopeWeak, walked (written by mkl.py).
-/
import Derived.Test.YtpcgedngikpnoaaI
import Derived.Test.YtpcgedngikpnoaaP
import Derived.Test.YtpcgedngikpnoaaMSame
namespace Go.Proofs.Ytpcgedngikpnoaa
set_option maxRecDepth 100000
set_option linter.unusedSimpArgs false
set_option linter.unusedVariables false
open Go.RowKit


/-- Symbol m is weak just if it was not. -/
def flipS (ss : List Sym) (m : Nat) : List Sym := ss.set m { ss.getD m noSy with weak := !(ss.getD m noSy).weak }
def flipI (x : Im) (m : Nat) : Im := { x with syms := flipS x.syms m }
def flipX (xs : List Im) (a m : Nat) : List Im := xs.set a (flipI (xs.getD a noIm) m)
theorem flipS_len (ss : List Sym) (m : Nat) : (flipS ss m).length = ss.length := by simp [flipS]
theorem flipX_len (xs : List Im) (a m : Nat) : (flipX xs a m).length = xs.length := by simp [flipX]
theorem flipS_get (ss : List Sym) (m k : Nat) (hk : k < ss.length) : (flipS ss m).getD k noSy = if k = m then { ss.getD m noSy with weak := !(ss.getD m noSy).weak } else ss.getD k noSy := by
  unfold flipS
  rw [List.getD_eq_getElem?_getD, List.getElem?_set]
  by_cases h : m = k
  · subst h
    rw [if_pos rfl, if_pos hk, if_pos rfl]
    rfl
  · rw [if_neg h, if_neg (Ne.symm h), ← List.getD_eq_getElem?_getD]
theorem flipX_get (xs : List Im) (a m k : Nat) (hk : k < xs.length) : (flipX xs a m).getD k noIm = if k = a then flipI (xs.getD a noIm) m else xs.getD k noIm := by
  unfold flipX
  rw [List.getD_eq_getElem?_getD, List.getElem?_set]
  by_cases h : a = k
  · subst h
    rw [if_pos rfl, if_pos hk, if_pos rfl]
    rfl
  · rw [if_neg h, if_neg (Ne.symm h), ← List.getD_eq_getElem?_getD]
theorem flip_match (r : Sym) (ss : List Sym) (m : Nat) (v : Bool) (k : Nat) (hk : k < ss.length) : matchB r ((flipS ss m).getD k noSy) v = matchB r (ss.getD k noSy) v := by
  rw [flipS_get ss m k hk]
  split
  · rename_i h
    subst h
    rfl
  · rfl
theorem any_getD {α : Type} (l : List α) (d : α) (p : α → Bool) : l.any p = (List.range l.length).any fun k => p (l.getD k d) := by
  rw [Bool.eq_iff_iff, List.any_eq_true, List.any_eq_true]
  constructor
  · rintro ⟨a, ha, h⟩
    obtain ⟨k, hk, rfl⟩ := List.getElem_of_mem ha
    exact ⟨k, List.mem_range.2 hk, by rw [← getD_get l d hk]; exact h⟩
  · rintro ⟨k, hk, h⟩
    have hk := List.mem_range.1 hk
    exact ⟨_, List.getElem_mem hk, by rw [getD_get l d hk]; exact h⟩
theorem flip_vd (ss : List Sym) (m : Nat) : (flipS ss m).any vdB = ss.any vdB := by
  have key : ∀ k, k < ss.length → vdB ((flipS ss m).getD k noSy) = vdB (ss.getD k noSy) := by
    intro k hk
    rw [flipS_get ss m k hk]
    split
    · rename_i h
      subst h
      rfl
    · rfl
  rw [any_getD _ noSy, any_getD ss noSy, flipS_len, Bool.eq_iff_iff, List.any_eq_true, List.any_eq_true]
  constructor
  · rintro ⟨k, hk, h⟩
    exact ⟨k, hk, by rw [← key k (List.mem_range.1 hk)]; exact h⟩
  · rintro ⟨k, hk, h⟩
    exact ⟨k, hk, by rw [key k (List.mem_range.1 hk)]; exact h⟩
theorem flip_goF (r : Sym) (ss : List Sym) (m : Nat) (v : Bool) : ∀ (l : List Int) (e : Nat), goF r (flipS ss m) v l e = goF r ss v l e
  | [], _ => rfl
  | i :: l, e => by
    rw [goF, goF, flipS_len]
    by_cases h : i < 0 ∨ (ss.length : Int) ≤ i
    · rw [if_pos h, if_pos h]
      exact flip_goF r ss m v l e
    · rw [if_neg h, if_neg h]
      have hk : i.toNat < ss.length := by omega
      have e1 : (flipS ss m)[i.toNat]? = some ((flipS ss m).getD i.toNat noSy) := by
        rw [← getD_get (flipS ss m) noSy (by rw [flipS_len]; exact hk)]
        exact List.getElem?_eq_getElem _
      have e2 : ss[i.toNat]? = some (ss.getD i.toNat noSy) := by
        rw [← getD_get ss noSy hk]
        exact List.getElem?_eq_getElem _
      rw [e1, e2]
      simp only [flip_match r ss m v _ hk, flip_goF r ss m v l]
theorem flip_tab (r : Sym) (x : Im) (m : Nat) : tabI r (flipI x m) = tabI r x := by
  unfold tabI findT flipI
  simp only [flip_vd, flip_goF]
theorem look_map {f : Im → Int} {skip : Int} {g : Nat → Im → Im} (hg : ∀ i x, f (g i x) = f x) : ∀ (l l' : List Im) (i : Nat), l'.length = l.length → (∀ k, k < l.length → f (l'.getD k noIm) = f (l.getD k noIm)) → lookP f skip i l' = lookP f skip i l
  | [], [], _, _, _ => rfl
  | [], _ :: _, _, h, _ => by cases h
  | _ :: _, [], _, h, _ => by cases h
  | x :: l, y :: l', i, hl, h => by
    have h0 : f y = f x := h 0 (by simp)
    unfold lookP
    rw [h0, look_map (g := g) hg l l' (i + 1) (by simpa using hl) fun k hk => h (k + 1) (by simpa using hk)]
theorem flip_look (r : Sym) (skip : Int) (xs : List Im) (a m : Nat) : lookP (fun x => (tabI r x).1) skip 0 (flipX xs a m) = lookP (fun x => (tabI r x).1) skip 0 xs := by
  refine look_map (g := fun _ x => x) (fun _ _ => rfl) _ _ _ (flipX_len _ _ _) fun k hk => ?_
  show (tabI r ((flipX xs a m).getD k noIm)).1 = (tabI r (xs.getD k noIm)).1
  rw [flipX_get xs a m k hk]
  split
  · rename_i h
    subst h
    rw [flip_tab]
  · rfl
/-- What Bind answers of a symbol, and of the same one, when it is weak just if it was not. -/
theorem weak_spec (cp : Bool) (xs : List Im) (a m : Nat) (ha : a < xs.length) (hm : m < (xs.getD a noIm).syms.length) :
    (∃ p q, bindP (a : Int) (m : Int) cp xs = ((p, q, true), 0) ∧ bindP (a : Int) (m : Int) cp (flipX xs a m) = ((p, q, true), 0)) ∨
    (bindP (a : Int) (m : Int) cp xs = ((0, 0, false), 141) ∧ bindP (a : Int) (m : Int) cp (flipX xs a m) = ((0, 0, false), 0)) ∨
    (bindP (a : Int) (m : Int) cp xs = ((0, 0, false), 0) ∧ bindP (a : Int) (m : Int) cp (flipX xs a m) = ((0, 0, false), 141)) := by
  have hx : (flipX xs a m).getD a noIm = flipI (xs.getD a noIm) m := by rw [flipX_get xs a m a ha, if_pos rfl]
  have hs : ((flipX xs a m).getD a noIm).syms.getD m noSy = { (xs.getD a noIm).syms.getD m noSy with weak := !((xs.getD a noIm).syms.getD m noSy).weak } := by
    rw [hx]
    show (flipS (xs.getD a noIm).syms m).getD m noSy = _
    rw [flipS_get _ _ _ hm, if_pos rfl]
  rw [bind_good ha hm, bind_good (by rw [flipX_len]; exact ha) (by rw [hx]; show m < (flipS _ _).length; rw [flipS_len]; exact hm), hs]
  generalize (xs.getD a noIm).syms.getD m noSy = s
  have ho : ownB { s with weak := !s.weak } = ownB s := rfl
  have hr : refI { s with weak := !s.weak } = refI s := rfl
  rw [ho, hr, flip_look]
  by_cases hown : ownB s = true ∧ cp = false
  · rw [if_pos hown, if_pos hown]
    exact .inl ⟨_, _, rfl, rfl⟩
  · rw [if_neg hown, if_neg hown]
    have hsp := look_spec (f := fun x => (tabI (refI s) x).1) (skip := if cp = true then (a : Int) else -1) (xs := xs) xs.length 0 (by omega)
    rw [List.drop_zero] at hsp
    rcases hsp with ⟨e, -, -⟩ | ⟨j, -, -, e, -, -, -, -⟩
    · rw [e]
      right
      show ((if false = false ∧ s.weak = false then _ else _) = _ ∧ (if false = false ∧ (!s.weak) = false then _ else _) = _) ∨ _
      cases s.weak
      · exact .inl ⟨rfl, rfl⟩
      · exact .inr ⟨rfl, rfl⟩
    · rw [e]
      exact .inl ⟨_, _, if_neg (fun h => Bool.noConfusion h.1), if_neg (fun h => Bool.noConfusion h.1)⟩
theorem flatE_set (E : Nat → Array Value) {sz : Nat} (m j : Nat) (v : Value) (hj : j < sz) : ∀ n, m < n → (∀ i, i < n → (E i).size = sz) → (flatE E n).set (m * sz + j) v = flatE (fun k => if k = m then (E m).setIfInBounds j v else E k) n
  | 0, h, _ => by omega
  | n + 1, hm, hE => by
    have hl := flatE_len n (fun i hi => hE i (by omega))
    show (flatE E n ++ (E n).toList).set (m * sz + j) v = flatE _ n ++ (if n = m then (E m).setIfInBounds j v else E n).toList
    by_cases h : m < n
    · have h1 : (m + 1) * sz ≤ n * sz := Nat.mul_le_mul_right _ h
      rw [Nat.succ_mul] at h1
      rw [List.set_append_left _ _ (by rw [hl]; omega), flatE_set E m j v hj n h (fun i hi => hE i (by omega)), if_neg (by omega)]
    · obtain rfl : m = n := by omega
      rw [List.set_append_right _ _ (by rw [hl]; omega), hl, Nat.add_sub_cancel_left, if_pos rfl, Array.toList_setIfInBounds]
      congr 1
      exact flatE_congr m fun i hi => by rw [if_neg (by omega)]
theorem info_sym3 : ∃ i, Try.prog.info? 25 = some i ∧ i.zero = some (symV noSy) ∧ i.size = 9 ∧ i.bytes = 88 := info3 (by kernel_rfl)
theorem own_cell9 {w : World} {B n c r sz : Nat} {e : TypeId} {xs : List Value} (h : w.ownsRow B e sz (.slice (some ⟨r, 0, none⟩) n c) n xs) {j : Nat} {u : Value} (hu : xs[j]? = some u) : w.cell? ⟨r, j, none⟩ = some u ∧ w.frozen? ⟨r, j, none⟩ = false := by
  have q := h.cells (g := r) rfl j u hu
  rw [plainAdd, Nat.zero_add] at q
  refine ⟨q, ?_⟩
  obtain ⟨h1, h2⟩ := h
  rcases h2 with h1 | ⟨g2, cap, cur, hv, hb, hh, h4, h5, h6, hx⟩
  · cases h1.1
  · injection hv with h1 _ h3
    injection h1 with h1
    injection h1 with h1
    subst h1
    exact frozen_of_row w r j _ _ hh
theorem Syl.els9 {w : World} {P : Nat → Prop} {A : Option Addr} {n c : Nat} {ss : List Sym} (h : Syl w P A n c ss) : Els w P A n c 9 (fun k => symA (ss.getD k noSy)) :=
  ⟨h.nil, h.cap, h.blk, fun ad hA k hk j u hu => by
    have hk' : k < ss.length := by rw [h.len]; exact hk
    refine h.at_ ad hA k hk' j u ?_
    rw [← hu, List.getD_eq_getElem?_getD, List.getElem?_eq_getElem hk', Option.getD_some]⟩
theorem flip_cells (p : Pl) (x : Im) (m : Nat) (A : Option Addr) (c : Nat) {n : Nat} (hn : n = x.syms.length) : (imA p x).setIfInBounds 5 (.slice A n c) = imA { p with sy := (A, c) } (flipI x m) := by
  subst hn
  have e : (flipI x m).syms.length = x.syms.length := flipS_len x.syms m
  simp only [imA, e]
  rfl
theorem own_some {w : World} {B n sz : Nat} {e : TypeId} {v : Value} {xs : List Value} (h : w.ownsRow B e sz v n xs) (h0 : 0 < n) : ∃ g c, v = .slice (some ⟨g, 0, none⟩) n c := by
  rcases h.2 with ⟨_, h1⟩ | ⟨g, cap, cur, rfl, _⟩
  · omega
  · exact ⟨g, cap, rfl⟩
set_option maxRecDepth 100000 in
set_option maxHeartbeats 4000000 in
theorem weak_bad (i k : Int) (cp : Bool) (A : Option Addr) (c : Nat) (xs : List Im) (w : World) (h : Ims w (fun k => k < w.heap.size) A xs.length c xs) (hf : FitsS xs) (hn : xs.length ≤ 17592186044416) (hi64 : I64 i) (hk64 : I64 k) (hb : i < 0 ∨ (xs.length : Int) ≤ i ∨ k < 0 ∨ ((xs.getD i.toNat noIm).syms.length : Int) ≤ k) :
    Calls Try.prog 10 #[.int .i64 i, .int .i64 k, .bool cp, .slice A xs.length c] w fun e w' => e = .returned (.bool true) ∧ Below w.heap.size w w' := by
  have HI1 := Lib.hid h
  have HF := Lib.hid hf
  have HB1 := Lib.hid (Below.refl w.heap.size w)
  have HLK := Lib.hid (fun (X : World) (hX : Ims X (fun k => k < X.heap.size) A xs.length c xs) => by
    have q := bind_any i k cp A xs.length c xs X hX HF.out hn hi64 hk64
    rw [bind_bad hb] at q
    exact q)
  have HBD := Lib.hid hb
  clear hf h hi64 hk64 hb
  go_enter Try.func10, Try.ntmps10
  go_upto_region 2 with (go_at_call 12; (with_reducible refine (awake_any _).mono ?_); rintro e w2 ⟨rfl, hb2⟩; have HI2 := Lib.hid (HI1.out.lt hb2); have HB2 := Lib.hid (HB1.out.trans (hb2.mono HB1.out.size)); clear hb2 HI1 HB1)
  go_upto_region 3 with (go_at_call 19; (with_reducible refine (HLK.out _ HI2.out).mono ?_); rintro e w3 ⟨rfl, hb3⟩; have HI3 := Lib.hid (HI2.out.lt hb3); have HB3 := Lib.hid (HB2.out.trans (hb3.mono HB2.out.size)); clear HI2 HB2)
  have hbx : Below w3.heap.size w3 (w3.alloc (.cells (fdA (0, 0, false)) 29)) := (Below.refl _ _).alloc (Nat.le_refl _) _
  have HFA4 := Lib.hid (Bx.new w3 (fdA (0, 0, false)) 29)
  have HI4 := Lib.hid (HI3.out.lt hbx)
  have HB4 := Lib.hid (HB3.out.trans (hbx.mono HB3.out.size))
  clear HI3 HB3
  clear hbx
  change Code.wp _ _ _ _ (w3.alloc (.cells (fdA (0, 0, false)) 29))
  generalize (w3.alloc (.cells (fdA (0, 0, false)) 29)) = w4 at *
  generalize w3.heap.size = g4 at *
  clear hb3

  have x0 := HFA4.out.c 0
  have x1 := HFA4.out.c 1
  have x2 := HFA4.out.c 2
  by_cases hi0 : i < 0
  · have d0 : decide (i < 0) = true := decide_eq_true hi0
    clear hi0
    go_wp2
    first | go_ret2 | go_ret | skip
    exact ⟨rfl, HB4.out⟩
  by_cases hi1 : (xs.length : Int) ≤ i
  · have d0 : decide (i < 0) = false := decide_eq_false hi0
    have d1 : decide ((xs.length : Int) ≤ i) = true := decide_eq_true hi1
    clear hi0 hi1
    go_wp2
    first | go_ret2 | go_ret | skip
    exact ⟨rfl, HB4.out⟩
  obtain ⟨a, rfl⟩ : ∃ a : Nat, i = (a : Int) := ⟨i.toNat, by omega⟩
  have hal : a < xs.length := by omega
  have d0 : decide ((a : Int) < 0) = false := decide_eq_false hi0
  have d1 : decide ((xs.length : Int) ≤ (a : Int)) = false := decide_eq_false hi1
  have a0 : (0 : Int) ≤ (a : Int) := by omega
  have a1 : (a : Int) < (xs.length : Int) := by omega
  by_cases hk0 : k < 0
  · have d2 : decide (k < 0) = true := decide_eq_true hk0
    clear hk0 hi0 hi1
    go_wp2
    first | go_ret2 | go_ret | skip
    exact ⟨rfl, HB4.out⟩
  have d2 : decide (k < 0) = false := decide_eq_false hk0
  obtain ⟨-, q, h1, h2⟩ := HI4.out
  have hcap := h1.cap
  obtain ⟨ad, rfl⟩ : ∃ ad, A = some ad := by
    cases A with
    | none => have := (h1.nil rfl).1; omega
    | some ad => exact ⟨ad, rfl⟩
  obtain ⟨b, o, rfl⟩ := h1.plain (by omega) rfl
  obtain ⟨c0, c1, c2, c3, c4, c5, c6, c7, c8, c9, c10, c11, c12, c13, c14⟩ := Ims.cells h1 a hal
  clear c0 c1 c2 c3 c4 c6 c7 c8 c9 c10 c11 c12 c13 c14 h1 h2
  have hk1 : ((xs.getD a noIm).syms.length : Int) ≤ k := by
    have := HBD.out
    simp only [Int.toNat_natCast] at this
    omega
  have HSY := Lib.hid (show (xs.getD a noIm).syms.length ≤ 140737488355328 from (HF.out.2 _ (getD_mem xs noIm hal)).syms)
  generalize xs.getD a noIm = x at *
  have d3 : decide ((x.syms.length : Int) ≤ k) = true := decide_eq_true hk1
  clear hk0 hi0 hi1 hk1
  go_wp2
  first | go_ret2 | go_ret | skip
  exact ⟨rfl, HB4.out⟩
set_option maxRecDepth 100000 in
set_option maxHeartbeats 4000000 in
theorem weak_good (L : Fd) (e1 e2 : Int) (a m : Nat) (cp : Bool) (A : Option Addr) (c : Nat) (xs : List Im) (w : World) (h : Ims w (fun k => k < w.heap.size) A xs.length c xs) (hf : FitsS xs) (hk : xs.length * 304 ≤ 140737488351232) (hkb : ∀ x ∈ xs, x.syms.length * 88 ≤ 140737488351232) (hi64 : I64 (a : Int)) (hk64 : I64 (m : Int)) (hal : a < xs.length) (hml : m < (xs.getD a noIm).syms.length)
    (hs1 : bindP (a : Int) (m : Int) cp xs = (L, e1)) (hs2 : bindP (a : Int) (m : Int) cp (flipX xs a m) = (L, e2)) (hr : (L.2.2 = true ∧ e1 = 0 ∧ e2 = 0) ∨ (L.2.2 = false ∧ e1 = 141 ∧ e2 = 0) ∨ (L.2.2 = false ∧ e1 = 0 ∧ e2 = 141)) :
    Calls Try.prog 10 #[.int .i64 (a : Int), .int .i64 (m : Int), .bool cp, .slice A xs.length c] w fun e w' => e = .returned (.bool true) ∧ Below w.heap.size w w' := by
  have HI1 := Lib.hid h
  have HF := Lib.hid hf
  have HKB := Lib.hid hkb
  have HB1 := Lib.hid (Below.refl w.heap.size w)
  have HLK := Lib.hid (fun (X : World) (hX : Ims X (fun k => k < X.heap.size) A xs.length c xs) => by
    have q := bind_any (a : Int) (m : Int) cp A xs.length c xs X hX HF.out (by omega) hi64 hk64
    rw [hs1] at q
    exact q)
  have HFF := Lib.hid (show FitsS (flipX xs a m) from by
    refine ⟨by rw [flipX_len]; exact HF.out.1, fun x hx => ?_⟩
    obtain ⟨j, hj, rfl⟩ := List.getElem_of_mem hx
    rw [flipX_len] at hj
    rw [getD_get _ noIm (by rw [flipX_len]; exact hj), flipX_get xs a m j hj]
    split
    · have hfx := HF.out.2 _ (getD_mem xs noIm hal)
      have hmem : ∀ s ∈ flipS (xs.getD a noIm).syms m, ∃ s' ∈ (xs.getD a noIm).syms, s.name = s'.name ∧ s.ver = s'.ver := fun s hs => by
        obtain ⟨j, hj0, rfl⟩ := List.getElem_of_mem hs
        have hj : j < (xs.getD a noIm).syms.length := by rw [flipS_len] at hj0; exact hj0
        rw [getD_get _ noSy hj0, flipS_get _ _ _ hj]
        split
        · exact ⟨_, getD_mem _ noSy hml, rfl, rfl⟩
        · exact ⟨_, getD_mem _ noSy hj, rfl, rfl⟩
      refine ⟨by show (flipS _ _).length ≤ _; rw [flipS_len]; exact hfx.syms, fun s hs => ?_, fun s hs => ?_, hfx.rows, hfx.row, hfx.words⟩
      · obtain ⟨s', h1, h2, h3⟩ := hmem s hs
        rw [h2]; exact hfx.name s' h1
      · obtain ⟨s', h1, h2, h3⟩ := hmem s hs
        rw [h3]; exact hfx.ver s' h1
    · exact HF.out.2 _ (getD_mem xs noIm hj))
  have HLF := Lib.hid (fun (X : World) (A' : Option Addr) (c' : Nat) (hX : Ims X (fun k => k < X.heap.size) A' xs.length c' (flipX xs a m)) => by
    have q := bind_any (a : Int) (m : Int) cp A' xs.length c' (flipX xs a m) X hX HFF.out (by omega) hi64 hk64
    rw [hs2] at q
    exact q)
  have HRR := Lib.hid hr
  clear hf h hi64 hk64 hs1 hs2 hr hkb HFF
  go_enter Try.func10, Try.ntmps10
  go_upto_region 2 with (go_at_call 12; (with_reducible refine (awake_any _).mono ?_); rintro e w2 ⟨rfl, hb2⟩; have HI2 := Lib.hid (HI1.out.lt hb2); have HB2 := Lib.hid (HB1.out.trans (hb2.mono HB1.out.size)); clear hb2 HI1 HB1)
  go_upto_region 3 with (go_at_call 19; (with_reducible refine (HLK.out _ HI2.out).mono ?_); rintro e w3 ⟨rfl, hb3⟩; have HI3 := Lib.hid (HI2.out.lt hb3); have HB3 := Lib.hid (HB2.out.trans (hb3.mono HB2.out.size)); clear HI2 HB2)
  have hbx : Below w3.heap.size w3 (w3.alloc (.cells (fdA L) 29)) := (Below.refl _ _).alloc (Nat.le_refl _) _
  have HFA4 := Lib.hid (Bx.new w3 (fdA L) 29)
  have HI4 := Lib.hid (HI3.out.lt hbx)
  have HB4 := Lib.hid (HB3.out.trans (hbx.mono HB3.out.size))
  clear HI3 HB3
  clear hbx
  change Code.wp _ _ _ _ (w3.alloc (.cells (fdA L) 29))
  generalize (w3.alloc (.cells (fdA L) 29)) = w4 at *
  generalize w3.heap.size = g4 at *
  clear hb3

  have d0 : decide ((a : Int) < 0) = false := decide_eq_false (by omega)
  have d1 : decide ((xs.length : Int) ≤ (a : Int)) = false := decide_eq_false (by omega)
  have a0 : (0 : Int) ≤ (a : Int) := by omega
  have a1 : (a : Int) < (xs.length : Int) := by omega
  have d2 : decide ((m : Int) < 0) = false := decide_eq_false (by omega)
  obtain ⟨-, q, h1, h2⟩ := HI4.out
  have hcap := h1.cap
  have HE := Lib.hid h1
  have HY := Lib.hid h2
  obtain ⟨ad, rfl⟩ : ∃ ad, A = some ad := by
    cases A with
    | none => have := (h1.nil rfl).1; omega
    | some ad => exact ⟨ad, rfl⟩
  obtain ⟨b, o, rfl⟩ := h1.plain (by omega) rfl
  have c5 := (Ims.cells h1 a hal).2.2.2.2.2.1
  clear h1 h2
  have HSY := Lib.hid (show (xs.getD a noIm).syms.length * 88 ≤ 140737488351232 from HKB.out _ (getD_mem xs noIm hal))
  have hsl : (xs.getD a noIm).syms.length * 88 ≤ 140737488351232 := HSY.out
  have d3 : decide (((xs.getD a noIm).syms.length : Int) ≤ (m : Int)) = false := decide_eq_false (by omega)
  obtain ⟨ss, hss⟩ : ∃ ss, ss = (xs.getD a noIm).syms := ⟨_, rfl⟩
  rw [← hss] at c5 d3 hsl hml
  have HSS := Lib.hid hss
  have hsylA := (HY.out a hal).syms
  rw [← hss] at hsylA
  have HSL := Lib.hid hsylA
  clear hsylA hss
  generalize hsA : (q a).sy.1 = sA at *
  generalize hsC : (q a).sy.2 = sC at *
  clear hsA hsC
  generalize hBB : w4.heap.size = B at *
  have HBE := Lib.hid hBB
  clear hBB
  go_upto_region 6 with (fail)
  refine wp_region_lit ?_
  refine wpList_plain rfl fun K hK => ?_
  go_simp
  refine hK _ _ ?_
  clear hK K
  refine wpList_plain rfl fun K hK => ?_
  go_simp
  refine hK _ _ ?_
  clear hK K
  refine app_ims rfl (.tmp 57) (.tmp 58) rfl B (.slice none 0 0) [] xs rfl (OwnI.nil _ _) (fun k => k < B) (some ⟨b, o, none⟩) c q rfl HE.out HY.out (by simp; omega) (by have := HBE.out; omega) ?_
  intro v' w5 hown hgr hat hbel
  obtain ⟨ql, ho1, ho2⟩ := hown.ex
  rw [List.nil_append] at ho1 ho2
  obtain ⟨gl, cl, rfl⟩ := own_some ho1 (by omega)
  have HOL5 := Lib.hid ho1
  have HYL := Lib.hid ho2
  have HBB5 := Lib.hid hbel
  clear hown hgr hat hbel ho1 ho2
  refine wpList_plain rfl fun K hK => ?_
  go_simp
  refine hK _ _ ?_
  clear hK K
  have c5 := (HBB5.out.cell (World.block_lt_of_cell? w4 _ c5 |> fun h => by rw [HBE.out] at h; exact h)).trans c5
  go_upto_region 8 with (fail)
  refine wp_region_lit ?_
  refine wpList_plain rfl fun K hK => ?_
  go_simp
  refine hK _ _ ?_
  clear hK K
  refine wpList_plain rfl fun K hK => ?_
  go_simp
  refine hK _ _ ?_
  clear hK K
  refine wpList_plain rfl fun K hK => ?_
  go_simp
  refine hK _ _ ?_
  clear hK K
  refine wpList_plain rfl fun K hK => ?_
  go_simp
  refine hK _ _ ?_
  clear hK K
  refine wpList_plain rfl fun K hK => ?_
  go_simp
  refine hK _ _ ?_
  clear hK K
  refine wpList_plain rfl fun K hK => ?_
  go_simp
  refine hK _ _ ?_
  clear hK K
  obtain ⟨i0, hi, hz0, hz1, hz2⟩ := info_sym3
  have hsylB : Syl w5 (fun k => k < B) sA ss.length sC ss := HSL.out.keep fun j hj _ => HBB5.out.block j hj
  refine wpList_append_els rfl (.tmp 60) (.tmp 65) 51 rfl B 25 i0 (symV noSy) 9 88 Try.underlying51 hi hz0 hz1 hz2 rfl (by decide) (.slice none 0 0) 0 (fun _ => #[]) rfl (World.ownsRow_nil _ _ _ _) (fun k => k < B) sA ss.length sC (fun k => symA (ss.getD k noSy)) rfl hsylB.els9 (fun _ _ => rfl) (fun k _ => sym_one _) (by simp only [maxLen]; omega) (by omega) (by have := HBB5.out.size; have := HBE.out; omega) ?_
  intro v' w6 hown hgr hat
  rw [Nat.zero_add, flatE_congr (E' := fun k => symA (ss.getD k noSy)) ss.length (fun k _ => by simp)] at hown
  obtain ⟨gs, cs, rfl⟩ := own_some hown (by omega)
  have hb56 : Below w5.heap.size w5 w6 := (Below.refl _ _).grown hgr (Nat.le_refl _) (fun k hk => by cases hk)
  have HBB6 := Lib.hid (HBB5.out.trans (hb56.mono (by have := HBB5.out.size; have := HBE.out; omega)))
  have HOL6 := Lib.hid (own_kept HOL5.out fun k hk => hb56.block k (HOL5.out.lt k hk).2)
  have HNE := Lib.hid (show gl ≠ gs from fun e => by
    have h1 := (HOL5.out.lt gl rfl).2
    rcases hat with e2 | e2
    · cases e2
    · have e3 : some gs = some w5.heap.size := e2
      injection e3 with e3
      omega)
  have HOS6 := Lib.hid hown
  clear hown hgr hat hb56 hsylB hi hz0 hz1 hz2 HOL5 c5
  refine wpList_plain rfl fun K hK => ?_
  go_simp
  refine hK _ _ ?_
  clear hK K
  have hm9 : m < ss.length := hml
  generalize hsm : ss.getD m noSy = s at *
  have HSM := Lib.hid hsm
  have hcw := own_cell9 HOS6.out (j := m * 9 + 4) (u := .bool s.weak) (flatE_get (E := fun k => symA (ss.getD k noSy)) (sz := 9) ss.length (fun _ _ => rfl) m hm9 4 _ (by show (symA (ss.getD m noSy))[4]? = _; rw [hsm]; rfl))
  obtain ⟨cw, fw⟩ := hcw
  clear hsm
  have m0 : (0 : Int) ≤ (m : Int) := by omega
  have m1 : (m : Int) < (ss.length : Int) := by omega
  have hscap : ss.length ≤ cs := by
    rcases HOS6.out.2 with ⟨e, _⟩ | ⟨g, cap, cur, hv, _, _, hle, _⟩
    · cases e
    · injection hv with _ _ e; subst e; exact hle
  have hlcap : xs.length ≤ cl := by
    rcases HOL6.out.2 with ⟨e, _⟩ | ⟨g, cap, cur, hv, _, _, hle, _⟩
    · cases e
    · injection hv with _ _ e; subst e; exact hle
  go_upto_region 10 with (fail)
  have hfr : ∀ k, k ≠ gs → (w6.setCell ⟨gs, m * 9 + 4, none⟩ (.bool (!s.weak))).heap[k]? = w6.heap[k]? := fun k hk => heap_setCell_other w6 ⟨gs, m * 9 + 4, none⟩ k _ hk
  have HOS7 := Lib.hid (show (w6.setCell ⟨gs, m * 9 + 4, none⟩ (.bool (!s.weak))).ownsRow B 25 9 (.slice (some ⟨gs, 0, none⟩) ss.length cs) ss.length (flatE (fun k => symA ((flipS ss m).getD k noSy)) ss.length) from by
    have q := own_put HOS6.out (m * 9 + 4) (.bool (!s.weak))
    rw [flatE_set (sz := 9) _ m 4 _ (by decide) ss.length hm9 (fun _ _ => rfl), flatE_congr (E' := fun k => symA ((flipS ss m).getD k noSy)) ss.length (fun k hk => ?_)] at q
    · exact q
    · rw [flipS_get ss m k hk]
      by_cases e : k = m
      · rw [if_pos e, if_pos e, HSM.out]; rfl
      · rw [if_neg e, if_neg e])
  have HOL7 := Lib.hid (own_kept HOL6.out (w' := w6.setCell ⟨gs, m * 9 + 4, none⟩ (.bool (!s.weak))) fun k hk => hfr k (by have := HNE.out; simp [Value.ownBlock] at hk; omega))
  have hgsB := (HOS6.out.lt gs rfl).1
  have HBB7 := Lib.hid (show Below B w4 (w6.setCell ⟨gs, m * 9 + 4, none⟩ (.bool (!s.weak))) from HBB6.out.setCell (p := ⟨gs, m * 9 + 4, none⟩) hgsB _)
  clear hfr HOS6 HOL6 HBB6 cw fw
  generalize w6.setCell ⟨gs, m * 9 + 4, none⟩ (.bool (!s.weak)) = w7 at *
  obtain ⟨cx, fx⟩ := own_cell9 HOL7.out (j := a * 15 + 5) (flatE_get (E := fun k => imA (ql k) (xs.getD k noIm)) (sz := 15) xs.length (fun _ _ => rfl) a hal 5 _ rfl)
  go_upto_region 11 with (fail)
  have hfr : ∀ k, k ≠ gl → (w7.setCell ⟨gl, a * 15 + 5, none⟩ (.slice (some ⟨gs, 0, none⟩) ss.length cs)).heap[k]? = w7.heap[k]? := fun k hk => heap_setCell_other w7 ⟨gl, a * 15 + 5, none⟩ k _ hk
  have hglB := (HOL7.out.lt gl rfl).1
  have HBB8 := Lib.hid (show Below B w4 (w7.setCell ⟨gl, a * 15 + 5, none⟩ (.slice (some ⟨gs, 0, none⟩) ss.length cs)) from HBB7.out.setCell (p := ⟨gl, a * 15 + 5, none⟩) hglB _)
  have HOS8 := Lib.hid (own_kept HOS7.out (w' := w7.setCell ⟨gl, a * 15 + 5, none⟩ (.slice (some ⟨gs, 0, none⟩) ss.length cs)) fun k hk => hfr k (by have := HNE.out; simp [Value.ownBlock] at hk; omega))
  have HOL8 := Lib.hid (own_put HOL7.out (a * 15 + 5) (.slice (some ⟨gs, 0, none⟩) ss.length cs))
  clear hfr HOS7 HOL7 HBB7 cx fx
  generalize w7.setCell ⟨gl, a * 15 + 5, none⟩ (.slice (some ⟨gs, 0, none⟩) ss.length cs) = w8 at *
  have HI8 := Lib.hid (show Ims w8 (fun k => k < w8.heap.size) (some ⟨gl, 0, none⟩) xs.length cl (flipX xs a m) from by
    have hbs : B ≤ w8.heap.size := by have := HBB8.out.size; have := HBE.out; omega
    refine ⟨flipX_len _ _ _, fun k => if k = a then { ql a with sy := (some ⟨gs, 0, none⟩, cs) } else ql k, ?_, fun k hk => ?_⟩
    · have q := HOL8.out
      rw [flatE_set (sz := 15) _ a 5 _ (by decide) xs.length hal (fun _ _ => rfl), flatE_congr (E' := fun k => imA (if k = a then { ql a with sy := (some ⟨gs, 0, none⟩, cs) } else ql k) ((flipX xs a m).getD k noIm)) xs.length (fun k hk => ?_)] at q
      · exact (els_of_own (E := fun k => imA (if k = a then { ql a with sy := (some ⟨gs, 0, none⟩, cs) } else ql k) ((flipX xs a m).getD k noIm)) (fun _ _ => rfl) q).weak fun k hk => hk.2
      · rw [flipX_get xs a m k hk]
        by_cases e : k = a
        · rw [if_pos e, if_pos e, if_pos e]
          exact flip_cells (ql a) (xs.getD a noIm) m (some ⟨gs, 0, none⟩) cs (by rw [HSS.out])
        · rw [if_neg e, if_neg e, if_neg e]
    · rw [flipX_get xs a m k hk]
      show SyIn w8 _ (if k = a then { ql a with sy := (some ⟨gs, 0, none⟩, cs) } else ql k) _
      by_cases e : k = a
      · rw [if_pos e, if_pos e]
        have hy := (HYL.out a hal).keep (w' := w8) fun j hj hl => (HBB8.out.block j hj).trans (HBB5.out.block j hj).symm
        refine ⟨?_, hy.tab.weak fun j hj => by omega⟩
        show Syl w8 _ (some ⟨gs, 0, none⟩) (flipS (xs.getD a noIm).syms m).length cs (flipS (xs.getD a noIm).syms m)
        rw [← HSS.out]
        have q := (els_of_own (E := fun k => symA ((flipS ss m).getD k noSy)) (fun _ _ => rfl) HOS8.out).weak (Q := fun k => k < w8.heap.size) fun k hk => hk.2
        rw [show ss.length = (flipS ss m).length from (flipS_len ss m).symm] at q
        exact syl_of_els q
      · rw [if_neg e, if_neg e]
        exact ((HYL.out k hk).keep (w' := w8) fun j hj hl => (HBB8.out.block j hj).trans (HBB5.out.block j hj).symm).weak fun j hj => by omega)
  have HFA8 := Lib.hid (HFA4.out.below (by rw [HBE.out]; exact HBB8.out))
  have HB8 := Lib.hid (HB4.out.trans (HBB8.out.mono (by have := HB4.out.size; have := HBE.out; omega)))
  clear HOS8 HOL8 HBB8 HBB5 HYL HY HE HSL HSS HI4 HFA4 HB4 HNE HF HKB HSY HLK hsl hlcap hscap hcap HBE hgsB hglB hm9
  go_upto_region 12 with (go_at_call 19; (with_reducible refine (HLF.out _ _ _ HI8.out).mono ?_); rintro e w9 ⟨rfl, hb9⟩; have HFA9 := Lib.hid (HFA8.out.below hb9); have HB9 := Lib.hid (HB8.out.trans (hb9.mono HB8.out.size)); clear hb9 HI8 HFA8 HB8)
  have hbx : Below w9.heap.size w9 (w9.alloc (.cells (fdA L) 29)) := (Below.refl _ _).alloc (Nat.le_refl _) _
  have HFB10 := Lib.hid (Bx.new w9 (fdA L) 29)
  have HFA10 := Lib.hid (HFA9.out.below hbx)
  have HB10 := Lib.hid (HB9.out.trans (hbx.mono HB9.out.size))
  clear HFA9 HB9
  clear hbx
  change Code.wp _ _ _ _ (w9.alloc (.cells (fdA L) 29))
  generalize (w9.alloc (.cells (fdA L) 29)) = w10 at *
  generalize w9.heap.size = g10 at *
  obtain ⟨l0, l1, l2⟩ := L
  have x0 := HFA10.out.c 0
  have x1 := HFA10.out.c 1
  have x2 := HFA10.out.c 2
  have z0 := HFB10.out.c 0
  have z1 := HFB10.out.c 1
  have z2 := HFB10.out.c 2
  rcases HRR.out with ⟨hl2, rfl, rfl⟩ | ⟨hl2, rfl, rfl⟩ | ⟨hl2, rfl, rfl⟩
  · obtain rfl : l2 = true := hl2
    have q1 := fun X => fd_eql (l0, l1, true) X
    clear HRR HLF
    go_wp2
    first | go_ret2 | go_ret | skip
    exact ⟨rfl, HB10.out⟩
  · obtain rfl : l2 = false := hl2
    have q1 := fun X => fd_eql (l0, l1, false) X
    clear HRR HLF
    go_wp2
    first | go_ret2 | go_ret | skip
    exact ⟨rfl, HB10.out⟩
  · obtain rfl : l2 = false := hl2
    have q1 := fun X => fd_eql (l0, l1, false) X
    clear HRR HLF
    go_wp2
    first | go_ret2 | go_ret | skip
    exact ⟨rfl, HB10.out⟩
theorem weak_any (i k : Int) (cp : Bool) (A : Option Addr) (n c : Nat) (xs : List Im) (w : World) (h : Ims w (fun k => k < w.heap.size) A n c xs) (hf : FitsS xs) (hk : n * 304 ≤ 140737488351232) (hkb : ∀ x ∈ xs, x.syms.length * 88 ≤ 140737488351232) (hi64 : I64 i) (hk64 : I64 k) :
    Calls Try.prog 10 #[.int .i64 i, .int .i64 k, .bool cp, .slice A n c] w fun e w' => e = .returned (.bool true) ∧ Below w.heap.size w w' := by
  obtain rfl := h.len
  by_cases hb : i < 0 ∨ (xs.length : Int) ≤ i ∨ k < 0 ∨ ((xs.getD i.toNat noIm).syms.length : Int) ≤ k
  · exact weak_bad i k cp A c xs w h hf (by omega) hi64 hk64 hb
  · obtain ⟨a, rfl⟩ : ∃ a : Nat, i = (a : Int) := ⟨i.toNat, by omega⟩
    obtain ⟨m, rfl⟩ : ∃ m : Nat, k = (m : Int) := ⟨k.toNat, by omega⟩
    simp only [Int.toNat_natCast] at hb
    have hal : a < xs.length := by omega
    have hml : m < (xs.getD a noIm).syms.length := by omega
    rcases weak_spec cp xs a m hal hml with ⟨p, q, h1, h2⟩ | ⟨h1, h2⟩ | ⟨h1, h2⟩
    · exact weak_good (p, q, true) 0 0 a m cp A c xs w h hf hk hkb hi64 hk64 hal hml h1 h2 (.inl ⟨rfl, rfl, rfl⟩)
    · exact weak_good (0, 0, false) 141 0 a m cp A c xs w h hf hk hkb hi64 hk64 hal hml h1 h2 (.inr (.inl ⟨rfl, rfl, rfl⟩))
    · exact weak_good (0, 0, false) 0 141 a m cp A c xs w h hf hk hkb hi64 hk64 hal hml h1 h2 (.inr (.inr ⟨rfl, rfl, rfl⟩))
end Go.Proofs.Ytpcgedngikpnoaa
