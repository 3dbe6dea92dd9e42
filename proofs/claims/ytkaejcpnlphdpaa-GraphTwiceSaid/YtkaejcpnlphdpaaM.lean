/-
  The document's examples.
-/
import Derived.Test.YtkaejcpnlphdpaaL
namespace Go.Proofs.Ytkaejcpnlphdpaa
open Go.RowKit

def exG : Gr := [[1, 2], [3], [3], [0]]
theorem ex_bfs : bfs exG [0] = [0, 1, 2, 3] := by decide
theorem ex_post : ∃ C', D exG (once [] []) [] [0] C' [3, 1, 2, 0] := by
  refine ⟨[0, 1, 3, 2], ?_⟩
  refine D.go (C1 := [0, 1, 3, 2]) (o1 := [3, 1, 2]) (by decide) ?_ (D.nil _ _)
  refine D.go (C1 := [0, 1, 3]) (o1 := [3]) (by decide) ?_ ?_
  · refine D.go (C1 := [0, 1, 3]) (o1 := []) (by decide) ?_ (D.nil _ _)
    exact D.skip (by decide) (D.nil _ _)
  · refine D.go (C1 := [0, 1, 3, 2]) (o1 := [3, 1]) (by decide) ?_ (D.nil _ _)
    exact D.skip (by decide) (D.nil _ _)
theorem ex_post1 : ∃ C', D exG (once [] [1]) [] [0] C' [3, 2, 0] := by
  refine ⟨[1, 0, 2, 3], ?_⟩
  refine D.go (C1 := [1, 0, 2, 3]) (o1 := [3, 2]) (by decide) ?_ (D.nil _ _)
  refine D.skip (by decide) ?_
  refine D.go (C1 := [1, 0, 2, 3]) (o1 := [3]) (by decide) ?_ (D.nil _ _)
  refine D.go (C1 := [1, 0, 2, 3]) (o1 := []) (by decide) ?_ (D.nil _ _)
  exact D.skip (by decide) (D.nil _ _)
abbrev exW (s k : Nat) : Option Addr × Nat := (some ⟨s + k, 0, none⟩, (exG.getD k []).length)
abbrev exA (w : World) : World := (((w.alloc (.cells #[.int .i64 1, .int .i64 2] 3)).alloc (.cells #[.int .i64 3] 3)).alloc (.cells #[.int .i64 3] 3)).alloc (.cells #[.int .i64 0] 3)
abbrev exB (w : World) : World := (exA w).alloc (.cells #[.slice (some ⟨w.heap.size, 0, none⟩) 2 2, .slice (some ⟨w.heap.size + 1, 0, none⟩) 1 1, .slice (some ⟨w.heap.size + 2, 0, none⟩) 1 1, .slice (some ⟨w.heap.size + 3, 0, none⟩) 1 1] 23)
theorem ex_below (w : World) : Below w.heap.size w (exB w) :=
  (((((Below.refl _ w).alloc (Nat.le_refl _) _).alloc (by simp) _).alloc (by simp; omega) _).alloc (by simp; omega) _).alloc (by simp; omega) _
theorem src_of {w : World} {g : Nat} {e : TypeId} {vs : List Value} (h : Bx w g vs.toArray e) (Q : Nat → Prop) (hQ : Q g) : Src w Q (some ⟨g, 0, none⟩) vs.length vs.length vs := by
  refine ⟨rfl, (by intro h; cases h), Nat.le_refl _, (by intro ad h _; cases h; exact hQ), ?_⟩
  intro ad hA j u hu
  cases hA
  have h1 := h.c j
  rw [List.getElem?_toArray, hu] at h1
  have e : ((⟨g, 0, none⟩ : Addr).add j) = ⟨g, j, none⟩ := by unfold Addr.add; split <;> simp_all
  rw [e]
  exact h1
theorem ex_ed (w : World) : Ed (exB w) (fun _ => True) (some ⟨w.heap.size + 4, 0, none⟩) 4 (exW w.heap.size) exG := by
  have z1 : (w.alloc (.cells #[.int .i64 1, .int .i64 2] 3)).heap.size = w.heap.size + 1 := alloc_size _ _
  have z2 : ((w.alloc (.cells #[.int .i64 1, .int .i64 2] 3)).alloc (.cells #[.int .i64 3] 3)).heap.size = w.heap.size + 2 := by rw [alloc_size, z1]
  have z3 : (((w.alloc (.cells #[.int .i64 1, .int .i64 2] 3)).alloc (.cells #[.int .i64 3] 3)).alloc (.cells #[.int .i64 3] 3)).heap.size = w.heap.size + 3 := by rw [alloc_size, z2]
  have z4 : (exA w).heap.size = w.heap.size + 4 := by rw [alloc_size, z3]
  have b0 := Bx.new w #[.int .i64 1, .int .i64 2] 3
  have b1 := Bx.new (w.alloc (.cells #[.int .i64 1, .int .i64 2] 3)) #[.int .i64 3] 3
  rw [z1] at b1
  have b2 := Bx.new ((w.alloc (.cells #[.int .i64 1, .int .i64 2] 3)).alloc (.cells #[.int .i64 3] 3)) #[.int .i64 3] 3
  rw [z2] at b2
  have b3 := Bx.new (((w.alloc (.cells #[.int .i64 1, .int .i64 2] 3)).alloc (.cells #[.int .i64 3] 3)).alloc (.cells #[.int .i64 3] 3)) #[.int .i64 0] 3
  rw [z3] at b3
  have b4 := Bx.new (exA w) #[.slice (some ⟨w.heap.size, 0, none⟩) 2 2, .slice (some ⟨w.heap.size + 1, 0, none⟩) 1 1, .slice (some ⟨w.heap.size + 2, 0, none⟩) 1 1, .slice (some ⟨w.heap.size + 3, 0, none⟩) 1 1] 23
  rw [z4] at b4
  have al : ∀ {W : World} {g : Nat} {cs : Array Value} {t : TypeId} (o : Obj), Bx W g cs t → Bx (W.alloc o) g cs t := fun o h => h.keep (Below.heap_alloc _ o _ h.lt)
  refine ⟨src_of (vs := [.slice (some ⟨w.heap.size, 0, none⟩) 2 2, .slice (some ⟨w.heap.size + 1, 0, none⟩) 1 1, .slice (some ⟨w.heap.size + 2, 0, none⟩) 1 1, .slice (some ⟨w.heap.size + 3, 0, none⟩) 1 1]) b4 _ trivial, fun k hk => ?_, by decide, fun k hk => ?_⟩
  · match k, hk with
    | 0, _ => exact src_of (vs := [.int .i64 1, .int .i64 2]) (al _ (al _ (al _ (al _ b0)))) _ trivial
    | 1, _ => exact src_of (vs := [.int .i64 3]) (al _ (al _ (al _ b1))) _ trivial
    | 2, _ => exact src_of (vs := [.int .i64 3]) (al _ (al _ b2)) _ trivial
    | 3, _ => exact src_of (vs := [.int .i64 0]) (al _ b3) _ trivial
    | k + 4, hk => exact absurd hk (by simp [exG])
  · match k, hk with
    | 0, _ => exact Nat.le_of_ble_eq_true rfl
    | 1, _ => exact Nat.le_of_ble_eq_true rfl
    | 2, _ => exact Nat.le_of_ble_eq_true rfl
    | 3, _ => exact Nat.le_of_ble_eq_true rfl
    | k + 4, hk => exact absurd hk (by simp [exG])
theorem breadth_ok (Q Q2 : Nat → Prop) (E A : Option Addr) (ce c : Nat) (ws : Nat → Option Addr × Nat) (g : Gr) (r : List Int) (w : World) (h : Ed w Q E ce ws g) (h2 : Src w Q2 A r.length c (ints r)) (hn2 : r.length ≤ 4611686018427387904) (hok : okB g r = true) :
    Calls Try.prog 11 #[.slice E g.length ce, .slice A r.length c] w fun e w' => ∃ O co, e = .returned (.tuple #[.slice O (bfs g r).length co, .int .i64 0]) ∧ w'.ownsRow w.heap.size 3 1 (.slice O (bfs g r).length co) (bfs g r).length (ints (bfs g r)) ∧ Below w.heap.size w w' :=
  (breadth_any Q Q2 E A ce c ws g r w h h2 hn2).mono fun e w' hh => by
    rcases hh with ⟨h1, _⟩ | ⟨_, h1⟩
    · rw [hok] at h1; cases h1
    · exact h1
theorem post_ok (Q Q2 : Nat → Prop) (E A : Option Addr) (ce c : Nat) (ws : Nat → Option Addr × Nat) (g : Gr) (root : Int) (done : List Int) (C' o' : List Int) (w : World) (h : Ed w Q E ce ws g) (h2 : Src w Q2 A done.length c (ints done)) (hn2 : done.length ≤ 4611686018427387904)
    (hok : okP g root done = true) (hd : D g (once [] done) [] [root] C' o') :
    Calls Try.prog 19 #[.slice E g.length ce, .int .i64 root, .slice A done.length c] w fun e w' => ∃ O co, e = .returned (.tuple #[.slice O o'.length co, .int .i64 0]) ∧ w'.ownsRow w.heap.size 3 1 (.slice O o'.length co) o'.length (ints o') ∧ Below w.heap.size w w' :=
  (post_any Q Q2 E A ce c ws g root done C' o' w h h2 hn2 fun _ => hd).mono fun e w' hh => by
    rcases hh with ⟨h1, _⟩ | ⟨_, h1⟩
    · rw [hok] at h1; cases h1
    · exact h1
theorem src_nil (w : World) (Q : Nat → Prop) : Src w Q none 0 0 [] := ⟨rfl, fun _ => ⟨rfl, rfl⟩, Nat.le_refl _, (by intro ad h; cases h), (by intro ad h; cases h)⟩
theorem same_lit {w5 W : World} (l : List Int) (A : Option Addr) (c : Nat) (hs : Src w5 (fun k => k < w5.heap.size) A l.length c (ints l)) (hl : l.length ≤ 4611686018427387904) (hb : Below w5.heap.size w5 W) :
    Calls Try.prog 17 #[.slice A l.length c, .slice (some ⟨W.heap.size, 0, none⟩) l.length l.length] (W.alloc (.cells (ints l).toArray 3)) fun e w' => e = .returned (.bool true) ∧ Below w5.heap.size w5 w' := by
  have h1 := src_lit W (ints l) 3 (fun _ => True) trivial
  rw [List.length_map] at h1
  exact (same_yes _ (fun _ => True) A (some ⟨W.heap.size, 0, none⟩) c l.length l (W.alloc (.cells (ints l).toArray 3)) ((hs.below hb (fun _ h => h)).below ((Below.refl w5.heap.size W).alloc hb.size _) (fun _ h => h)) h1 hl).mono
    fun e w' hh => ⟨hh.1, (hb.alloc hb.size _).trans (hh.2.mono (by rw [alloc_size]; have := hb.size; omega))⟩
set_option maxRecDepth 100000 in
set_option maxHeartbeats 4000000 in
theorem awake_any (w : World) : Calls Try.prog 9 #[] w fun e w' => e = .returned (.bool true) ∧ Below w.heap.size w w' := by
  have HED := Lib.hid (ex_ed w)
  have HBE := Lib.hid (ex_below w)
  obtain ⟨C1, hd1⟩ := ex_post
  obtain ⟨C2, hd2⟩ := ex_post1
  have HD1 := Lib.hid hd1
  have HD2 := Lib.hid hd2
  clear hd1 hd2
  go_enter Try.func9, Try.ntmps9
  go_upto_region 2 with (fail)
  change Code.wp _ _ _ _ (exB w)
  generalize exB w = w1 at *
  generalize w.heap.size + 4 = s4 at *
  have HSL := Lib.hid (src_lit w1 [.int .i64 0] 3 (fun _ => True) trivial)
  have HB2 := Lib.hid (HBE.out.alloc HBE.out.size (.cells #[.int .i64 0] 3))
  have HE2 := Lib.hid (HED.out.lt.below ((Below.refl w1.heap.size w1).alloc (Nat.le_refl _) (.cells #[.int .i64 0] 3)) (fun _ h => h))
  have HBR := Lib.hid (breadth_ok _ _ _ _ 4 1 _ exG [0] _ HE2.out HSL.out (by simp) (by decide))
  rw [ex_bfs] at HBR
  clear HSL HBE HED
  go_upto_region 3 with (go_at_call 11; refine HBR.out.mono ?_; rintro e w2 ⟨O2, co2, rfl, ho2, hb2⟩; have HO2 := Lib.hid ho2; have HB2b := Lib.hid (HB2.out.trans (hb2.mono HB2.out.size)); have HE2b := Lib.hid (HE2.out.lt.below hb2 (fun _ h => h)); clear ho2 hb2)
  have HPO := Lib.hid (post_ok _ _ _ none 4 0 _ exG 0 [] C1 [3, 1, 2, 0] w2 HE2b.out (src_nil w2 (fun _ => True)) (by simp) (by decide) HD1.out)
  clear HBR HE2 HB2
  go_upto_region 4 with (go_at_call 19; refine HPO.out.mono ?_; rintro e w3 ⟨O3, co3, rfl, ho3, hb3⟩; have HO3 := Lib.hid ho3; have HB3 := Lib.hid (HB2b.out.trans (hb3.mono HB2b.out.size)); have HE3 := Lib.hid (HE2b.out.lt.below hb3 (fun _ h => h)); have HO2c := Lib.hid (own_kept HO2.out fun k hk => hb3.block k (HO2.out.lt k hk).2); clear ho3 hb3)
  have HSL := Lib.hid (src_lit w3 [.int .i64 1] 3 (fun _ => True) trivial)
  have hal := (Below.refl w3.heap.size w3).alloc (Nat.le_refl _) (.cells #[.int .i64 1] 3)
  have HB4 := Lib.hid (HB3.out.alloc HB3.out.size (.cells #[.int .i64 1] 3))
  have HE4 := Lib.hid (HE3.out.lt.below hal (fun _ h => h))
  have HO4 := Lib.hid (And.intro (own_kept HO2c.out fun k hk => hal.block k (HO2c.out.lt k hk).2) (own_kept HO3.out fun k hk => hal.block k (HO3.out.lt k hk).2))
  have HPO2 := Lib.hid (post_ok _ _ _ _ 4 1 _ exG 0 [1] C2 [3, 2, 0] _ HE4.out HSL.out (by simp) (by decide) HD2.out)
  clear hal HPO HSL HE2b HB2b HO2 HO2c HO3 HE3 HB3
  go_upto_region 5 with (go_at_call 19; refine HPO2.out.mono ?_; rintro e w5 ⟨O5, co5, rfl, ho5, hb5⟩; have HO5 := Lib.hid (And.intro (own_kept HO4.out.1 fun k hk => hb5.block k (HO4.out.1.lt k hk).2) (And.intro (own_kept HO4.out.2 fun k hk => hb5.block k (HO4.out.2.lt k hk).2) ho5)); have HB5 := Lib.hid (HB4.out.trans (hb5.mono HB4.out.size)); clear ho5 hb5)
  clear HPO2 HO4 HE4 HB4
  have HS1 := Lib.hid (Src.of_own HO5.out.1).lt
  have HS2 := Lib.hid (Src.of_own HO5.out.2.1).lt
  have HS3 := Lib.hid (Src.of_own HO5.out.2.2).lt
  have HC1 := Lib.hid (fun (W : World) (hb : Below w5.heap.size w5 W) => show Calls Try.prog 17 #[.slice O2 4 co2, .slice (some ⟨W.heap.size, 0, none⟩) 4 4] (W.alloc (.cells #[.int .i64 0, .int .i64 1, .int .i64 2, .int .i64 3] 3)) (fun e w' => e = .returned (.bool true) ∧ Below w5.heap.size w5 w') from same_lit [0, 1, 2, 3] O2 co2 HS1.out (by simp) hb)
  have HC2 := Lib.hid (fun (W : World) (hb : Below w5.heap.size w5 W) => show Calls Try.prog 17 #[.slice O3 4 co3, .slice (some ⟨W.heap.size, 0, none⟩) 4 4] (W.alloc (.cells #[.int .i64 3, .int .i64 1, .int .i64 2, .int .i64 0] 3)) (fun e w' => e = .returned (.bool true) ∧ Below w5.heap.size w5 w') from same_lit [3, 1, 2, 0] O3 co3 HS2.out (by simp) hb)
  have HC3 := Lib.hid (fun (W : World) (hb : Below w5.heap.size w5 W) => show Calls Try.prog 17 #[.slice O5 3 co5, .slice (some ⟨W.heap.size, 0, none⟩) 3 3] (W.alloc (.cells #[.int .i64 3, .int .i64 2, .int .i64 0] 3)) (fun e w' => e = .returned (.bool true) ∧ Below w5.heap.size w5 w') from same_lit [3, 2, 0] O5 co5 HS3.out (by simp) hb)
  clear HS1 HS2 HS3 HO5
  have HR5 := Lib.hid (Below.refl w5.heap.size w5)
  go_wp2_with fail
  refine (HC1.out _ HR5.out).mono ?_
  rintro e w6 ⟨rfl, hb6⟩
  have HB6 := Lib.hid hb6
  clear hb6
  go_wp2_with fail
  refine (HC2.out _ HB6.out).mono ?_
  rintro e w7 ⟨rfl, hb7⟩
  have HB7 := Lib.hid hb7
  clear hb7
  go_wp2_with fail
  refine (HC3.out _ HB7.out).mono ?_
  rintro e w8 ⟨rfl, hb8⟩
  have HB8 := Lib.hid hb8
  clear hb8
  go_wp2_with fail
  go_ret
  exact ⟨rfl, HB5.out.trans (HB8.out.mono HB5.out.size)⟩
end Go.Proofs.Ytkaejcpnlphdpaa
