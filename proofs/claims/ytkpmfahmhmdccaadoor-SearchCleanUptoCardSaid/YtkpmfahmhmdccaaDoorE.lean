/-
  All candidates of a name without a slash.
-/
import Derived.Test.YtkpmfahmhmdccaaDoorC
import Derived.Test.YtkpmfahmhmdccaaDoorD
import Derived.Deep.Cut
import Derived.Laws.EntriesVeiled
import Derived.StillTailTactics
namespace Go.Proofs.YtkpmfahmhmdccaaDoor
open Go.RowKit

/-- The boxes that a search begins with. -/
def W5 (w : World) (nm o : Str) (e : Array Value) : World :=
  ((((w.alloc (.cells #[str nm] 9)).alloc (.cells #[str o] 9)).alloc (.cells e 25)).alloc (.cells #[.slice none 0 0] 22)).alloc (.cells #[addF (w.heap.size + 1 + 1 + 1)] 55)
theorem five (w : World) (nm o : Str) (e : Array Value) : Below w.heap.size w (W5 w nm o e) ∧ (W5 w nm o e).heap.size = w.heap.size + 5 ∧ Bx (W5 w nm o e) w.heap.size #[str nm] 9 ∧ Bx (W5 w nm o e) (w.heap.size + 1) #[str o] 9 ∧
    Bx (W5 w nm o e) (w.heap.size + 1 + 1) e 25 ∧ Bx (W5 w nm o e) (w.heap.size + 1 + 1 + 1) #[.slice none 0 0] 22 ∧ Bx (W5 w nm o e) (w.heap.size + 1 + 1 + 1 + 1) #[addF (w.heap.size + 1 + 1 + 1)] 55 := by
  unfold W5
  generalize hg : addF (w.heap.size + 1 + 1 + 1) = z
  clear hg
  have b0 := Bx.new w #[str nm] 9
  have l0 := (Below.refl w.heap.size w).alloc (Nat.le_refl _) (.cells #[str nm] 9)
  have s0 : (w.alloc (.cells #[str nm] 9)).heap.size = w.heap.size + 1 := by simp
  generalize w.alloc (.cells #[str nm] 9) = w0 at *
  have b1 := Bx.new w0 #[str o] 9
  have c0 := b0.alloc (.cells #[str o] 9)
  have l1 := l0.alloc l0.size (.cells #[str o] 9)
  have s1 : (w0.alloc (.cells #[str o] 9)).heap.size = w0.heap.size + 1 := by simp
  generalize w0.alloc (.cells #[str o] 9) = w1 at *
  have b2 := Bx.new w1 e 25
  have c1 := b1.alloc (.cells e 25)
  have d0 := c0.alloc (.cells e 25)
  have l2 := l1.alloc l1.size (.cells e 25)
  have s2 : (w1.alloc (.cells e 25)).heap.size = w1.heap.size + 1 := by simp
  generalize w1.alloc (.cells e 25) = w2 at *
  have b3 := Bx.new w2 #[.slice none 0 0] 22
  have c2 := b2.alloc (.cells #[.slice none 0 0] 22)
  have d1 := c1.alloc (.cells #[.slice none 0 0] 22)
  have e0 := d0.alloc (.cells #[.slice none 0 0] 22)
  have l3 := l2.alloc l2.size (.cells #[.slice none 0 0] 22)
  have s3 : (w2.alloc (.cells #[.slice none 0 0] 22)).heap.size = w2.heap.size + 1 := by simp
  generalize w2.alloc (.cells #[.slice none 0 0] 22) = w3 at *
  have b4 := Bx.new w3 #[z] 55
  have c3 := b3.alloc (.cells #[z] 55)
  have d2 := c2.alloc (.cells #[z] 55)
  have e1 := d1.alloc (.cells #[z] 55)
  have f0 := e0.alloc (.cells #[z] 55)
  have l4 := l3.alloc l3.size (.cells #[z] 55)
  have s4 : (w3.alloc (.cells #[z] 55)).heap.size = w3.heap.size + 1 := by simp
  rw [s3, s2, s1, s0] at b4
  rw [s2, s1, s0] at c3
  rw [s1, s0] at d2
  rw [s0] at e1
  exact ⟨l4, by rw [s4, s3, s2, s1, s0], f0, e1, d2, c3, b4⟩

/-- What holds all through a search. -/
structure Run (s : Nat) (P Q : Nat → Prop) (nm o : Str) (e : Array Value) (w5 : World) : Prop where
  b0 : Bx w5 s #[str nm] 9
  b1 : Bx w5 (s + 1) #[str o] 9
  b2 : Bx w5 (s + 1 + 1) e 25
  b4 : Bx w5 (s + 1 + 1 + 1 + 1) #[addF (s + 1 + 1 + 1)] 55
  ml : Ml w5
  p0 : P 0
  ps : P s
  p1 : P (s + 1)
  p2 : P (s + 1 + 1)
  p4 : P (s + 1 + 1 + 1 + 1)
  pq : ∀ k, Q k → P k
theorem run_in {s : Nat} {P Q : Nat → Prop} {nm o : Str} {e : Array Value} {w5 W : World} (h : Run s P Q nm o e w5) (P' R : Nat → Prop) (A : Option Addr) (c : Nat) (ds L : List Str) (hk : Kept P w5 W) (hp : PB P' W (s + 1 + 1 + 1) L) (hw : ∀ k, P k → P' k) (hd : Src W R A ds.length c (strs ds)) (hr : ∀ k, R k → P' k)
    (lo : o.length ≤ 140737488351232) (ln : nm.length ≤ 200) (ld : ∀ d ∈ ds, d.length ≤ 140737488351232) (hL : (L.length + ds.length + 1) * 16 ≤ 140737488355328) :
    Calls Tryd.prog 27 #[.slice A ds.length c, .pointer (some ⟨s + 1, 0, none⟩), .pointer (some ⟨s + 1 + 1 + 1 + 1, 0, none⟩), .pointer (some ⟨s, 0, none⟩)] W fun e w' => e = .returned (.tuple #[]) ∧ PB P' w' (s + 1 + 1 + 1) (L ++ inD o nm ds) ∧ Kept P' W w' :=
  addIn_any P' R o nm A c ds _ _ _ _ L W hp (hk.ml h.ml h.p0) hd hr (hw _ h.p0) (h.b1.keep (hk.block _ h.p1)) (h.b4.keep (hk.block _ h.p4)) (h.b0.keep (hk.block _ h.ps)) (hw _ h.p1) (hw _ h.p4) (hw _ h.ps) lo ln ld hL

theorem len_last (o nm : Str) (rp ps : List Str) (kn : List (Str × Str)) (hL : (rp.length + ps.length + 10) * 16 ≤ 140737488355328) : (([] ++ inD o nm rp ++ inD o nm ps ++ cacheP nm kn).length + [libS, usrS].length + 1) * 16 ≤ 140737488355328 := by
  have h5 : ∀ a b c d x y : Nat, a ≤ x → b ≤ y → c ≤ 1 → d = 2 → 0 + a + b + c + d + 1 ≤ x + y + 10 := by intros; omega
  rw [List.length_append, List.length_append, List.length_append, List.length_nil]
  exact Nat.le_trans (Nat.mul_le_mul_right 16 (h5 _ _ _ _ _ _ (inD_len o nm rp) (inD_len o nm ps) (cacheP_len nm kn) rfl)) hL
theorem last_len : ∀ d ∈ [libS, usrS], d.length ≤ 140737488351232 := by
  intro d hd
  simp at hd
  rcases hd with rfl | rfl <;> simp
/-- The end, behind what is known. -/
theorem run_last {s : Nat} {P Q : Nat → Prop} {nm o : Str} {e : Array Value} {w w5 : World} (h : Run s P Q nm o e w5) (hw : Below s w w5) (hps : ∀ k, k < s → P k) (rp ps : List Str) (kn : List (Str × Str)) (lo : o.length ≤ 140737488351232) (ln : nm.length ≤ 200) (hL : (rp.length + ps.length + 10) * 16 ≤ 140737488355328)
    (W : World) (M : List Str) (hM : M = cacheP nm kn) (hp : PB P W (s + 1 + 1 + 1) ([] ++ inD o nm rp ++ inD o nm ps ++ M)) (hk : Kept P w5 W) :
    Calls Tryd.prog 27 #[.slice (some ⟨W.heap.size, 0, none⟩) 2 2, .pointer (some ⟨s + 1, 0, none⟩), .pointer (some ⟨s + 1 + 1 + 1 + 1, 0, none⟩), .pointer (some ⟨s, 0, none⟩)] (W.alloc (.cells #[str libS, str usrS] 9)) fun e w' => e = .returned (.tuple #[]) ∧ ∃ A c, w'.cell? ⟨s + 1 + 1 + 1, 0, none⟩ = some (.slice A (candL o nm rp ps kn).length c) ∧ w'.ownsRow s 9 1 (.slice A (candL o nm rp ps kn).length c) (candL o nm rp ps kn).length (strs (candL o nm rp ps kn)) ∧ Below s w w' := by
  subst hM
  have hb := (Below.refl W.heap.size W).alloc (Nat.le_refl _) (.cells #[str libS, str usrS] 9)
  have hkx := hk.trans (kept_of hb (fun k hk => (hp.pr k hk).1))
  have hpx := hp.more W.heap.size rfl (.cells #[str libS, str usrS] 9)
  have hs : Src (W.alloc (.cells #[str libS, str usrS] 9)) (fun j => j = W.heap.size) (some ⟨W.heap.size, 0, none⟩) [libS, usrS].length 2 (strs [libS, usrS]) :=
    ⟨rfl, (by intro h; cases h), Nat.le_refl _, (by intro ad h _; cases h; rfl), (by intro ad h j u hu; cases h; exact cells_new W [str libS, str usrS] 9 j u hu)⟩
  have hR : candL o nm rp ps kn = [] ++ inD o nm rp ++ inD o nm ps ++ cacheP nm kn ++ inD o nm [libS, usrS] := by rw [List.nil_append]; rfl
  rw [hR]
  have hn := len_last o nm rp ps kn hL
  generalize [] ++ inD o nm rp ++ inD o nm ps ++ cacheP nm kn = L at *
  have := run_in h (fun j => P j ∨ j = W.heap.size) (fun j => j = W.heap.size) (some ⟨W.heap.size, 0, none⟩) 2 [libS, usrS] L hkx hpx (fun _ h => .inl h) hs (fun _ h => .inr h) lo ln last_len hn
  refine this.mono ?_
  rintro e w' ⟨rfl, hp', hk'⟩
  have hkb := hkx.trans (hk'.weak (fun k hk => .inl hk))
  have hbl : Below s w w' := hw.trans ⟨hkb.os, hkb.tape, hkb.output, hkb.size, fun k hk => hkb.block k (hps k hk)⟩
  obtain ⟨⟨A, c, q1, q2, q3⟩, q4⟩ := hp'
  refine ⟨rfl, A, c, q1.c 0, ?_, hbl⟩
  refine ⟨q2.1, ?_⟩
  rcases q2.2 with h | ⟨g', cap, cur, hv, _, hh, hx⟩
  · exact .inl h
  · refine .inr ⟨g', cap, cur, hv, ?_, hh, hx⟩
    rcases Nat.lt_or_ge g' s with hlt | hge
    · exact absurd (by rw [hv]; rfl) (q3 g' (.inl (hps g' hlt)))
    · exact hge
set_option maxRecDepth 100000 in
set_option maxHeartbeats 4000000 in
theorem candsIn_any (Q : Nat → Prop) (o nm : Str) (A1 A2 A3 : Option Addr) (c1 c2 c3 : Nat) (rp ps : List Str) (kn : List (Str × Str)) (w : World)
    (h1 : Src w Q A1 rp.length c1 (strs rp)) (h2 : Src w Q A2 ps.length c2 (strs ps)) (h3 : Kns w Q A3 kn.length c3 kn) (hQ : ∀ k, Q k → k < w.heap.size) (hm : Ml w)
    (lo : o.length ≤ 140737488351232) (ln : nm.length ≤ 200) (l1 : ∀ d ∈ rp, d.length ≤ 140737488351232) (l2 : ∀ d ∈ ps, d.length ≤ 140737488351232) (l3 : ∀ x ∈ kn, x.2.length ≤ 140737488351232) (lk : kn.length ≤ 4611686018427387904)
    (hL : (rp.length + ps.length + 10) * 16 ≤ 140737488355328) :
    Calls Tryd.prog 15 #[str nm, str o, .slice A1 rp.length c1, .agg #[.slice A2 ps.length c2, .slice A3 kn.length c3]] w fun e w' => ∃ A c, e = .returned (.slice A (candL o nm rp ps kn).length c) ∧ w'.ownsRow w.heap.size 9 1 (.slice A (candL o nm rp ps kn).length c) (candL o nm rp ps kn).length (strs (candL o nm rp ps kn)) ∧ Below w.heap.size w w' := by
  obtain ⟨f0, f1, f2, f3, f4, f5, f6⟩ := five w nm o #[.slice A2 ps.length c2, .slice A3 kn.length c3]
  have hs0 := hm.pos'
  have g1 := h1.keep (fun k hk _ => f0.block k (hQ k hk))
  have g2 := h2.keep (fun k hk _ => f0.block k (hQ k hk))
  have g3 : Kns (W5 w nm o #[.slice A2 ps.length c2, .slice A3 kn.length c3]) Q A3 kn.length c3 kn := ⟨h3.1, h3.2.keep (fun k hk _ => f0.block k (hQ k hk))⟩
  have gm := hm.below f0
  generalize hR : candL o nm rp ps kn = R
  have HIL := Lib.hid (And.intro (inD_len o nm rp) (And.intro (inD_len o nm ps) (cacheP_len nm kn)))
  clear h1 h2 h3
  go_enter Tryd.func15, Tryd.ntmps15
  go_upto_region 4 with (fail)
  change Code.wp _ _ _ _ (W5 w nm o #[.slice A2 ps.length c2, .slice A3 kn.length c3])
  have hp5 : PB (fun k => k < w.heap.size + 5 ∧ k ≠ w.heap.size + 1 + 1 + 1) (W5 w nm o #[.slice A2 ps.length c2, .slice A3 kn.length c3]) (w.heap.size + 1 + 1 + 1) [] :=
    ⟨⟨none, 0, f5, World.ownsRow_nil _ _ _ _, fun k _ e => by cases e⟩, fun k hk => by rw [f1]; exact hk⟩
  have HW := Lib.hid f0
  have hr5 : Run w.heap.size (fun k => k < w.heap.size + 5 ∧ k ≠ w.heap.size + 1 + 1 + 1) Q nm o #[.slice A2 ps.length c2, .slice A3 kn.length c3] (W5 w nm o #[.slice A2 ps.length c2, .slice A3 kn.length c3]) :=
    ⟨f2, f3, f4, f6, gm, ⟨by omega, by omega⟩, ⟨by omega, by omega⟩, ⟨by omega, by omega⟩, ⟨by omega, by omega⟩, ⟨by omega, by omega⟩, fun k hk => by have := hQ k hk; exact ⟨by omega, by omega⟩⟩
  have HPW := Lib.hid (show ∀ k, k < w.heap.size → (fun k => k < w.heap.size + 5 ∧ k ≠ w.heap.size + 1 + 1 + 1) k from fun k hk => ⟨by omega, by omega⟩)
  have HPS := Lib.hid (show ∀ k, (fun k => k < w.heap.size + 5 ∧ k ≠ w.heap.size + 1 + 1 + 1) k → k < (W5 w nm o #[.slice A2 ps.length c2, .slice A3 kn.length c3]).heap.size from fun k hk => by rw [f1]; exact hk.1)
  have HG2 := Lib.hid g2
  have HG3 := Lib.hid g3
  have HR5 := Lib.hid hr5
  generalize (fun k => k < w.heap.size + 5 ∧ k ≠ w.heap.size + 1 + 1 + 1) = P at *
  generalize W5 w nm o #[.slice A2 ps.length c2, .slice A3 kn.length c3] = w5 at *
  have HC1 := Lib.hid (run_in hr5 P Q A1 c1 rp [] (Kept.refl _ _) hp5 (fun _ h => h) g1 hr5.pq lo ln l1 (by simp; omega))
  clear f1 f2 f3 f4 f5 f6 g1 g2 g3 gm hr5 hp5 hm hQ f0
  go_upto_region 5 with (go_at_call 27; refine HC1.out.mono ?_; rintro e w6 ⟨rfl, hp6, hk6⟩)
  have HP6 := Lib.hid hp6
  have HK6 := Lib.hid hk6
  have k2 : w6.cell? ⟨w.heap.size + 1 + 1, 0, none⟩ = some (.slice A2 ps.length c2) := (HR5.out.b2.keep (hk6.block _ HR5.out.p2)).c 0
  have HC2 := Lib.hid (run_in HR5.out P Q A2 c2 ps ([] ++ inD o nm rp) HK6.out HP6.out (fun _ h => h) (HG2.out.keep (fun k hk _ => HK6.out.block k (HR5.out.pq k hk))) HR5.out.pq lo ln l2 (by have := HIL.out; simp; omega))
  clear hp6 hk6 HC1
  go_upto_region 6 with (go_at_call 27; refine HC2.out.mono ?_; rintro e w7 ⟨rfl, hp7, hk7⟩)
  have HP7 := Lib.hid hp7
  have HK7 := Lib.hid (HK6.out.trans hk7)
  clear k2 hp7 hk7 HC2 HP6 HK6
  have k3 : w7.cell? ⟨w.heap.size + 1 + 1, 1, none⟩ = some (.slice A3 kn.length c3) := (HR5.out.b2.keep (HK7.out.block _ HR5.out.p2)).c 1
  have HC3 := Lib.hid (index_any Q A3 c3 kn nm w.heap.size w7 ⟨HG3.out.1, HG3.out.2.keep (fun k hk _ => HK7.out.block k (HR5.out.pq k hk))⟩ (HR5.out.b0.keep (HK7.out.block _ HR5.out.ps)) lk)
  have hfc := firstK_cases nm kn
  generalize firstK nm kn = F at *
  go_upto_region 8 with (go_at_call 29; refine HC3.out.mono ?_; rintro e w8 ⟨rfl, hb8⟩)
  have HP8 := Lib.hid (HP7.out.below hb8)
  have HK8 := Lib.hid (HK7.out.trans (kept_of hb8 (fun k hk => (HP7.out.pr k hk).1)))
  clear k3 hb8 HC3 HP7 HK7
  have hend := run_last HR5.out HW.out HPW.out rp ps kn lo ln hL
  rw [hR] at hend
  have HEND := Lib.hid hend
  clear hend hR
  clear HG2
  rcases hfc with ⟨rfl, hcp⟩ | ⟨k, hk, rfl, hcp⟩
  · have HCP := Lib.hid hcp
    clear hcp
    unfold placeI
    have HC9 := Lib.hid (HEND.out w8 [] HCP.out.symm (by rw [List.append_nil]; exact HP8.out) HK8.out)
    go_upto_region 11 with (go_at_call 27; refine HC9.out.mono ?_; rintro e w9 ⟨rfl, A, c, hc, ho, hb⟩)
    go_wp2
    go_ret
    exact ⟨A, c, rfl, ho, hb⟩
  · have HCP := Lib.hid hcp
    clear hcp
    unfold placeI
    obtain ⟨ad, rfl⟩ : ∃ ad, A3 = some ad := by
      cases A3 with
      | none => have := (HG3.out.2.nil rfl).1; omega
      | some ad => exact ⟨ad, rfl⟩
    have hx8 := HG3.out.2.keep (fun k hk _ => HK8.out.block k (HR5.out.pq k hk))
    have hcap := hx8.cap
    obtain ⟨b, of, rfl⟩ := hx8.plain (by omega) rfl
    have cc : w8.cell? ⟨b, of + k * 2 + 1, none⟩ = some (str kn[k].2) := hx8.get k hk 1 (str kn[k].2) (by rw [kn_get hk]; rfl)
    have e1 : w8.cell? ⟨w.heap.size + 1 + 1, 1, none⟩ = some (.slice (some ⟨b, of, none⟩) kn.length c3) := (HR5.out.b2.keep (HK8.out.block _ HR5.out.p2)).c 1
    have e2 : w8.cell? ⟨w.heap.size + 1 + 1 + 1 + 1, 0, none⟩ = some (addF (w.heap.size + 1 + 1 + 1)) := (HR5.out.b4.keep (HK8.out.block _ HR5.out.p4)).c 0
    have d1 : w8.drew.cell? ⟨w.heap.size + 1 + 1, 1, none⟩ = some (.slice (some ⟨b, of, none⟩) kn.length c3) := e1
    have d2 : w8.drew.cell? ⟨w.heap.size + 1 + 1 + 1 + 1, 0, none⟩ = some (addF (w.heap.size + 1 + 1 + 1)) := e2
    have dc : w8.drew.cell? ⟨b, of + k * 2 + 1, none⟩ = some (str kn[k].2) := cc
    have lp := l3 kn[k] (List.getElem_mem _)
    have hl := HIL.out
    have hpd : PB P w8.drew (w.heap.size + 1 + 1 + 1) ([] ++ inD o nm rp ++ inD o nm ps) := HP8.out.below (drew_below w8)
    have hkd : Kept P w5 w8.drew := HK8.out.trans (kept_of (drew_below w8) (fun k hk => (HP8.out.pr k hk).1))
    have HAD := Lib.hid (add_any P kn[k].2 (w.heap.size + 1 + 1 + 1) _ w8.drew lp hpd (hkd.ml HR5.out.ml HR5.out.p0) (by simp; omega))
    rw [← HCP.out] at HAD
    have HKD := Lib.hid hkd
    clear hx8 hpd hkd hl HP8 HK8
    generalize kn[k].2 = p at *
    go_upto_region 9 with (fail)
    go_still_tail 7, (by kernel_rfl)
    change wpList _ _ _ _ _ w8.drew
    go_upto_region 10 with (go_at_call 26; refine HAD.out.mono ?_; rintro e w9 ⟨rfl, hp9, hk9⟩)
    have HC9 := Lib.hid (HEND.out w9 _ rfl hp9 (HKD.out.trans hk9))
    clear hp9 hk9
    go_upto_region 11 with (go_at_call 27; refine HC9.out.mono ?_; rintro e w10 ⟨rfl, A, c, hc, ho, hb⟩)
    go_wp2
    go_ret
    exact ⟨A, c, rfl, ho, hb⟩
end Go.Proofs.YtkpmfahmhmdccaaDoor
