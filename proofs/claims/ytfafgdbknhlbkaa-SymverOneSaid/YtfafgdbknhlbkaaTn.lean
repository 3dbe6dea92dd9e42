/-
  The law SymverOne, walked.
-/
import Derived.Test.YtfafgdbknhlbkaaTo
import Derived.Deep.Cut
namespace Go.Proofs.Ytfafgdbknhlbkaa
open Go.RowKit

def clash (a b : Sym) : Bool := a.name == b.name && (a.ver == b.ver || (!a.old && !b.old))
def Clean (ss : List Sym) (n : Nat) : Prop := ∀ i k (hi : i < ss.length), i < n → ∀ (hk : k < i), clash ss[i] (ss[k]'(by omega)) = false
def cntM (r : Sym) (ss : List Sym) (n : Nat) : Nat := ((ss.take n).filter fun d => matchB r d true).length
theorem match_clash {r a b : Sym} (ha : matchB r a true = true) (hb : matchB r b true = true) : clash a b = true := by
  unfold matchB at ha hb
  split at ha
  · cases ha
  split at hb
  · cases hb
  rename_i h1 h2
  simp only [Bool.or_eq_true, Bool.not_eq_true', bne_iff_ne, ne_eq, not_or, Bool.not_eq_false, Decidable.not_not] at h1 h2
  unfold clash
  rw [h1.2, h2.2]
  split at ha
  · simp_all
  · simp_all
theorem cnt_step (r : Sym) (ss : List Sym) (n : Nat) (h : n < ss.length) : cntM r ss (n + 1) = cntM r ss n + (if matchB r ss[n] true then 1 else 0) := by
  unfold cntM
  rw [List.take_succ_eq_append_getElem h, List.filter_append, List.length_append]
  cases hm : matchB r ss[n] true <;> simp [hm]
theorem cnt_pos (r : Sym) (ss : List Sym) : ∀ n, n ≤ ss.length → 0 < cntM r ss n → ∃ k, ∃ h : k < ss.length, k < n ∧ matchB r (ss[k]) true = true
  | 0, _, h => by simp [cntM] at h
  | n + 1, hn, h => by
    rw [cnt_step r ss n (by omega)] at h
    cases hm : matchB r ss[n] true
    · rw [hm] at h
      obtain ⟨k, hk, h1, h2⟩ := cnt_pos r ss n (by omega) (by simpa using h)
      exact ⟨k, hk, by omega, h2⟩
    · exact ⟨n, by omega, by omega, hm⟩
theorem cnt_one (r : Sym) (ss : List Sym) : ∀ n, n ≤ ss.length → Clean ss n → cntM r ss n ≤ 1
  | 0, _, _ => by simp [cntM]
  | n + 1, hn, hc => by
    have h1 := cnt_one r ss n (by omega) (fun i k hi hin hk => hc i k hi (by omega) hk)
    rw [cnt_step r ss n (by omega)]
    cases hm : matchB r ss[n] true
    · simpa using h1
    · have h0 : cntM r ss n = 0 := by
        apply Nat.eq_zero_of_not_pos
        intro hp
        obtain ⟨k, hk, hkn, hmk⟩ := cnt_pos r ss n (by omega) hp
        have := hc n k (by omega) (by omega) hkn
        rw [match_clash hm hmk] at this
        cases this
      simp [h0]
theorem clean_step {ss : List Sym} {i : Nat} (h : Clean ss i) (hi : i < ss.length) (hk : ∀ k (h : k < i), clash ss[i] (ss[k]'(by omega)) = false) : Clean ss (i + 1) := by
  intro j k hj hjn hkj
  by_cases e : j = i
  · subst e; exact hk k hkj
  · exact h j k hj (by omega) hkj

theorem Syl.on {w w' : World} {A : Option Addr} {n c : Nat} {ss : List Sym} (h : Syl w (fun k => k < w.heap.size) A n c ss) (hb : Below w.heap.size w w') : Syl w' (fun k => k < w'.heap.size) A n c ss := by
  have h1 := h.below hb (fun _ h => h)
  exact ⟨h1.len, h1.nil, h1.cap, fun ad hA hn => Nat.lt_of_lt_of_le (h1.blk ad hA hn) hb.size, h1.at_⟩
set_option maxHeartbeats 16000000 in
theorem one_any (r : Sym) (A : Option Addr) (n c : Nat) (ss : List Sym) (w : World) (h : Syl w (fun k => k < w.heap.size) A n c ss) (hn : n ≤ 1000000000000000000) :
    Calls Try.prog 7 #[symV r, .slice A n c] w fun e w' => e = .returned (.bool true) ∧ Below w.heap.size w w' := by
  have HB := Lib.hid (box_below w r)
  have HX := Lib.hid (Sx.new w r)
  have HL := Lib.hid (h.on HB.out)
  have hl := h.len
  clear h
  generalize hw1 : w.alloc (.cells (symA r) 26) = w1 at *
  have HA := Lib.hid (awake_any w1)
  go_enter Try.func7, Try.ntmps7
  go_wp2_with fail
  refine HA.out.mono ?_
  rintro e w2 ⟨rfl, hb⟩
  have HB2 := Lib.hid (HB.out.trans (hb.mono HB.out.size))
  have HX2 := Lib.hid (HX.out.below hb)
  have HL2 := Lib.hid (HL.out.on hb)
  clear hb HB HX HL HA hw1
  go_wp2_with fail
  go_loopw [6, 7] (fun t6 t7 wr => ∃ i : Nat, i ≤ n ∧ t7 = .int .i64 i ∧ t6 = .int .i64 (cntM r ss i : Nat) ∧ Clean ss i ∧ Below w2.heap.size w2 wr) (fun _ t7 _ => n - (intOf t7).toNat)
  case atStart => exact ⟨0, Nat.zero_le _, rfl, rfl, (by intro i k _ h; omega), Below.refl _ _⟩
  case round =>
    obtain ⟨i, hi, rfl, rfl, hc, hb⟩ := hrel
    have HC := Lib.hid hc
    have HBR := Lib.hid hb
    have h1 := cnt_one r ss i (by omega) hc
    clear hb hc
    by_cases hin : i < n
    · have his : i < ss.length := by omega
      cases A with
      | none => have := (HL2.out.nil rfl).1; omega
      | some ad =>
        obtain ⟨b, o, rfl⟩ := HL2.out.plain (by omega)
        go_wp2_with fail
        go_loopw [8] (fun t8 wq => ∃ k : Nat, k ≤ i ∧ t8 = .int .i64 k ∧ (∀ j (h : j < k) (hi : j < ss.length), clash ss[i] ss[j] = false) ∧ Below w2.heap.size w2 wq) (fun t8 _ => i - (intOf t8).toNat)
        case atStart => exact ⟨0, Nat.zero_le _, rfl, (by intro j h; omega), HBR.out⟩
        case round =>
          obtain ⟨k, hk, rfl, hno, hb⟩ := hrel
          have HNO := Lib.hid hno
          have HBQ := Lib.hid hb
          clear hno hb
          have hi0 : (0 : Int) ≤ (i : Int) := by omega
          have hi1 : (i : Int) < (n : Int) := by omega
          obtain ⟨c0, c1, c2, c3, c4, c5, c6, c7, c8⟩ := (HL2.out.on HBQ.out).get i his
          by_cases hki : k < i
          · have hks : k < ss.length := by omega
            have hk0 : (0 : Int) ≤ (k : Int) := by omega
            have hk1 : (k : Int) < (n : Int) := by omega
            obtain ⟨d0, d1, d2, d3, d4, d5, d6, d7, d8⟩ := (HL2.out.on HBQ.out).get k hks
            have HST := Lib.hid (show clash ss[i] ss[k] = false → ∀ j (h : j < k + 1) (hi : j < ss.length), clash ss[i] ss[j] = false from fun hx j hj hjs => by
              by_cases e : j = k
              · subst e; exact hx
              · exact HNO.out j (by omega) hjs)
            have hcl : clash ss[i] ss[k] = (ss[i].name == ss[k].name && (ss[i].ver == ss[k].ver || (!ss[i].old && !ss[k].old))) := rfl
            rw [hcl] at HST
            clear hcl c3 c4 c5 c6 c7 c8 d3 d4 d5 d6 d7 d8
            generalize hq : (ss[i].name == ss[k].name) = q1 at *
            generalize hp : (ss[i].ver == ss[k].ver) = q2 at *
            generalize ss[i].name = xn at *
            generalize ss[i].ver = xv at *
            generalize ss[i].old = xo at *
            generalize ss[k].name = yn at *
            generalize ss[k].ver = yv at *
            generalize ss[k].old = yo at *
            cases q1
            · have HN := Lib.hid (HST.out rfl)
              clear HST
              go_wp2_with fail
              go_quiet (fail)
              go_wp2_with fail
              refine ⟨?_, by simp [intOf]; omega⟩
              first | exact ⟨k + 1, by omega, by go_num, HN.out, below_drewN HBQ.out _⟩ | ((repeat apply Exists.intro); exact ⟨⟨k + 1, by omega, by go_num, HN.out, below_drewN HBQ.out _⟩, rfl⟩)
            · cases q2
              · cases xo
                · cases yo
                  · clear HST
                    go_wp2_with fail
                    go_quiet (fail)
                    go_wp2_with fail
                    go_ret
                    exact ⟨rfl, below_drewN (HB2.out.trans (HBQ.out.mono HB2.out.size)) _⟩
                  · have HN := Lib.hid (HST.out rfl)
                    clear HST
                    go_wp2_with fail
                    go_quiet (fail)
                    go_wp2_with fail
                    refine ⟨?_, by simp [intOf]; omega⟩
                    first | exact ⟨k + 1, by omega, by go_num, HN.out, below_drewN HBQ.out _⟩ | ((repeat apply Exists.intro); exact ⟨⟨k + 1, by omega, by go_num, HN.out, below_drewN HBQ.out _⟩, rfl⟩)
                · have HN := Lib.hid (HST.out rfl)
                  clear HST
                  go_wp2_with fail
                  go_quiet (fail)
                  go_wp2_with fail
                  refine ⟨?_, by simp [intOf]; omega⟩
                  first | exact ⟨k + 1, by omega, by go_num, HN.out, below_drewN HBQ.out _⟩ | ((repeat apply Exists.intro); exact ⟨⟨k + 1, by omega, by go_num, HN.out, below_drewN HBQ.out _⟩, rfl⟩)
              · clear HST
                go_wp2_with fail
                go_quiet (fail)
                go_wp2_with fail
                go_ret
                exact ⟨rfl, below_drewN (HB2.out.trans (HBQ.out.mono HB2.out.size)) _⟩
          · have hki' : k = i := by omega
            subst hki'
            have HCS := Lib.hid (clean_step HC.out his (fun j hj => HNO.out j hj (by omega)))
            have HCT := Lib.hid (cnt_step r ss k his)
            have HKE := Lib.hid (show ∀ X, Below wr.heap.size wr X → (X.cell? ⟨w.heap.size, 0, none⟩ = some (str r.name) ∧ X.cell? ⟨w.heap.size, 1, none⟩ = some (str r.ver) ∧ X.cell? ⟨w.heap.size, 2, none⟩ = some (.bool r.old) ∧ X.cell? ⟨w.heap.size, 3, none⟩ = some (.int .i64 r.kind) ∧ X.cell? ⟨w.heap.size, 4, none⟩ = some (.bool r.weak) ∧ X.cell? ⟨w.heap.size, 5, none⟩ = some (.int .i64 r.vis) ∧ X.cell? ⟨w.heap.size, 6, none⟩ = some (.bool r.dfd) ∧ X.cell? ⟨w.heap.size, 7, none⟩ = some (.int .i64 r.val) ∧ X.cell? ⟨w.heap.size, 8, none⟩ = some (.int .i64 r.size) ∧ X.cell? ⟨b, o + k * 9, none⟩ = some (str ss[k].name) ∧ X.cell? ⟨b, o + k * 9 + 1, none⟩ = some (str ss[k].ver) ∧ X.cell? ⟨b, o + k * 9 + 2, none⟩ = some (.bool ss[k].old) ∧ X.cell? ⟨b, o + k * 9 + 3, none⟩ = some (.int .i64 ss[k].kind) ∧ X.cell? ⟨b, o + k * 9 + 4, none⟩ = some (.bool ss[k].weak) ∧ X.cell? ⟨b, o + k * 9 + 5, none⟩ = some (.int .i64 ss[k].vis) ∧ X.cell? ⟨b, o + k * 9 + 6, none⟩ = some (.bool ss[k].dfd) ∧ X.cell? ⟨b, o + k * 9 + 7, none⟩ = some (.int .i64 ss[k].val) ∧ X.cell? ⟨b, o + k * 9 + 8, none⟩ = some (.int .i64 ss[k].size)) from fun X hX => (by
              obtain ⟨p0, p1, p2, p3, p4, p5, p6, p7, p8⟩ := (HX2.out.below (HBQ.out.trans (hX.mono HBQ.out.size))).cells
              obtain ⟨q0, q1, q2, q3, q4, q5, q6, q7, q8⟩ := (HL2.out.on (HBQ.out.trans (hX.mono HBQ.out.size))).get k his
              exact ⟨p0, p1, p2, p3, p4, p5, p6, p7, p8, q0, q1, q2, q3, q4, q5, q6, q7, q8⟩))
            clear c0 c1 c2 c3 c4 c5 c6 c7 c8 HNO HC
            generalize ss[k] = x at *
            have hmx : ∀ X, Calls Try.prog 21 #[symV r, symV x, .bool true] X fun e w' => e = .returned (.bool (matchB r x true)) ∧ Below X.heap.size X w' := fun X => match_any r x true X
            have HM := Lib.hid (over_below hmx (w1 := wr))
            clear hmx
            go_wp2_with fail
            cases hm : matchB r x true
            · rw [hm] at HM HCT
              clear hm
              go_region_held3 (fun w' => w'.cell? ⟨w.heap.size, 0, none⟩ = some (str r.name) ∧ w'.cell? ⟨w.heap.size, 1, none⟩ = some (str r.ver) ∧ w'.cell? ⟨w.heap.size, 2, none⟩ = some (.bool r.old) ∧ w'.cell? ⟨w.heap.size, 3, none⟩ = some (.int .i64 r.kind) ∧ w'.cell? ⟨w.heap.size, 4, none⟩ = some (.bool r.weak) ∧ w'.cell? ⟨w.heap.size, 5, none⟩ = some (.int .i64 r.vis) ∧ w'.cell? ⟨w.heap.size, 6, none⟩ = some (.bool r.dfd) ∧ w'.cell? ⟨w.heap.size, 7, none⟩ = some (.int .i64 r.val) ∧ w'.cell? ⟨w.heap.size, 8, none⟩ = some (.int .i64 r.size) ∧ w'.cell? ⟨b, o + k * 9, none⟩ = some (str x.name) ∧ w'.cell? ⟨b, o + k * 9 + 1, none⟩ = some (str x.ver) ∧ w'.cell? ⟨b, o + k * 9 + 2, none⟩ = some (.bool x.old) ∧ w'.cell? ⟨b, o + k * 9 + 3, none⟩ = some (.int .i64 x.kind) ∧ w'.cell? ⟨b, o + k * 9 + 4, none⟩ = some (.bool x.weak) ∧ w'.cell? ⟨b, o + k * 9 + 5, none⟩ = some (.int .i64 x.vis) ∧ w'.cell? ⟨b, o + k * 9 + 6, none⟩ = some (.bool x.dfd) ∧ w'.cell? ⟨b, o + k * 9 + 7, none⟩ = some (.int .i64 x.val) ∧ w'.cell? ⟨b, o + k * 9 + 8, none⟩ = some (.int .i64 x.size)) (first | (exact HKE.out _ (by first | assumption | exact below_draw (by assumption) | exact Below.refl _ _ | exact drew_below _)) | go_keep) (first
                | (go_at_call 21; (with_reducible refine (HM.out _ (by first | assumption | exact below_draw (by assumption) | exact Below.refl _ _ | exact drew_below _)).mono ?_); rintro e wp ⟨rfl, hbp⟩; obtain ⟨p0, p1, p2, p3, p4, p5, p6, p7, p8, q0, q1, q2, q3, q4, q5, q6, q7, q8⟩ := HKE.out _ hbp))
              go_wp2_with fail
              refine ⟨⟨k + 1, by omega, by go_num, by rw [HCT.out]; simp, HCS.out, HBQ.out.trans (Below.mono (by first | assumption | exact below_draw (by assumption)) HBQ.out.size)⟩, by simp [intOf]; omega⟩
            · rw [hm] at HM HCT
              clear hm
              go_region_held3 (fun w' => w'.cell? ⟨w.heap.size, 0, none⟩ = some (str r.name) ∧ w'.cell? ⟨w.heap.size, 1, none⟩ = some (str r.ver) ∧ w'.cell? ⟨w.heap.size, 2, none⟩ = some (.bool r.old) ∧ w'.cell? ⟨w.heap.size, 3, none⟩ = some (.int .i64 r.kind) ∧ w'.cell? ⟨w.heap.size, 4, none⟩ = some (.bool r.weak) ∧ w'.cell? ⟨w.heap.size, 5, none⟩ = some (.int .i64 r.vis) ∧ w'.cell? ⟨w.heap.size, 6, none⟩ = some (.bool r.dfd) ∧ w'.cell? ⟨w.heap.size, 7, none⟩ = some (.int .i64 r.val) ∧ w'.cell? ⟨w.heap.size, 8, none⟩ = some (.int .i64 r.size) ∧ w'.cell? ⟨b, o + k * 9, none⟩ = some (str x.name) ∧ w'.cell? ⟨b, o + k * 9 + 1, none⟩ = some (str x.ver) ∧ w'.cell? ⟨b, o + k * 9 + 2, none⟩ = some (.bool x.old) ∧ w'.cell? ⟨b, o + k * 9 + 3, none⟩ = some (.int .i64 x.kind) ∧ w'.cell? ⟨b, o + k * 9 + 4, none⟩ = some (.bool x.weak) ∧ w'.cell? ⟨b, o + k * 9 + 5, none⟩ = some (.int .i64 x.vis) ∧ w'.cell? ⟨b, o + k * 9 + 6, none⟩ = some (.bool x.dfd) ∧ w'.cell? ⟨b, o + k * 9 + 7, none⟩ = some (.int .i64 x.val) ∧ w'.cell? ⟨b, o + k * 9 + 8, none⟩ = some (.int .i64 x.size)) (first | (exact HKE.out _ (by first | assumption | exact below_draw (by assumption) | exact Below.refl _ _ | exact drew_below _)) | go_keep) (first
                | (go_at_call 21; (with_reducible refine (HM.out _ (by first | assumption | exact below_draw (by assumption) | exact Below.refl _ _ | exact drew_below _)).mono ?_); rintro e wp ⟨rfl, hbp⟩; obtain ⟨p0, p1, p2, p3, p4, p5, p6, p7, p8, q0, q1, q2, q3, q4, q5, q6, q7, q8⟩ := HKE.out _ hbp))
              go_wp2_with fail
              refine ⟨⟨k + 1, by omega, by go_num, by rw [HCT.out]; simp, HCS.out, HBQ.out.trans (Below.mono (by first | assumption | exact below_draw (by assumption)) HBQ.out.size)⟩, by simp [intOf]; omega⟩
    · have hin' : i = n := by omega
      have hd : ((cntM r ss i : Nat) : Int) ≤ 1 := by omega
      generalize cntM r ss i = cm at *
      go_wp2_with fail
      go_ret
      exact ⟨rfl, HB2.out.trans (HBR.out.mono HB2.out.size)⟩
end Go.Proofs.Ytfafgdbknhlbkaa
