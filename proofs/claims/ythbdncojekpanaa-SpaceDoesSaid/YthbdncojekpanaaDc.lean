/-
  The document's model: where a gap is.
-/
import Derived.Test.YthbdncojekpanaaDb
namespace Go.Proofs.Ythbdncojekpanaa
open Go.RowKit

theorem gap_none {n : Int} : ∀ {ss : List Seg} {a : Int}, gapS n a ss = none → ∀ a', a ≤ a' → a' + n ≤ 4294967296 → ¬ freeS ss a' n
  | [], a, h, a', h1, h2 => by
    unfold gapS at h
    split at h
    · cases h
    · omega
  | s :: ss, a, h, a', h1, h2 => by
    intro hf
    unfold gapS at h
    split at h
    · cases h
    · by_cases h3 : a' < s.at_ + s.size
      · rcases hf s (List.mem_cons_self ..) with h4 | h4 <;> omega
      · exact gap_none h a' (by omega) h2 fun x hx => hf x (List.mem_cons_of_mem _ hx)
theorem gap_cand {n : Int} : ∀ {ss : List Seg} {a r : Int}, gapS n a ss = some r → r = a ∨ ∃ s ∈ ss, r = s.at_ + s.size
  | [], a, r, h => by
    unfold gapS at h
    split at h
    · cases h; exact .inl rfl
    · cases h
  | s :: ss, a, r, h => by
    unfold gapS at h
    split at h
    · cases h; exact .inl rfl
    · rcases gap_cand h with e | ⟨x, hx, e⟩
      · exact .inr ⟨s, List.mem_cons_self .., e⟩
      · exact .inr ⟨x, List.mem_cons_of_mem _ hx, e⟩
theorem free_perm {ds ss : List Seg} (h : ds.Perm ss) (a n : Int) : freeS ds a n ↔ freeS ss a n := ⟨fun hf s hs => hf s (h.mem_iff.2 hs), fun hf s hs => hf s (h.mem_iff.1 hs)⟩
/-- The least of the places looked at so far that may be one; 0: none may. -/
structure Best (ds : List Seg) (N : Int) (cs : List Int) (b : Int) : Prop where
  zero : b = 0 → ∀ c ∈ cs, ¬ okAt ds c N
  ok : b ≠ 0 → okAt ds b N ∧ b ∈ cs
  least : b ≠ 0 → ∀ c ∈ cs, okAt ds c N → b ≤ c
theorem Best.cons {ds : List Seg} {N : Int} {cs : List Int} {b c : Int} (h : Best ds N cs b) : Best ds N (cs ++ [c]) (if okAt ds c N ∧ (b = 0 ∨ c < b) then c else b) := by
  by_cases hc : okAt ds c N
  · by_cases hb : b = 0 ∨ c < b
    · rw [if_pos ⟨hc, hb⟩]
      refine ⟨fun e => by have := hc.1; omega, fun _ => ⟨hc, by simp⟩, fun _ x hx hxo => ?_⟩
      rcases List.mem_append.1 hx with hx | hx
      · rcases hb with hb | hb
        · exact absurd hxo (h.zero hb x hx)
        · by_cases hb0 : b = 0
          · exact absurd hxo (h.zero hb0 x hx)
          · have := h.least hb0 x hx hxo
            omega
      · have := List.mem_singleton.1 hx
        omega
    · rw [if_neg fun e => hb e.2]
      have hb0 : b ≠ 0 := fun e => hb (.inl e)
      refine ⟨fun e => absurd e hb0, fun _ => ⟨(h.ok hb0).1, List.mem_append_left _ (h.ok hb0).2⟩, fun _ x hx hxo => ?_⟩
      rcases List.mem_append.1 hx with hx | hx
      · exact h.least hb0 x hx hxo
      · have := List.mem_singleton.1 hx
        omega
  · rw [if_neg fun e => hc e.1]
    refine ⟨fun e x hx => ?_, fun e => ⟨(h.ok e).1, List.mem_append_left _ (h.ok e).2⟩, fun e x hx hxo => ?_⟩
    · rcases List.mem_append.1 hx with hx | hx
      · exact h.zero e x hx
      · obtain rfl := List.mem_singleton.1 hx
        exact hc
    · rcases List.mem_append.1 hx with hx | hx
      · exact h.least e x hx hxo
      · obtain rfl := List.mem_singleton.1 hx
        exact absurd hxo hc
theorem Best.first (ds : List Seg) (N : Int) : Best ds N [4096] (if okAt ds 4096 N then 4096 else 0) := by
  by_cases h : okAt ds 4096 N
  · rw [if_pos h]
    exact ⟨fun e => by omega, fun _ => ⟨h, by simp⟩, fun _ c hc _ => by have := List.mem_singleton.1 hc; omega⟩
  · rw [if_neg h]
    exact ⟨fun _ c hc => by have := List.mem_singleton.1 hc; rw [this]; exact h, fun e => absurd rfl e, fun e => absurd rfl e⟩
def ends (rs : List Raw) : List Int := rs.map fun r => r.b.at_ + r.b.size
theorem best_gap {rs : List Raw} {ss : List Seg} {n b : Int} (hg : Good ss) (hp : (segs rs).Perm ss) (hn : 1 ≤ n ∧ n ≤ 1048576) (h : Best (segs rs) (up n) (4096 :: ends rs) b) : gapA ss n = if b = 0 then (0, 3) else (b, 0) := by
  have hs : sizeB n = true := by unfold sizeB; simp; omega
  have hu : n ≤ up n := by unfold up; omega
  unfold gapA
  rw [if_pos hs]
  cases hgp : gapS n 4096 ss with
  | none =>
    by_cases hb : b = 0
    · rw [if_pos hb]
    · exfalso
      obtain ⟨⟨h1, h2, h3⟩, _⟩ := h.ok hb
      exact gap_none hgp b h1 (by omega) fun s hs => by rcases (free_perm hp _ _).1 h3 s hs with h4 | h4 <;> omega
  | some r =>
    obtain ⟨g1, g2, g3, g4⟩ := gapS_free hg (fun x hx => (hg.fit x hx).1) hgp
    have g5 := g4 (by omega)
    have hok : okAt (segs rs) r (up n) := ⟨g1, by unfold up; omega, (free_perm hp _ _).2 (freeS_up hg g5 g3)⟩
    have hin : r ∈ 4096 :: ends rs := by
      rcases gap_cand hgp with e | ⟨s, hs, e⟩
      · rw [e]; exact List.mem_cons_self ..
      · obtain ⟨x, hx, rfl⟩ := segs_mem (hp.mem_iff.2 hs)
        exact List.mem_cons_of_mem _ (List.mem_map.2 ⟨x, hx, e.symm⟩)
    by_cases hb : b = 0
    · exact absurd hok (h.zero hb r hin)
    · rw [if_neg hb]
      have h1 := h.least hb r hin hok
      obtain ⟨⟨h2, h3, h4⟩, _⟩ := h.ok hb
      have h5 : ¬ b < r := fun hlt => gap_least hgp b h2 hlt fun s hs => by rcases (free_perm hp _ _).1 h4 s hs with h6 | h6 <;> omega
      have : r = b := by omega
      rw [this]
def GapD (ss : List Seg) (n : Int) (w : World) (e : Ending) (w' : World) : Prop := e = .returned (.tuple #[.int .i64 (gapA ss n).1, .int .i64 (gapA ss n).2]) ∧ Below w.heap.size w w'
set_option maxRecDepth 100000 in
set_option maxHeartbeats 4000000 in
theorem rGap_any (g : Nat) (A : Option Addr) (c : Nat) (rs : List Raw) (ss : List Seg) (n : Int) (hg : Good ss) (hp : (segs rs).Perm ss) (w : World) (h : Seen w g A c rs) :
    Calls Try.prog 48 #[.pointer (some ⟨g, 0, none⟩), .int .i64 n] w (GapD ss n w) := by
  have H := Lib.hid h
  have hfew := h.few
  have HZ := Lib.hid (rSized_any n w)
  by_cases hn : 1 ≤ n ∧ n ≤ 1048576
  · have hs : sizeB n = true := by unfold sizeB; simp; omega
    rw [hs] at HZ
    have HU := Lib.hid (rUp_any n hn w)
    have HE : Hid (∀ b w', Below w.heap.size w w' → Best (segs rs) (up n) (4096 :: ends rs) b → GapD ss n w (.returned (if b = 0 then .tuple #[.int .i64 0, .int .i64 3] else .tuple #[.int .i64 b, .int .i64 0])) w') := Lib.hid fun b w' hb hbe => by
      refine ⟨?_, hb⟩
      rw [best_gap hg hp hn hbe]
      split <;> rfl
    have hun : 1 ≤ up n ∧ up n ≤ 1048576 := by unfold up; omega
    generalize up n = N at *
    have HFR : Hid (∀ a w', Below w.heap.size w w' → Calls Try.prog 71 #[.pointer (some ⟨g, 0, none⟩), .int .i64 a, .int .i64 N] w' (FreeD (segs rs) a N w')) := Lib.hid fun a w' hb => rfree_any g A c rs a N hun w' (H.out.below hb)
    generalize GapD ss n w = L at *
    generalize hlen : rs.length = M at *
    have HLEN := Lib.hid hlen
    have hc := h.box
    rw [hlen] at hc
    have HB1 := Lib.hid (Best.first (segs rs) N)
    clear h hlen hp hg
    have HF0 := Lib.hid (HFR.out 4096 w (Below.refl _ _))
    by_cases h0 : okAt (segs rs) 4096 N
    all_goals
      have HB2 := HB1.out
      first | rw [if_pos h0] at HB2 | rw [if_neg h0] at HB2
      have HB := Lib.hid HB2
      have hd : ∃ d : Bool, decide (okAt (segs rs) 4096 N) = d := ⟨_, rfl⟩
      clear HB1 HB2
      go_enter Try.func48, Try.ntmps48
      go_wp2_with fail
      refine HZ.out.mono ?_
      rintro e w1 ⟨rfl, rfl⟩
      clear HZ
      go_wp2_with fail
      refine HU.out.mono ?_
      rintro e w1 ⟨rfl, rfl⟩
      clear HU
      go_wp2_with fail
      refine HF0.out.mono ?_
      rintro e w1 ⟨rfl, hb⟩
      have HBW := Lib.hid hb
      first | rw [decide_eq_true h0] | rw [decide_eq_false h0]
      clear HF0 hb h0 hd
      go_wp2_with fail
      go_loopw [7, 8] (fun t7 t8 wr => ∃ (k : Nat) (b : Int), k ≤ M ∧ t8 = .int .i64 k ∧ t7 = .int .i64 b ∧ Best (segs rs) N (4096 :: ends (rs.take k)) b ∧ Below w.heap.size w wr) (fun _ t8 _ => M - (intOf t8).toNat)
      case atStart => exact ⟨0, _, Nat.zero_le _, rfl, rfl, HB.out, HBW.out⟩
      case round =>
        obtain ⟨k, b, hk, rfl, rfl, hbe, hb⟩ := hrel
        have HBE := Lib.hid hbe
        have HBB := Lib.hid hb
        have hcr := cell_below hb hc
        clear hbe hb HB HBW
        by_cases hlt : k < M
        · have hkr : k < rs.length := by rw [HLEN.out]; exact hlt
          obtain ⟨ad, rfl⟩ : ∃ ad, A = some ad := by
            cases A with
            | none => have := (H.out.bls.nil rfl).1; omega
            | some ad => exact ⟨ad, rfl⟩
          obtain ⟨bl, o, rfl⟩ := H.out.bls.plain ad rfl
          obtain ⟨c0, c1, _, _⟩ := (H.out.bls.below HBB.out).at_ bl o k rfl hkr
          have hcap := H.out.bls.cap
          have hft := H.out.fit rs[k] (List.getElem_mem hkr)
          have he : ends (rs.take (k + 1)) = ends (rs.take k) ++ [rs[k].b.at_ + rs[k].b.size] := by
            unfold ends
            rw [List.take_succ_eq_append_getElem hkr, List.map_append]
            rfl
          have HNX := Lib.hid (show Best (segs rs) N (4096 :: ends (rs.take (k + 1))) _ from by rw [he]; exact HBE.out.cons)
          generalize rs[k].b.at_ = a0 at *
          generalize rs[k].b.size = s0 at *
          obtain ⟨f1, _, f3, f4, _, f6, _⟩ := hft
          have e1 : IntKind.i64.wrap (a0 + s0) = a0 + s0 := by rw [IntKind.wrap_i64]; omega
          clear he
          go_wp2_with fail
          go_quiet (fail)
          clear e1
          generalize hx : a0 + s0 = x at *
          clear c0 c1 hx f1 f3 f4 f6
          have HF2 := Lib.hid (HFR.out x _ (below_drewN HBB.out nq))
          go_wp2_with fail
          refine HF2.out.mono ?_
          rintro e w2 ⟨rfl, hb2⟩
          have HB3 := Lib.hid ((below_drewN HBB.out nq).trans (hb2.mono HBB.out.size))
          clear HF2 hb2
          by_cases hok : okAt (segs rs) x N
          · rw [decide_eq_true hok]
            by_cases hb0 : b = 0
            · have HN := HNX.out
              rw [if_pos ⟨hok, .inl hb0⟩] at HN
              have HN2 := Lib.hid HN
              subst hb0
              clear HN HNX hok
              go_wp2_with fail
              exact ⟨⟨k + 1, _, by omega, by go_num, rfl, HN2.out, HB3.out⟩, by simp [intOf]; omega⟩
            · have b1 : (b == 0) = false := by simpa using hb0
              by_cases hxb : x < b
              · have HN := HNX.out
                rw [if_pos ⟨hok, .inr hxb⟩] at HN
                have HN2 := Lib.hid HN
                clear HN HNX hok
                go_wp2_with fail
                exact ⟨⟨k + 1, _, by omega, by go_num, rfl, HN2.out, HB3.out⟩, by simp [intOf]; omega⟩
              · have HN := HNX.out
                rw [if_neg fun e => e.2.elim hb0 hxb] at HN
                have HN2 := Lib.hid HN
                clear HN HNX hok
                go_wp2_with fail
                exact ⟨⟨k + 1, _, by omega, by go_num, rfl, HN2.out, HB3.out⟩, by simp [intOf]; omega⟩
          · rw [decide_eq_false hok]
            have HN := HNX.out
            rw [if_neg fun e => hok e.1] at HN
            have HN2 := Lib.hid HN
            clear HN HNX hok
            go_wp2_with fail
            exact ⟨⟨k + 1, _, by omega, by go_num, rfl, HN2.out, HB3.out⟩, by simp [intOf]; omega⟩
        · obtain rfl : k = M := by omega
          have htk : rs.take k = rs := List.take_of_length_le (by rw [HLEN.out]; exact Nat.le_refl _)
          have hbe := HBE.out
          rw [htk] at hbe
          have HE2 := Lib.hid (HE.out b _ HBB.out hbe)
          clear HE htk hbe HBE
          by_cases hb0 : b = 0
          · have HE3 := HE2.out
            rw [if_pos hb0] at HE3
            have HE4 := Lib.hid HE3
            subst hb0
            clear HE3 HE2
            go_wp2_with fail
            first | go_ret2 | skip
            exact HE4.out
          · have HE3 := HE2.out
            rw [if_neg hb0] at HE3
            have HE4 := Lib.hid HE3
            have b1 : (b == 0) = false := by simpa using hb0
            clear HE3 HE2
            go_wp2_with fail
            first | go_ret2 | skip
            exact HE4.out
  · have hs : sizeB n = false := by unfold sizeB; simp; omega
    rw [hs] at HZ
    have HE := Lib.hid (show GapD ss n w (.returned (.tuple #[.int .i64 0, .int .i64 1])) w from ⟨by unfold gapA; rw [hs]; rfl, Below.refl _ _⟩)
    generalize GapD ss n w = L at *
    clear hn hs h hp hg
    go_enter Try.func48, Try.ntmps48
    go_wp2_with fail
    refine HZ.out.mono ?_
    rintro e w1 ⟨rfl, rfl⟩
    clear HZ
    go_wp2_with fail
    first | go_ret2 | skip
    exact HE.out
end Go.Proofs.Ythbdncojekpanaa
