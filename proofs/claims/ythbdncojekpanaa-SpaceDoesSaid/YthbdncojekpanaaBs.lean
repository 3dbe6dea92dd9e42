/-
  Two lists of regions, held against each other.
-/
import Derived.Test.YthbdncojekpanaaBa
namespace Go.Proofs.Ythbdncojekpanaa
open Go.RowKit

set_option maxRecDepth 100000 in
set_option maxHeartbeats 2000000 in
theorem sameR_any (n : Nat) (A A' : Option Addr) (c c' : Nat) (l : List Rg) (w : World) (h : Gls w A n c l) (h' : Gls w A' n c' l) (hn : n ≤ 1152921504606846976) :
    Calls Try.prog 25 #[.slice A n c, .slice A' n c'] w fun e w' => e = .returned (.bool true) ∧ Below w.heap.size w w' := by
  have H := Lib.hid h
  have H' := Lib.hid h'
  have hl := Lib.hid h.len
  clear h h'
  go_enter Try.func25, Try.ntmps25
  go_wp2_with fail
  go_loopw [5] (fun t5 wr => ∃ k : Nat, k ≤ n ∧ t5 = .int .i64 k ∧ Below w.heap.size w wr) (fun t5 _ => n - (intOf t5).toNat)
  case atStart => exact ⟨0, Nat.zero_le _, rfl, Below.refl _ _⟩
  case round =>
    obtain ⟨k, hk, rfl, hb⟩ := hrel
    have HB := Lib.hid hb
    clear hb
    by_cases hlt : k < n
    · have hkr : k < l.length := by rw [hl.out]; exact hlt
      obtain ⟨ad, rfl⟩ : ∃ ad, A = some ad := by
        cases A with
        | none => have := (H.out.nil rfl).1; omega
        | some ad => exact ⟨ad, rfl⟩
      obtain ⟨b, o, rfl⟩ := H.out.plain ad rfl
      obtain ⟨k0, k1, k2⟩ := (H.out.below HB.out).at_ b o k rfl hkr
      obtain ⟨ad, rfl⟩ : ∃ ad, A' = some ad := by
        cases A' with
        | none => have := (H'.out.nil rfl).1; omega
        | some ad => exact ⟨ad, rfl⟩
      obtain ⟨b', o', rfl⟩ := H'.out.plain ad rfl
      obtain ⟨k0', k1', k2'⟩ := (H'.out.below HB.out).at_ b' o' k rfl hkr
      have hcap := H.out.cap
      have hcap' := H'.out.cap
      generalize l[k].at_ = a0 at *
      generalize l[k].size = s0 at *
      generalize l[k].perm = p0 at *
      clear hkr
      go_wp2_with fail
      go_quiet (fail)
      go_wp2_with fail
      exact ⟨⟨k + 1, by omega, by go_num, below_drewN HB.out _⟩, by simp [intOf]; omega⟩
    · go_wp2_with fail
      first | go_ret | skip
      exact ⟨rfl, HB.out⟩
theorem Gls.keep {w w' : World} {A : Option Addr} {n c : Nat} {l : List Rg} (h : Gls w A n c l) (hk : ∀ k, row A = some k → w'.heap[k]? = w.heap[k]?) : Gls w' A n c l :=
  ⟨h.len, h.nil, h.cap, fun b o j hA hj => by
    obtain ⟨h0, h1, h2⟩ := h.at_ b o j hA hj
    have hb := hk b (by rw [hA]; rfl)
    exact ⟨(World.cell?_of_block (a := ⟨b, _, none⟩) hb).trans h0, (World.cell?_of_block (a := ⟨b, _, none⟩) hb).trans h1, (World.cell?_of_block (a := ⟨b, _, none⟩) hb).trans h2⟩, h.plain⟩
/-- One space, made since w0, that lies beside the blocks Q. -/
def Wq (w0 w : World) (g : Nat) (ss : List Seg) (Q : Nat → Prop) : Prop := Below w0.heap.size w0 w ∧ ∃ F, Lies w w0.heap.size g F ss ∧ ∀ k, Q k → ¬ F k ∧ k < w.heap.size
theorem Ws.q {w0 w : World} {g : Nat} {ss : List Seg} (h : Ws w0 w g ss) : Wq w0 w g ss (fun _ => False) := by
  obtain ⟨hb, F, hl⟩ := h
  exact ⟨hb, F, hl, fun _ h => h.elim⟩
theorem Wq.ws {w0 w : World} {g : Nat} {ss : List Seg} {Q : Nat → Prop} (h : Wq w0 w g ss Q) : Ws w0 w g ss := by
  obtain ⟨hb, F, hl, _⟩ := h
  exact ⟨hb, F, hl⟩
theorem Wq.quiet {w0 w w' : World} {g : Nat} {ss : List Seg} {Q : Nat → Prop} (h : Wq w0 w g ss Q) (hb : Below w.heap.size w w') : Wq w0 w' g ss (fun k => Q k ∨ (w.heap.size ≤ k ∧ k < w'.heap.size)) := by
  obtain ⟨hb0, F, hl, hq⟩ := h
  refine ⟨hb0.trans (hb.mono hb0.size), F, hl.below hb, fun k hk => ?_⟩
  rcases hk with hk | ⟨h1, h2⟩
  · exact ⟨(hq k hk).1, Nat.lt_of_lt_of_le (hq k hk).2 hb.size⟩
  · exact ⟨fun hf => by have := (hl.lt hf).2; omega, h2⟩
theorem Wq.weak {w0 w : World} {g : Nat} {ss : List Seg} {Q Q' : Nat → Prop} (h : Wq w0 w g ss Q) (hw : ∀ k, Q' k → Q k) : Wq w0 w g ss Q' := by
  obtain ⟨hb0, F, hl, hq⟩ := h
  exact ⟨hb0, F, hl, fun k hk => hq k (hw k hk)⟩
theorem Wq.still {w0 w w' : World} {g : Nat} {ss : List Seg} {Q : Nat → Prop} (h : Wq w0 w g ss Q) (hb : Below w.heap.size w w') : Wq w0 w' g ss Q := (h.quiet hb).weak fun _ h => .inl h
theorem Wq.act {w0 w : World} {g : Nat} {ss ss' : List Seg} {Q : Nat → Prop} (h : Wq w0 w g ss Q) {f : Nat} {args : Array Value} {v : Value} (hc : ∀ F, Lies w w0.heap.size g F ss → (∀ k, Q k → ¬ F k ∧ k < w.heap.size) → Calls Try.prog f args w fun e w' => e = .returned v ∧ Went w w' w0.heap.size g F ss') :
    Calls Try.prog f args w fun e w' => e = .returned v ∧ Wq w0 w' g ss' Q ∧ ∀ k, Q k → w'.heap[k]? = w.heap[k]? := by
  obtain ⟨hb, F, hl, hq⟩ := h
  refine (hc F hl hq).mono fun e w' hw => ⟨hw.1, ?_, fun k hk => ?_⟩
  · obtain ⟨F', h1, h2, h3⟩ := hw.2
    refine ⟨hb.trans (h2.below (fun k hk => (hl.lt hk).1) hb.size), F', h1, fun k hk => ⟨fun hf => ?_, Nat.lt_of_lt_of_le (hq k hk).2 h2.size⟩⟩
    rcases h3 k hf with h | h
    · exact (hq k hk).1 h
    · have := (hq k hk).2; omega
  · obtain ⟨F', _, h2, _⟩ := hw.2
    exact h2.block k (hq k hk).2 (hq k hk).1
theorem Wq.ask {w0 w : World} {g : Nat} {ss : List Seg} {Q : Nat → Prop} (h : Wq w0 w g ss Q) {f : Nat} {args : Array Value} {v : Value} (hc : ∀ F, Lies w w0.heap.size g F ss → Calls Try.prog f args w fun e w' => e = .returned v ∧ Below w.heap.size w w') :
    Calls Try.prog f args w fun e w' => e = .returned v ∧ Wq w0 w' g ss Q ∧ Below w.heap.size w w' := by
  obtain ⟨F, hl, _⟩ := h.2
  exact (hc F hl).mono fun e w' hw => ⟨hw.1, h.still hw.2, hw.2⟩
theorem Wq.read {w0 w : World} {g : Nat} {ss : List Seg} {Q : Nat → Prop} (h : Wq w0 w g ss Q) {f : Nat} {args : Array Value} {a n need : Int} (hc : ∀ F, Lies w w0.heap.size g F ss → Calls Try.prog f args w (TookS w ss a n need)) :
    Calls Try.prog f args w fun e w' => TookS w ss a n need e w' ∧ Wq w0 w' g ss Q := by
  obtain ⟨F, hl, _⟩ := h.2
  exact (hc F hl).mono fun _ _ hw => ⟨hw, h.still hw.1⟩
/-- The regions, and the slice that they lie in beside the space. -/
theorem Wq.regions {w0 w : World} {g : Nat} {ss : List Seg} {Q : Nat → Prop} (h : Wq w0 w g ss Q) : Calls Try.prog 22 #[.pointer (some ⟨g, 0, none⟩)] w fun e w' => ∃ A c, e = .returned (.slice A ss.length c) ∧ Gls w' A ss.length c (ss.map rgS) ∧ Wq w0 w' g ss (fun k => Q k ∨ row A = some k) ∧ Below w.heap.size w w' := by
  obtain ⟨F, hl, _⟩ := h.2
  refine (Regions_s hl).mono fun e w' ⟨A, c, h1, h2, h3⟩ => ⟨A, c, ?_, ?_, (h.quiet h3).weak fun k hk => hk.imp id fun e => ?_, h3⟩
  · rw [h1, List.length_map]
  · have := Gls.of_own h2
    rwa [List.length_map] at this
  · exact h2.lt k (by rw [row_own]; exact e)
theorem Good.few {w0 w : World} {g : Nat} {ss : List Seg} {Q : Nat → Prop} (h : Wq w0 w g ss Q) : ss.length ≤ 67108864 := by
  obtain ⟨_, F, ⟨A', c', rs, h1, h2, _, _⟩, _⟩ := h
  rw [← h2, segs_len]
  exact ord_few h1.ord
end Go.Proofs.Ythbdncojekpanaa
