/-
  The document's examples, of stage 6's law.
  The law of regions that lie apart, walked.
  Two lists of regions, held against each other.
-/
import Derived.Test.YtfkhfjefddgkoaaDoorZL
import Derived.Test.YtfkhfjefddgkoaaDoorZSAg
import Derived.Test.YtfkhfjefddgkoaaDoorZD
namespace Go.Proofs.YtfkhfjefddgkoaaDoor
open Go.RowKit

theorem cells_same (l : Str) : Cod.cells l = cells l := rfl
theorem Ws.poke {w0 w1 w2 : World} {g b a0 m sc : Nat} {ss : List Seg} {a : Int} {ms : Str} (h : Ws w0 w1 g ss) (hb : Below w1.heap.size w1 w2) (hs : Src w2 (fun _ => True) (some ⟨b, a0, none⟩) m sc (cells ms)) (h1 : w1.heap.size ≤ b) (hm : 0 < m) (ha : I64 a) :
    Calls Tryd.prog 21 #[.pointer (some ⟨g, 0, none⟩), .int .i64 a, .slice (some ⟨b, a0, none⟩) m sc] w2 fun e w' => e = .returned (.int .i64 (storeS ss a ms 0).1) ∧ Ws w0 w' g (storeS ss a ms 0).2 := by
  obtain ⟨hb0, F, hl⟩ := h
  have h2 : b < w2.heap.size := hs.lt.blk _ rfl hm
  have hs2 : Src w2 (fun q => q = b) (some ⟨b, a0, none⟩) m sc (cells ms) := ⟨hs.len, hs.nil, hs.cap, fun ad h _ => by cases h; rfl, hs.at_⟩
  have hl2 := hl.below hb
  exact (Poke_s ha hl2 hs2 fun q hq => by subst hq; exact ⟨fun hf => by have := (hl.lt hf).2; omega, h2⟩).mono fun e w' hh => ⟨hh.1, Ws.went (hb0.trans (hb.mono hb0.size)) hl2 hh.2⟩
theorem Ws.shps {w0 w : World} {g : Nat} {ss : List Seg} (h : Ws w0 w g ss) (hs : Cod.Shps w0) : Cod.Shps w := hs.below h.1
theorem Ws.run {w0 w : World} {g : Nat} {ss : List Seg} {c : Cx} {most : Int} (h : Ws w0 w g ss) (hs : Cod.Shps w0) (hok : Okc c) (hm : I64 most) :
    Calls Tryd.prog 15 #[cxV c, .pointer (some ⟨g, 0, none⟩), .int .i64 most] w fun en w' => en = .returned (.tuple #[cxV (runM most.toNat 0 ss c).2.2.1, .agg (evA (runM most.toNat 0 ss c).1), .int .i64 (runM most.toNat 0 ss c).2.1]) ∧ Ws w0 w' g (runM most.toNat 0 ss c).2.2.2 :=
  h.act fun _ hl => Run_any most hl hok (h.shps hs) hs.pos hm
def aw1 : Ins := ⟨1, 1, 0, 0, 5⟩
def aw2 : Ins := ⟨19, 1, 0, 0, 0⟩
def awS : List Seg := (storeS (storeS [newS 4096 64 7] 4096 (Cod.bytesOf aw1) 0).2 4104 (Cod.bytesOf aw2) 0).2
def awC : Cx := ⟨4096, 0, [0, 0, 0, 0, 0, 0, 0, 0, 0, 0, 0, 0, 0, 0, 0, 0]⟩
theorem aw_run : (runM 9 0 awS awC).1 = ⟨2, 5, 0, 0, 0⟩ ∧ (runM 9 0 awS awC).2.1 = 2 ∧ (runM 9 0 awS awC).2.2.1 = ⟨4112, 0, [0, 5, 0, 0, 0, 0, 0, 0, 0, 0, 0, 0, 0, 0, 0, 0]⟩ := by
  refine ⟨by kernel_rfl, by kernel_rfl, by kernel_rfl⟩
theorem Ws.awRun {w0 w : World} {g : Nat} (h : Ws w0 w g awS) (hs : Cod.Shps w0) :
    Calls Tryd.prog 15 #[.agg #[.int .i64 4096, .int .i64 0, .int .i64 0, .int .i64 0, .int .i64 0, .int .i64 0, .int .i64 0, .int .i64 0, .int .i64 0, .int .i64 0, .int .i64 0, .int .i64 0, .int .i64 0, .int .i64 0, .int .i64 0, .int .i64 0, .int .i64 0, .int .i64 0], .pointer (some ⟨g, 0, none⟩), .int .i64 9] w fun en w' => en = .returned (.tuple #[.agg #[.int .i64 4112, .int .i64 0, .int .i64 0, .int .i64 5, .int .i64 0, .int .i64 0, .int .i64 0, .int .i64 0, .int .i64 0, .int .i64 0, .int .i64 0, .int .i64 0, .int .i64 0, .int .i64 0, .int .i64 0, .int .i64 0, .int .i64 0, .int .i64 0], .agg #[.int .i64 2, .int .i64 5, .int .i64 0, .int .i64 0, .int .i64 0], .int .i64 2]) ∧ Below w0.heap.size w0 w' := by
  obtain ⟨e1, e2, e3⟩ := aw_run
  have hz : ∀ a, I64 (awC.reg a) := fun a => by
    show I64 (([0, 0, 0, 0, 0, 0, 0, 0, 0, 0, 0, 0, 0, 0, 0, 0] : List Int).getD a.toNat 0)
    have h0 : ∀ k : Nat, ([0, 0, 0, 0, 0, 0, 0, 0, 0, 0, 0, 0, 0, 0, 0, 0] : List Int).getD k 0 = 0 := fun k => by
      rw [List.getD_eq_getElem?_getD, show ([0, 0, 0, 0, 0, 0, 0, 0, 0, 0, 0, 0, 0, 0, 0, 0] : List Int) = List.replicate 16 0 from rfl, List.getElem?_replicate]
      split <;> rfl
    rw [h0]
    exact i64_zero
  have := h.run (c := awC) (most := 9) hs ⟨rfl, by show I64 4096; unfold I64; omega, i64_zero, hz⟩ (by unfold I64; omega)
  rw [show (9 : Int).toNat = 9 from rfl, e1, e2, e3] at this
  exact this.mono fun e w' hh => ⟨hh.1, hh.2.1⟩
set_option maxRecDepth 100000 in
set_option maxHeartbeats 2000000 in
theorem awake6_any (w : World) (hs : Cod.Shps w) : Calls Tryd.prog 10 #[] w fun e w' => e = .returned (.bool true) ∧ Below w.heap.size w w' := by
  have HN := Lib.hid (New_w w w (Below.refl _ _))
  have HS := Lib.hid hs
  clear hs
  go_enter Tryd.func10, Tryd.ntmps10
  go_wp2_with fail
  refine HN.out.mono ?_
  rintro e w1 ⟨rfl, h1⟩
  have C1 := Lib.hid (h1.act fun _ => MapAt_s 4096 64 7)
  rw [show mapAtS [] 4096 64 7 = (0, [newS 4096 64 7]) from rfl] at C1
  clear HN h1
  go_wp2_with fail
  refine C1.out.mono ?_
  rintro e w2 ⟨rfl, h2⟩
  have H2 := Lib.hid h2
  have C2 := Lib.hid (fun X => Cod.rbytes_any aw1 X rfl)
  clear C1 h2
  go_wp2_with fail
  refine (C2.out _).mono ?_
  rintro e w3 ⟨rfl, hb, hs⟩
  have C3 := Lib.hid (H2.out.poke (a := 4096) (ms := Cod.bytesOf aw1) hb hs (by omega) (by omega) (by unfold I64; omega))
  clear C2 H2 hb hs
  go_wp2_with fail
  refine C3.out.mono ?_
  rintro e w4 ⟨rfl, h4⟩
  have H4 := Lib.hid h4
  have C4 := Lib.hid (fun X => Cod.rbytes_any aw2 X rfl)
  clear C3 h4
  go_wp2_with fail
  refine (C4.out _).mono ?_
  rintro e w5 ⟨rfl, hb, hs⟩
  have C5 := Lib.hid (H4.out.poke (a := 4104) (ms := Cod.bytesOf aw2) hb hs (by omega) (by omega) (by unfold I64; omega))
  clear C4 H4 hb hs
  go_wp2_with fail
  refine C5.out.mono ?_
  rintro e w6 ⟨rfl, h6⟩
  have C6 := Lib.hid (Ws.awRun h6 HS.out)
  clear C5 h6
  go_wp2_with fail
  refine C6.out.mono ?_
  rintro e w7 ⟨rfl, hb⟩
  have HB := Lib.hid hb
  clear C6 hb
  go_wp2_with fail
  first | go_ret | skip
  have hz := HB.out.size
  exact ⟨rfl, (HB.out.alloc hz _).alloc (by simp; omega) _⟩
end Go.Proofs.YtfkhfjefddgkoaaDoor

namespace Go.Proofs.YtfkhfjefddgkoaaDoor
open Go.RowKit

/-- A slice of regions that reads as this list. -/
structure Gls (w : World) (A : Option Addr) (n c : Nat) (l : List Rg) : Prop where
  len : l.length = n
  nil : A = none → n = 0 ∧ c = 0
  cap : n ≤ c
  at_ : ∀ b o j, A = some ⟨b, o, none⟩ → ∀ (hj : j < l.length), w.cell? ⟨b, o + j * 3, none⟩ = some (.int .i64 l[j].at_) ∧ w.cell? ⟨b, o + j * 3 + 1, none⟩ = some (.int .i64 l[j].size) ∧ w.cell? ⟨b, o + j * 3 + 2, none⟩ = some (.int .i64 l[j].perm)
  plain : ∀ ad, A = some ad → ∃ b o, ad = ⟨b, o, none⟩
theorem Gls.below {w w' : World} {A : Option Addr} {n c : Nat} {l : List Rg} (h : Gls w A n c l) (hb : Below w.heap.size w w') : Gls w' A n c l :=
  ⟨h.len, h.nil, h.cap, fun b o j hA hj => by
    obtain ⟨h0, h1, h2⟩ := h.at_ b o j hA hj
    exact ⟨cell_below hb h0, cell_below hb h1, cell_below hb h2⟩, h.plain⟩
theorem gcells_at (l : List Rg) : ∀ (k : Nat) (hk : k < l.length) (j : Nat), j < 3 → (gcells l)[k * 3 + j]? = (rgC l[k])[j]? := by
  induction l with
  | nil => intro k hk; simp at hk
  | cons r l ih =>
    intro k hk j hj
    have e : gcells (r :: l) = rgC r ++ gcells l := rfl
    rw [e]
    cases k with
    | zero => rw [Nat.zero_mul, Nat.zero_add, List.getElem?_append_left (by show j < 3; exact hj)]; rfl
    | succ k =>
      rw [List.getElem?_append_right (by show 3 ≤ _; omega)]
      have : (k + 1) * 3 + j - (rgC r).length = k * 3 + j := by show (k + 1) * 3 + j - 3 = _; omega
      rw [this]
      exact ih k (by simpa using hk) j hj
theorem Gls.of_own {w : World} {B : Nat} {A : Option Addr} {c : Nat} {l : List Rg} (h : w.ownsRow B 89 3 (.slice A l.length c) l.length (gcells l)) : Gls w A l.length c l := by
  rcases h.2 with ⟨hv, h0⟩ | ⟨g, cap, cur, hv, _, _, hle, _⟩
  · injection hv with h1 _ h2
    subst h1 h2
    exact ⟨rfl, fun _ => ⟨h0, rfl⟩, by omega, (by intro b o j hA; cases hA), (by intro ad hA; cases hA)⟩
  · injection hv with h1 _ h2
    subst h1 h2
    refine ⟨rfl, (by intro hA; cases hA), hle, ?_, (by intro ad hA; cases hA; exact ⟨_, _, rfl⟩)⟩
    intro b o j hA hj
    cases hA
    have hc := h.cells (g := g) rfl
    have e := fun i hi => gcells_at l j hj i hi
    have k := fun i u (hu : (gcells l)[j * 3 + i]? = some u) => hc (j * 3 + i) u hu
    have k0 := k 0 _ (e 0 (by omega))
    have k1 := k 1 _ (e 1 (by omega))
    have k2 := k 2 _ (e 2 (by omega))
    rw [plainAdd] at k0 k1 k2
    simp only [Nat.zero_add, Nat.add_zero, ← Nat.add_assoc] at k0 k1 k2 ⊢
    exact ⟨k0, k1, k2⟩
theorem Ws.regions {w0 w : World} {g : Nat} {ss : List Seg} (h : Ws w0 w g ss) : Calls Tryd.prog 34 #[.pointer (some ⟨g, 0, none⟩)] w fun e w' => ∃ A c, e = .returned (.slice A ss.length c) ∧ Gls w' A ss.length c (ss.map rgS) ∧ Ws w0 w' g ss := by
  obtain ⟨hb, F, hl⟩ := h
  refine (Regions_s hl).mono fun e w' ⟨A, c, h1, h2, h3⟩ => ⟨A, c, ?_, ?_, Ws.quiet ⟨hb, F, hl⟩ h3⟩
  · rw [h1, List.length_map]
  · have := Gls.of_own h2
    rwa [List.length_map] at this
theorem Good.next_at {ss : List Seg} (h : Good ss) {j k : Nat} (hj : j < ss.length) (hk : k < ss.length) (hjk : j < k) : ss[j].at_ + ss[j].size ≤ ss[k].at_ := List.pairwise_iff_getElem.1 h.next j k hj hk hjk
theorem rgs_at {ss : List Seg} {k : Nat} (hk : k < ss.length) : (ss.map rgS)[k]'(by rw [List.length_map]; exact hk) = rgS ss[k] := List.getElem_map ..
end Go.Proofs.YtfkhfjefddgkoaaDoor

namespace Go.Proofs.YtfkhfjefddgkoaaDoor
open Go.RowKit

set_option maxRecDepth 100000 in
set_option maxHeartbeats 2000000 in
theorem sameR_any (n : Nat) (A A' : Option Addr) (c c' : Nat) (l : List Rg) (w : World) (h : Gls w A n c l) (h' : Gls w A' n c' l) (hn : n ≤ 1152921504606846976) :
    Calls Tryd.prog 35 #[.slice A n c, .slice A' n c'] w fun e w' => e = .returned (.bool true) ∧ Below w.heap.size w w' := by
  have H := Lib.hid h
  have H' := Lib.hid h'
  have hl := Lib.hid h.len
  clear h h'
  go_enter Tryd.func35, Tryd.ntmps35
  go_wp2_with fail
  go_loopw [5] (fun t5 wr => ∃ k : Nat, k ≤ n ∧ t5 = .int .i64 k ∧ Below w.heap.size w wr) (fun t5 _ => n - (intOf t5).toNat)
  case atStart => exact ⟨0, Nat.zero_le _, rfl, Below.refl _ _⟩
  case round =>
    obtain ⟨k, hk, rfl, hb⟩ := hrel
    have HB := Lib.hid hb
    clear hb
    by_cases hlt : k < n
    · have hkr : k < l.length := by rw [hl.out]; exact hlt
      obtain ⟨ad, rfl⟩ : ∃ ad, A = some ad := by
        cases A with
        | none => have := (H.out.nil rfl).1; omega
        | some ad => exact ⟨ad, rfl⟩
      obtain ⟨b, o, rfl⟩ := H.out.plain ad rfl
      obtain ⟨k0, k1, k2⟩ := (H.out.below HB.out).at_ b o k rfl hkr
      obtain ⟨ad, rfl⟩ : ∃ ad, A' = some ad := by
        cases A' with
        | none => have := (H'.out.nil rfl).1; omega
        | some ad => exact ⟨ad, rfl⟩
      obtain ⟨b', o', rfl⟩ := H'.out.plain ad rfl
      obtain ⟨k0', k1', k2'⟩ := (H'.out.below HB.out).at_ b' o' k rfl hkr
      have hcap := H.out.cap
      have hcap' := H'.out.cap
      generalize l[k].at_ = a0 at *
      generalize l[k].size = s0 at *
      generalize l[k].perm = p0 at *
      clear hkr
      go_wp2_with fail
      go_quiet (fail)
      go_wp2_with fail
      exact ⟨⟨k + 1, by omega, by go_num, below_drewN HB.out _⟩, by simp [intOf]; omega⟩
    · go_wp2_with fail
      first | go_ret | skip
      exact ⟨rfl, HB.out⟩
theorem Gls.keep {w w' : World} {A : Option Addr} {n c : Nat} {l : List Rg} (h : Gls w A n c l) (hk : ∀ k, row A = some k → w'.heap[k]? = w.heap[k]?) : Gls w' A n c l :=
  ⟨h.len, h.nil, h.cap, fun b o j hA hj => by
    obtain ⟨h0, h1, h2⟩ := h.at_ b o j hA hj
    have hb := hk b (by rw [hA]; rfl)
    exact ⟨(World.cell?_of_block (a := ⟨b, _, none⟩) hb).trans h0, (World.cell?_of_block (a := ⟨b, _, none⟩) hb).trans h1, (World.cell?_of_block (a := ⟨b, _, none⟩) hb).trans h2⟩, h.plain⟩
/-- One space, made since w0, that lies beside the blocks Q. -/
def Wq (w0 w : World) (g : Nat) (ss : List Seg) (Q : Nat → Prop) : Prop := Below w0.heap.size w0 w ∧ ∃ F, Lies w w0.heap.size g F ss ∧ ∀ k, Q k → ¬ F k ∧ k < w.heap.size
theorem Ws.q {w0 w : World} {g : Nat} {ss : List Seg} (h : Ws w0 w g ss) : Wq w0 w g ss (fun _ => False) := by
  obtain ⟨hb, F, hl⟩ := h
  exact ⟨hb, F, hl, fun _ h => h.elim⟩
theorem Wq.ws {w0 w : World} {g : Nat} {ss : List Seg} {Q : Nat → Prop} (h : Wq w0 w g ss Q) : Ws w0 w g ss := by
  obtain ⟨hb, F, hl, _⟩ := h
  exact ⟨hb, F, hl⟩
theorem Wq.quiet {w0 w w' : World} {g : Nat} {ss : List Seg} {Q : Nat → Prop} (h : Wq w0 w g ss Q) (hb : Below w.heap.size w w') : Wq w0 w' g ss (fun k => Q k ∨ (w.heap.size ≤ k ∧ k < w'.heap.size)) := by
  obtain ⟨hb0, F, hl, hq⟩ := h
  refine ⟨hb0.trans (hb.mono hb0.size), F, hl.below hb, fun k hk => ?_⟩
  rcases hk with hk | ⟨h1, h2⟩
  · exact ⟨(hq k hk).1, Nat.lt_of_lt_of_le (hq k hk).2 hb.size⟩
  · exact ⟨fun hf => by have := (hl.lt hf).2; omega, h2⟩
theorem Wq.weak {w0 w : World} {g : Nat} {ss : List Seg} {Q Q' : Nat → Prop} (h : Wq w0 w g ss Q) (hw : ∀ k, Q' k → Q k) : Wq w0 w g ss Q' := by
  obtain ⟨hb0, F, hl, hq⟩ := h
  exact ⟨hb0, F, hl, fun k hk => hq k (hw k hk)⟩
theorem Wq.still {w0 w w' : World} {g : Nat} {ss : List Seg} {Q : Nat → Prop} (h : Wq w0 w g ss Q) (hb : Below w.heap.size w w') : Wq w0 w' g ss Q := (h.quiet hb).weak fun _ h => .inl h
theorem Wq.act {w0 w : World} {g : Nat} {ss ss' : List Seg} {Q : Nat → Prop} (h : Wq w0 w g ss Q) {f : Nat} {args : Array Value} {v : Value} (hc : ∀ F, Lies w w0.heap.size g F ss → (∀ k, Q k → ¬ F k ∧ k < w.heap.size) → Calls Tryd.prog f args w fun e w' => e = .returned v ∧ Went w w' w0.heap.size g F ss') :
    Calls Tryd.prog f args w fun e w' => e = .returned v ∧ Wq w0 w' g ss' Q ∧ ∀ k, Q k → w'.heap[k]? = w.heap[k]? := by
  obtain ⟨hb, F, hl, hq⟩ := h
  refine (hc F hl hq).mono fun e w' hw => ⟨hw.1, ?_, fun k hk => ?_⟩
  · obtain ⟨F', h1, h2, h3⟩ := hw.2
    refine ⟨hb.trans (h2.below (fun k hk => (hl.lt hk).1) hb.size), F', h1, fun k hk => ⟨fun hf => ?_, Nat.lt_of_lt_of_le (hq k hk).2 h2.size⟩⟩
    rcases h3 k hf with h | h
    · exact (hq k hk).1 h
    · have := (hq k hk).2; omega
  · obtain ⟨F', _, h2, _⟩ := hw.2
    exact h2.block k (hq k hk).2 (hq k hk).1
theorem Wq.ask {w0 w : World} {g : Nat} {ss : List Seg} {Q : Nat → Prop} (h : Wq w0 w g ss Q) {f : Nat} {args : Array Value} {v : Value} (hc : ∀ F, Lies w w0.heap.size g F ss → Calls Tryd.prog f args w fun e w' => e = .returned v ∧ Below w.heap.size w w') :
    Calls Tryd.prog f args w fun e w' => e = .returned v ∧ Wq w0 w' g ss Q ∧ Below w.heap.size w w' := by
  obtain ⟨F, hl, _⟩ := h.2
  exact (hc F hl).mono fun e w' hw => ⟨hw.1, h.still hw.2, hw.2⟩
theorem Wq.read {w0 w : World} {g : Nat} {ss : List Seg} {Q : Nat → Prop} (h : Wq w0 w g ss Q) {f : Nat} {args : Array Value} {a n need : Int} (hc : ∀ F, Lies w w0.heap.size g F ss → Calls Tryd.prog f args w (TookS w ss a n need)) :
    Calls Tryd.prog f args w fun e w' => TookS w ss a n need e w' ∧ Wq w0 w' g ss Q := by
  obtain ⟨F, hl, _⟩ := h.2
  exact (hc F hl).mono fun _ _ hw => ⟨hw, h.still hw.1⟩
/-- The regions, and the slice that they lie in beside the space. -/
theorem Wq.regions {w0 w : World} {g : Nat} {ss : List Seg} {Q : Nat → Prop} (h : Wq w0 w g ss Q) : Calls Tryd.prog 34 #[.pointer (some ⟨g, 0, none⟩)] w fun e w' => ∃ A c, e = .returned (.slice A ss.length c) ∧ Gls w' A ss.length c (ss.map rgS) ∧ Wq w0 w' g ss (fun k => Q k ∨ row A = some k) ∧ Below w.heap.size w w' := by
  obtain ⟨F, hl, _⟩ := h.2
  refine (Regions_s hl).mono fun e w' ⟨A, c, h1, h2, h3⟩ => ⟨A, c, ?_, ?_, (h.quiet h3).weak fun k hk => hk.imp id fun e => ?_, h3⟩
  · rw [h1, List.length_map]
  · have := Gls.of_own h2
    rwa [List.length_map] at this
  · exact h2.lt k (by rw [row_own]; exact e)
theorem Good.few {w0 w : World} {g : Nat} {ss : List Seg} {Q : Nat → Prop} (h : Wq w0 w g ss Q) : ss.length ≤ 67108864 := by
  obtain ⟨_, F, ⟨A', c', rs, h1, h2, _, _⟩, _⟩ := h
  rw [← h2, segs_len]
  exact ord_few h1.ord
end Go.Proofs.YtfkhfjefddgkoaaDoor
