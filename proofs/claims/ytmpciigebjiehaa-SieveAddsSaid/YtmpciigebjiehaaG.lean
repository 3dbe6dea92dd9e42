/-
  Lists of filters in memory; whether filters are alike.
-/
import Derived.Test.YtmpciigebjiehaaF
namespace Go.Proofs.Ytmpciigebjiehaa
open Go.RowKit

structure Fi where
  ws : List UInt64
  s : Int
/-- Filters in memory. -/
structure Fls (w : World) (P : Nat → Prop) (A : Option Addr) (n c : Nat) (fs : List Fi) : Prop where
  len : fs.length = n
  nil : A = none → n = 0 ∧ c = 0
  cap : n ≤ c
  blk : ∀ ad, A = some ad → 0 < n → P ad.block
  at_ : ∀ ad, A = some ad → ∀ i (hi : i < fs.length), ∃ Ai ci, Src w P Ai fs[i].ws.length ci (wds fs[i].ws) ∧ w.cell? (ad.add (i * 2)) = some (.slice Ai fs[i].ws.length ci) ∧ w.cell? (ad.add (i * 2 + 1)) = some (.int .i64 fs[i].s)
theorem Fls.keep {w w' : World} {P : Nat → Prop} {A : Option Addr} {n c : Nat} {fs : List Fi} (h : Fls w P A n c fs) (hk : ∀ k, P k → k < w.heap.size → w'.heap[k]? = w.heap[k]?) : Fls w' P A n c fs :=
  ⟨h.len, h.nil, h.cap, h.blk, fun ad hA i hi => by
    obtain ⟨Ai, ci, h1, h2, h3⟩ := h.at_ ad hA i hi
    have hb := h.blk ad hA (by rw [← h.len]; omega)
    refine ⟨Ai, ci, h1.keep hk, ?_, ?_⟩
    · rw [World.cell?_of_block (hk _ (by rw [addBlock]; exact hb) (World.block_lt_of_cell? w _ h2))]
      exact h2
    · rw [World.cell?_of_block (hk _ (by rw [addBlock]; exact hb) (World.block_lt_of_cell? w _ h3))]
      exact h3⟩
theorem Fls.weak {w : World} {P Q : Nat → Prop} {A : Option Addr} {n c : Nat} {fs : List Fi} (h : Fls w P A n c fs) (hk : ∀ k, P k → Q k) : Fls w Q A n c fs :=
  ⟨h.len, h.nil, h.cap, fun ad hA hn => hk _ (h.blk ad hA hn), fun ad hA i hi => by
    obtain ⟨Ai, ci, h1, h2⟩ := h.at_ ad hA i hi
    exact ⟨Ai, ci, h1.weak hk, h2⟩⟩
theorem Fls.below {w w' : World} {P : Nat → Prop} {A : Option Addr} {n c : Nat} {fs : List Fi} {B : Nat} (h : Fls w P A n c fs) (hb : Below B w w') (hP : ∀ k, P k → k < B) : Fls w' P A n c fs :=
  h.keep fun k hk _ => hb.block k (hP k hk)
theorem Fls.lt {w : World} {P : Nat → Prop} {A : Option Addr} {n c : Nat} {fs : List Fi} (h : Fls w P A n c fs) : Fls w (fun k => k < w.heap.size) A n c fs :=
  ⟨h.len, h.nil, h.cap, fun ad hA hn => (by
    obtain ⟨_, _, _, h2, _⟩ := h.at_ ad hA 0 (by rw [h.len]; exact hn)
    have := World.block_lt_of_cell? w _ h2
    rw [addBlock] at this
    exact this), fun ad hA i hi => by
    obtain ⟨Ai, ci, h1, h2⟩ := h.at_ ad hA i hi
    exact ⟨Ai, ci, h1.lt, h2⟩⟩
theorem plainAdd (b o k : Nat) : (⟨b, o, none⟩ : Addr).add k = ⟨b, o + k, none⟩ := by unfold Addr.add; split <;> simp_all
/-- The place of a list of filters is plain. -/
theorem Fls.plain {w : World} {P : Nat → Prop} {ad : Addr} {n c : Nat} {fs : List Fi} (h : Fls w P (some ad) n c fs) (h0 : 0 < n) : ∃ b o, ad = ⟨b, o, none⟩ := by
  obtain ⟨b, o, spot⟩ := ad
  have hs : spot = none := by
    obtain ⟨_, _, _, hc0, _⟩ := h.at_ _ rfl 0 (by rw [h.len]; exact h0)
    have h0 := World.cell?_spot hc0
    simpa [Addr.add] using h0
  subst hs
  exact ⟨b, o, rfl⟩
theorem Fls.get {w : World} {P : Nat → Prop} {b o n c : Nat} {fs : List Fi} (h : Fls w P (some ⟨b, o, none⟩) n c fs) (k : Nat) (hk : k < fs.length) :
    ∃ Ai ci, Src w P Ai fs[k].ws.length ci (wds fs[k].ws) ∧ w.cell? ⟨b, o + k * 2, none⟩ = some (.slice Ai fs[k].ws.length ci) ∧ w.cell? ⟨b, o + k * 2 + 1, none⟩ = some (.int .i64 fs[k].s) := by
  obtain ⟨Ai, ci, h1, h2, h3⟩ := h.at_ _ rfl k hk
  rw [plainAdd] at h2 h3
  exact ⟨Ai, ci, h1, h2, h3⟩

/-- Filters of one form. -/
def likeB (f g : Fi) : Bool := decide (f.ws.length = g.ws.length ∧ f.s = g.s)
def alikeB (fs : List Fi) : Bool := match fs with
  | [] => false
  | f :: r => formB f.ws.length f.s && r.all (fun g => likeB g f)

theorem alike_any (P : Nat → Prop) (A : Option Addr) (n c : Nat) (fs : List Fi) (w : World) (h : Fls w P A n c fs) (hn : n ≤ 4611686018427387904) (hw : ∀ f ∈ fs, f.ws.length ≤ 4611686018427387904) :
    Calls Try.prog 36 #[.slice A n c] w fun e w' => e = .returned (.bool (alikeB fs)) ∧ Below w.heap.size w w' := by
  match fs, h with
  | [], h =>
    obtain rfl : 0 = n := h.len
    go_enter Try.func36, Try.ntmps36
    go_wp2
    go_ret
    exact ⟨rfl, Below.refl _ _⟩
  | f :: r, h =>
    have hl : r.length + 1 = n := h.len
    subst hl
    cases A with
    | none => have := (h.nil rfl).1; omega
    | some ad =>
      obtain ⟨b, o, rfl⟩ := h.plain (by omega)
      obtain ⟨A0, c0, hs0, k0, k1⟩ := h.get 0 (by simp)
      have hw0 := hw f (by simp)
      have hcap := h.cap
      simp only [List.getElem_cons_zero, Nat.zero_mul, Nat.add_zero] at hs0 k0 k1
      have H := Lib.hid h
      have HW := Lib.hid hw
      have HS0 := Lib.hid hs0
      clear h hw hs0
      cases hf : formB f.ws.length f.s
      · have HF := Lib.hid hf
        have hr : alikeB (f :: r) = false := by simp [alikeB, hf]
        rw [hr]
        clear hf hr
        go_enter Try.func36, Try.ntmps36
        go_wp2_with (go_at_call 24; refine (right_any A0 _ c0 f.s _ (by omega)).mono ?_; rw [HF.out]; rintro e w1 ⟨rfl, hb1⟩)
        go_ret
        exact ⟨rfl, hb1⟩
      · have HF := Lib.hid hf
        clear hf
        go_enter Try.func36, Try.ntmps36
        go_wp2_with (go_at_call 24; refine (right_any A0 _ c0 f.s _ (by omega)).mono ?_; rw [HF.out]; rintro e w1 ⟨rfl, hb1⟩; have HB1 := Lib.hid hb1; clear hb1)
        all_goals
          have HA := Lib.hid (show alikeB (f :: r) = r.all (fun g => likeB g f) by simp [alikeB, HF.out])
          go_loopw [18] (fun i wr => ∃ k : Nat, k ≤ r.length ∧ i = .int .i64 k ∧ Below w.heap.size w wr ∧ ∀ j (hj : j < r.length), j < k → likeB r[j] f = true) (fun i _ => r.length - (intOf i).toNat)
          case atStart => exact ⟨0, Nat.zero_le _, rfl, HB1.out, by intro j hj hk; omega⟩
        · clear k0 k1
          case round =>
            obtain ⟨k, hk, rfl, hb, hall⟩ := hrel
            obtain rfl : k = r.length := by omega
            have HB := Lib.hid hb
            have HALL := Lib.hid hall
            clear hb hall
            go_wp2
            go_ret
            rw [HA.out]
            refine ⟨?_, HB.out⟩
            have : (r.all fun g => likeB g f) = true := by
              rw [List.all_eq_true]
              intro g hg
              obtain ⟨j, hj, rfl⟩ := List.getElem_of_mem hg
              exact HALL.out j hj hj
            rw [this]
            rfl
        · case round =>
            obtain ⟨k, hk, rfl, hb, hall⟩ := hrel
            have HB := Lib.hid hb
            have HALL := Lib.hid hall
            by_cases hlt : k < r.length
            · obtain ⟨A1, c1, _, e0, e1⟩ := (H.out.lt.below hb (fun _ h => h)).get (k + 1) (by simp; omega)
              simp only [List.getElem_cons_succ] at e0 e1
              rw [show o + (k + 1) * 2 = o + 2 + k * 2 by omega] at e0 e1
              have k0 := hb.cell (p := ⟨b, o, none⟩) (World.block_lt_of_cell? w _ k0) |>.trans k0
              have k1 := hb.cell (p := ⟨b, o + 1, none⟩) (World.block_lt_of_cell? w _ k1) |>.trans k1
              have q0 : ∀ x : Obj, (wr.alloc x).cell? ⟨b, o, none⟩ = some (.slice A0 f.ws.length c0) := fun x => cell_alloc k0 x
              have q1 : ∀ x : Obj, (wr.alloc x).cell? ⟨b, o + 1, none⟩ = some (.int .i64 f.s) := fun x => cell_alloc k1 x
              clear hb hall
              by_cases hle : r[k].ws.length = f.ws.length
              · by_cases hse : r[k].s = f.s
                · have hlk : likeB r[k] f = true := by simp [likeB, hle, hse]
                  have HLK := Lib.hid hlk
                  clear hlk
                  go_wp2
                  go_quiet (fail)
                  go_wp2
                  go_roundw
                  case rel =>
                    refine ⟨k + 1, by omega, by go_num, below_drewN (HB.out.alloc HB.out.size _) _, fun j hj hjk => ?_⟩
                    by_cases he : j = k
                    · subst he; exact HLK.out
                    · exact HALL.out j hj (by omega)
                  case measure => simp [intOf]; omega
                · have hne : (r[k].s != f.s) = true := by simpa using hse
                  have hlk : (r.all fun g => likeB g f) = false := by
                    rw [List.all_eq_false]
                    exact ⟨r[k], List.getElem_mem hlt, by simp [likeB, hse]⟩
                  go_wp2
                  go_quiet (fail)
                  go_wp2
                  go_ret
                  rw [HA.out, hlk]
                  exact ⟨rfl, below_drewN (HB.out.alloc HB.out.size _) _⟩
              · have hne : ((r[k].ws.length : Int) != (f.ws.length : Int)) = true := by simp only [bne_iff_ne, ne_eq]; omega
                have hlk : (r.all fun g => likeB g f) = false := by
                  rw [List.all_eq_false]
                  exact ⟨r[k], List.getElem_mem hlt, by simp [likeB, hle]⟩
                go_wp2
                go_quiet (fail)
                go_wp2
                go_ret
                rw [HA.out, hlk]
                exact ⟨rfl, below_drewN (HB.out.alloc HB.out.size _) _⟩
            · obtain rfl : k = r.length := by omega
              clear k0 k1 hb hall
              go_wp2
              go_ret
              rw [HA.out]
              refine ⟨?_, HB.out⟩
              have : (r.all fun g => likeB g f) = true := by
                rw [List.all_eq_true]
                intro g hg
                obtain ⟨j, hj, rfl⟩ := List.getElem_of_mem hg
                exact HALL.out j hj hj
              rw [this]
              rfl
end Go.Proofs.Ytmpciigebjiehaa
