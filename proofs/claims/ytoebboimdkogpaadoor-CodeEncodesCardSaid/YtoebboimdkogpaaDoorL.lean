/-
  Lines and their words, as plain functions; the library's SplitN.
-/
import Derived.Test.YtoebboimdkogpaaDoorK
import Derived.Lib.SplitLaws
namespace Go.Proofs.YtoebboimdkogpaaDoor
open Go.RowKit

/-- A text's pieces between a byte. -/
def cut (c : UInt8) : Str → List Str
  | [] => [[]]
  | x :: l => if x = c then [] :: cut c l else match cut c l with
    | [] => [[x]]
    | p :: ps => (x :: p) :: ps
theorem cut_ne (c : UInt8) (l : Str) : cut c l ≠ [] := by
  cases l with
  | nil => simp [cut]
  | cons x l =>
    unfold cut
    split
    · simp
    · split <;> simp
theorem cut_cons (c x : UInt8) (l : Str) (h : x ≠ c) : ∃ p ps, cut c l = p :: ps ∧ cut c (x :: l) = (x :: p) :: ps := by
  cases hc : cut c l with
  | nil => exact absurd hc (cut_ne c l)
  | cons p ps => exact ⟨p, ps, rfl, by rw [cut, if_neg h, hc]⟩
theorem cut_hit (c : UInt8) (l : Str) : cut c (c :: l) = [] :: cut c l := by rw [cut, if_pos rfl]
theorem cut_length (c : UInt8) (l : Str) : (cut c l).length ≤ l.length + 1 := by
  induction l with
  | nil => simp [cut]
  | cons x l ih =>
    by_cases h : x = c
    · subst h; rw [cut_hit]; simp; omega
    · obtain ⟨p, ps, h1, h2⟩ := cut_cons c x l h
      rw [h1] at ih
      rw [h2]
      simp at ih ⊢
      omega
theorem cut_le (c : UInt8) (l : Str) : ∀ p ∈ cut c l, p.length ≤ l.length := by
  induction l with
  | nil => intro p hp; simp [cut] at hp; subst hp; simp
  | cons x l ih =>
    by_cases h : x = c
    · subst h
      rw [cut_hit]
      intro p hp
      rcases List.mem_cons.1 hp with rfl | hp
      · simp
      · have := ih p hp; simp; omega
    · obtain ⟨q, qs, h1, h2⟩ := cut_cons c x l h
      rw [h1] at ih
      rw [h2]
      intro p hp
      rcases List.mem_cons.1 hp with rfl | hp
      · have := ih q (by simp); simp; omega
      · have := ih p (by simp [hp]); simp; omega
/-- At most so many cuts. -/
def cutN (c : UInt8) : Nat → Str → List Str
  | 0, l => [l]
  | _ + 1, [] => [[]]
  | k + 1, x :: l => if x = c then [] :: cutN c k l else match cutN c (k + 1) l with
    | [] => [[x]]
    | p :: ps => (x :: p) :: ps
theorem cutN_ne (c : UInt8) (k : Nat) (l : Str) : cutN c k l ≠ [] := by
  match k, l with
  | 0, l => simp [cutN]
  | k + 1, [] => simp [cutN]
  | k + 1, x :: l =>
    rw [cutN]
    split
    · simp
    · split <;> simp
theorem splitK_cut (c : UInt8) : ∀ (l : Str) (k : Nat), Lib.splitK [c] 0 k l = cutN c k l
  | l, 0 => by simp [Lib.splitK, cutN]
  | [], k + 1 => by
    have : Lib.index [] [c] = -1 := by rw [Lib.index_one]; rfl
    rw [Lib.splitK, this]
    rfl
  | x :: l, k + 1 => by
    by_cases h : x = c
    · subst h
      have hix : Lib.index (x :: l) [x] = 0 := by rw [Lib.index]; simp [List.isPrefixOf]
      rw [Lib.splitK, hix, cutN, if_pos rfl, ← splitK_cut x l k]
      simp
    · have hp : ([c] : List UInt8).isPrefixOf (x :: l) = false := by simp [List.isPrefixOf, Ne.symm h]
      have hix : Lib.index (x :: l) [c] = if Lib.index l [c] == -1 then -1 else Lib.index l [c] + 1 := by rw [Lib.index, hp]; simp
      rw [cutN, if_neg h, ← splitK_cut c l (k + 1)]
      have hge : Lib.index l [c] = -1 ∨ 0 ≤ Lib.index l [c] := by
        have := Lib.indexByte_ge l c
        rw [Lib.index_one]
        omega
      rcases hge with hm | hm
      · have e1 : Lib.splitK [c] 0 (k + 1) l = [l] := by rw [Lib.splitK, hm]; rfl
        rw [Lib.splitK, hix, hm, e1]
        rfl
      · have h1 : ¬ (Lib.index l [c] == -1) = true := fun e => by have := beq_iff_eq.1 e; omega
        have h2 : ¬ (Lib.index l [c] + 1 == -1) = true := fun e => by have := beq_iff_eq.1 e; omega
        rw [Lib.splitK, Lib.splitK, hix, if_neg h1, if_neg h2]
        simp only [if_neg h1]
        obtain ⟨i, hi⟩ : ∃ i : Nat, Lib.index l [c] = i := ⟨(Lib.index l [c]).toNat, by omega⟩
        rw [hi, show (((i : Int) + 1).toNat) = i + 1 by omega]
        simp
/-- Few pieces are all; of many there are k + 1, and the first is the first. -/
theorem cutN_cut (c : UInt8) : ∀ (l : Str) (k : Nat), ((cut c l).length ≤ k + 1 → cutN c k l = cut c l) ∧ (k + 1 < (cut c l).length → (cutN c k l).length = k + 1 ∧ (0 < k → (cutN c k l).head? = (cut c l).head?))
  | [], k => by
    refine ⟨fun _ => ?_, fun h => ?_⟩
    · cases k <;> rfl
    · simp [cut] at h
  | x :: l, 0 => by
    refine ⟨fun h => ?_, fun _ => ⟨rfl, fun h => by omega⟩⟩
    by_cases hx : x = c
    · subst hx
      rw [cut_hit] at h
      have := List.length_pos_iff.2 (cut_ne x l)
      simp only [List.length_cons] at h
      omega
    · obtain ⟨p, ps, h1, h2⟩ := cut_cons c x l hx
      rw [h2] at h
      have hps : ps = [] := List.eq_nil_of_length_eq_zero (by simp only [List.length_cons] at h; omega)
      subst hps
      have := (cutN_cut c l 0).1 (by rw [h1]; simp)
      rw [h1, cutN] at this
      injection this with this
      subst this
      rw [h2]
      rfl
  | x :: l, k + 1 => by
    by_cases hx : x = c
    · subst hx
      rw [cut_hit, cutN, if_pos rfl]
      obtain ⟨h1, h2⟩ := cutN_cut x l k
      refine ⟨fun h => ?_, fun h => ⟨?_, fun _ => rfl⟩⟩
      · rw [h1 (by simp at h; omega)]
      · have := (h2 (by simp at h; omega)).1
        simp
        omega
    · obtain ⟨p, ps, e1, e2⟩ := cut_cons c x l hx
      obtain ⟨h1, h2⟩ := cutN_cut c l (k + 1)
      rw [e2, cutN, if_neg hx]
      rw [e1] at h1 h2
      refine ⟨fun h => ?_, fun h => ?_⟩
      · rw [h1 (by simpa using h)]
      · obtain ⟨h3, h4⟩ := h2 (by simpa using h)
        have h5 := h4 (by omega)
        cases hq : cutN c (k + 1) l with
        | nil => exact absurd hq (cutN_ne c (k + 1) l)
        | cons q qs =>
          rw [hq] at h3 h5
          simp at h5
          subst h5
          exact ⟨by simpa using h3, fun _ => rfl⟩

def strs (l : List Str) : List Value := l.map str
theorem strs_len (l : List Str) : (strs l).length = l.length := by simp [strs]
theorem strs_app (l m : List Str) : strs (l ++ m) = strs l ++ strs m := by simp [strs]
theorem strs_one (l : List Str) : ∀ u ∈ strs l, u.oneCell' = true := by
  intro u hu
  obtain ⟨p, _, rfl⟩ := List.mem_map.1 hu
  rfl
/-- The words of a line as the program splits it. -/
def words (l : Str) : List Str := cutN 32 (min 6 (l.length + 1) - 1) l
theorem words_few (l : Str) (h : (cut 32 l).length ≤ 5) : words l = cut 32 l := by
  refine (cutN_cut 32 l _).1 ?_
  have := cut_length 32 l
  omega
theorem words_many (l : Str) (h : 5 < (cut 32 l).length) : 5 < (words l).length ∧ (words l).head? = (cut 32 l).head? := by
  have hl := cut_length 32 l
  have e : min 6 (l.length + 1) - 1 = 5 := by omega
  unfold words
  rw [e]
  by_cases h6 : (cut 32 l).length ≤ 6
  · rw [(cutN_cut 32 l 5).1 h6]
    exact ⟨h, rfl⟩
  · obtain ⟨h1, h2⟩ := (cutN_cut 32 l 5).2 (by omega)
    exact ⟨by omega, h2 (by omega)⟩
theorem words_ne (l : Str) : words l ≠ [] := cutN_ne 32 _ l
theorem words_head (l : Str) : (words l).head? = (cut 32 l).head? := by
  by_cases h : (cut 32 l).length ≤ 5
  · rw [words_few l h]
  · exact (words_many l (by omega)).2
theorem cutN_le (c : UInt8) : ∀ (l : Str) (k : Nat), ∀ p ∈ cutN c k l, p.length ≤ l.length
  | l, 0 => by intro p hp; simp [cutN] at hp; subst hp; exact Nat.le_refl _
  | [], k + 1 => by intro p hp; simp [cutN] at hp; subst hp; simp
  | x :: l, k + 1 => by
    intro p hp
    rw [cutN] at hp
    split at hp
    · rcases List.mem_cons.1 hp with rfl | hp
      · simp
      · have := cutN_le c l k p hp; simp; omega
    · split at hp
      · rename_i h; exact absurd h (cutN_ne c _ l)
      · rename_i q qs h
        have ih := cutN_le c l (k + 1)
        rw [h] at ih
        rcases List.mem_cons.1 hp with rfl | hp
        · have := ih q (by simp); simp; omega
        · have := ih p (by simp [hp]); simp; omega

theorem splitN_any (l : Str) (w : World) (hl : l.length < 4294967281) (h : Env w) :
    Calls Tryd.prog 49 #[str l, .string ⟨#[32]⟩, .int .i64 6] w fun e w' => ∃ c, e = .returned (.slice (some ⟨w.heap.size, 0, none⟩) (words l).length c) ∧ Below w.heap.size w w' ∧ Src w' (fun _ => True) (some ⟨w.heap.size, 0, none⟩) (words l).length c (strs (words l)) ∧ c ≤ 6 := by
  obtain ⟨m, hm⟩ := h.ml
  have hz : (ByteArray.mk l.toArray).size = l.length := by simp [ByteArray.size]
  refine (Tryd.strings_SplitN ⟨l.toArray⟩ ⟨#[32]⟩ 6 m w (by rw [hz]; exact hl) hm (by decide) (by decide) (by decide)).mono fun e w' h2 => ?_
  obtain ⟨he, hw⟩ := h2
  rw [hz] at he hw
  have hmap : (Lib.splitB ⟨#[32]⟩ 0 (min 6 (l.length + 1) - 1) ⟨l.toArray⟩).map Value.string = strs (words l) := by
    have h := Lib.splitB_data ⟨#[32]⟩ 0 (min 6 (l.length + 1) - 1) ⟨l.toArray⟩
    have h3 : Lib.splitK (ByteArray.mk #[32]).data.toList 0 (min 6 (l.length + 1) - 1) (ByteArray.mk l.toArray).data.toList = words l := splitK_cut 32 l _
    rw [h3] at h
    rw [strs, ← h, List.map_map]
    refine List.map_congr_left fun s _ => ?_
    exact str_of s
  have hlen : (Lib.splitB ⟨#[32]⟩ 0 (min 6 (l.length + 1) - 1) ⟨l.toArray⟩).length = (words l).length := by
    have := congrArg List.length hmap
    simpa [strs_len] using this
  have hle := Lib.splitB_length_le ⟨#[32]⟩ 0 (min 6 (l.length + 1) - 1) ⟨l.toArray⟩
  rw [hlen] at he hle
  refine ⟨min 6 (l.length + 1), he, by rw [hw]; exact (Below.refl _ _).alloc (Nat.le_refl _) _, ⟨strs_len _, (by intro h; cases h), by omega, (by intro _ _ _; trivial), ?_⟩, by omega⟩
  intro ad ha j u hj
  cases ha
  have hjl := (List.getElem?_eq_some_iff.1 hj).1
  rw [hw, plainAdd, Nat.zero_add, cell_of_row _ _ j _ _ _ (heap_alloc_new w _), Lib.cellsOf, hmap]
  rw [List.getElem?_toArray, List.getElem?_append_left hjl]
  exact hj
end Go.Proofs.YtoebboimdkogpaaDoor
