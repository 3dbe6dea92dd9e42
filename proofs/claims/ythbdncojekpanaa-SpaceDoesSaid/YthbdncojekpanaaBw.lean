/-
  The law of what is written and read, walked.
  Two spaces beside each other; what is refused, and where a gap is: plain facts.
-/
import Derived.Test.YthbdncojekpanaaBs
import Derived.Test.YthbdncojekpanaaBt
import Derived.Laws.IdiomStrings
namespace Go.Proofs.Ythbdncojekpanaa
section
open Go.RowKit

abbrev str (l : Str) : Value := .string ⟨l.toArray⟩
theorem conv_string {w : World} {P : Nat → Prop} {A : Option Addr} {n c : Nat} {l : Str} (h : Src w P A n c (cells l)) : (convert 31 9 (.slice A n c)).run Try.prog w = .ok (str l) w := by
  have hl : l.length = n := by have := h.len; simpa [cells_len] using this
  subst hl
  cases A with
  | none =>
    have h0 := (h.nil rfl).1
    have : l = [] := List.eq_nil_of_length_eq_zero h0
    subst this
    exact run_convert_bytes_nil w 31 5 Try.underlying31 Try.underlying5 _ _ 9 Try.underlying9
  | some a =>
    exact run_convert_bytes_back w 31 9 5 a c l Try.underlying31 Try.underlying5 Try.underlying9 fun j hj => h.at_ a rfl j _ (by simp [cells, hj])
theorem put_hold (ss : List Seg) (a : Int) (ms : Str) (x n : Int) : holdS (putS ss a ms) x n = (holdS ss x n).map fun s => if inS a ms.length s = true then ⟨s.at_, s.size, s.perm, over s.f (a - s.at_).toNat ms⟩ else s := by
  unfold holdS putS
  rw [find_map]
  congr 2
  funext s
  split <;> rfl
theorem put_goes (ss : List Seg) (a : Int) (ms : Str) (x n need : Int) : goesS (putS ss a ms) x n need = goesS ss x n need := by
  unfold goesS
  rw [put_hold]
  cases holdS ss x n with
  | none => rfl
  | some s =>
    simp only [Option.map_some]
    split
    · rfl
    · split <;> rfl
theorem goes_hold {ss : List Seg} {a n need : Int} (h : goesS ss a n need = 0) : ∃ s, holdS ss a n = some s := by
  unfold goesS at h
  split at h
  · cases h
  · cases hh : holdS ss a n with
    | none => rw [hh] at h; cases h
    | some s => exact ⟨s, rfl⟩
theorem put_got {ss : List Seg} {a need : Int} {ms : Str} (h : goesS ss a ms.length need = 0) : gotS (putS ss a ms) a ms.length = ms := by
  obtain ⟨s, hs⟩ := goes_hold h
  obtain ⟨_, h1, h2⟩ := hold_in hs
  unfold gotS
  rw [put_hold, hs]
  simp only [Option.map_some]
  rw [if_pos (show inS a ms.length s = true by unfold inS; simpa using ⟨h1, h2⟩)]
  apply List.ext_getElem
  · simp
  · intro j h3 h4
    simp only [List.getElem_map, List.getElem_range]
    unfold over
    rw [if_pos (by omega), List.getD_eq_getElem?_getD, show (a - s.at_).toNat + j - (a - s.at_).toNat = j by omega, List.getElem?_eq_getElem h4]
    rfl
theorem put_other {ss : List Seg} {a x : Int} {ms : Str} (h : ¬ (a ≤ x ∧ x - a < ms.length)) : gotS (putS ss a ms) x 1 = gotS ss x 1 := by
  unfold gotS
  rw [put_hold]
  cases hs : holdS ss x 1 with
  | none => rfl
  | some s =>
    obtain ⟨_, h1, h2⟩ := hold_in hs
    simp only [Option.map_some]
    split
    · rename_i hin
      unfold inS at hin
      simp only [decide_eq_true_eq] at hin
      have e1 : (List.range (1 : Int).toNat) = [0] := rfl
      rw [e1]
      simp only [List.map_cons, List.map_nil]
      unfold over
      rw [if_neg (by omega)]
    · rfl
theorem goes_near {ss : List Seg} (hg : Good ss) {a n need : Int} (h : goesS ss a n need = 0) : 4096 ≤ a ∧ a ≤ 4294967296 := by
  obtain ⟨s, hs⟩ := goes_hold h
  obtain ⟨h0, h1, h2⟩ := hold_in hs
  have := hg.fit s h0
  have := (goes_len h).1
  omega
theorem Src.on {w w' : World} {P : Nat → Prop} {A : Option Addr} {n c : Nat} {xs : List Value} (h : Src w P A n c xs) (hb : Below w.heap.size w w') : Src w' (fun k => k < w'.heap.size) A n c xs := (h.lt.below hb (fun _ h => h)).lt
/-- What a read yields. -/
def readS (ss : List Seg) (a n need : Int) : Str := if goesS ss a n need = 0 then gotS ss a n else []
theorem Wq.took {w0 w : World} {g : Nat} {ss : List Seg} {Q : Nat → Prop} (h : Wq w0 w g ss Q) {f : Nat} {args : Array Value} {a n need : Int} (hc : ∀ F, Lies w w0.heap.size g F ss → Calls Try.prog f args w (TookS w ss a n need)) :
    Calls Try.prog f args w fun e w' => ∃ A c, e = .returned (.tuple #[.slice A (readS ss a n need).length c, .int .i64 (goesS ss a n need)]) ∧ Src w' (fun k => row A = some k) A (readS ss a n need).length c (cells (readS ss a n need)) ∧ Wq w0 w' g ss (fun k => Q k ∨ row A = some k) ∧ Below w.heap.size w w' := by
  obtain ⟨F, hl, _⟩ := h.2
  refine (hc F hl).mono fun e w' ⟨hb, A, l, c, h1, h2, h3⟩ => ?_
  subst h2
  refine ⟨A, c, h1, (Src.of_own h3).weak fun k hk => by rw [row_own] at hk; exact hk.1, (h.quiet hb).weak fun k hk => hk.imp id fun e => h3.lt k (by rw [row_own]; exact e), hb⟩
set_option maxRecDepth 100000 in
set_option maxHeartbeats 4000000 in
theorem keeps_any (A0 : Option Addr) (n0 c0 : Nat) (xs : List Ac) (a : Int) (b : Str) (x : Int) (A2 : Option Addr) (c2 : Nat) (ha : I64 a) (hx : I64 x) (w : World) (h : Acs w (fun k => k < w.heap.size) A0 n0 c0 xs) (hs : Src w (fun k => k < w.heap.size) A2 b.length c2 (cells b)) (hn : n0 ≤ 140737488351232) :
    Calls Try.prog 6 #[.slice A0 n0 c0, .int .i64 a, .slice A2 b.length c2, .int .i64 x] w fun e w' => e = .returned (.bool true) ∧ Below w.heap.size w w' := by
  have HX := Lib.hid h
  have HS := Lib.hid hs
  have HA := Lib.hid ha
  have HXX := Lib.hid hx
  clear h hs ha hx
  go_enter Try.func6, Try.ntmps6
  go_wp2_with fail
  refine (awake_any w).mono ?_
  rintro e w1 ⟨rfl, hb⟩
  have HP := Lib.hid (played_any A0 n0 c0 xs w w1 hb HX.out hn)
  clear hb
  go_wp2_with fail
  refine HP.out.mono ?_
  rintro e w2 ⟨g, rfl, h2⟩
  have hg := good_play xs good_nil
  have HG := Lib.hid hg
  have HR := Lib.hid (h2.q.took fun F hl => Peek_s (a := x) 1 HXX.out hl)
  generalize playS [] xs = ss at *
  clear HP h2 hg
  go_wp2_with fail
  refine HR.out.mono ?_
  rintro e w3 ⟨A3, c3, rfl, hs3, h3, _⟩
  have C := Lib.hid (h3.act fun F hl hq => Poke_s (a := a) (P := fun k => k < w.heap.size) HA.out hl (HS.out.below h3.1 (fun _ h => h)) fun q hq' => ⟨fun hf => by have := (hl.lt hf).1; omega, Nat.lt_of_lt_of_le hq' h3.1.size⟩)
  have HS3 := Lib.hid hs3
  clear HR h3 hs3
  by_cases hp : goesS ss a b.length 0 = 0
  · have hst : storeS ss a b 0 = (0, putS ss a b) := by unfold storeS; rw [if_pos hp]
    rw [hst] at C
    clear hst
    simp only at C
    go_wp2_with fail
    refine C.out.mono ?_
    rintro e w4 ⟨rfl, h4, hk4⟩
    have HS4 := Lib.hid (HS3.out.keep fun k hk _ => hk4 k (.inr hk))
    have HR := Lib.hid (h4.took fun F hl => Peek_s (a := a) b.length HA.out hl)
    have hrd : readS (putS ss a b) a b.length 0 = b := by unfold readS; rw [put_goes, if_pos hp, put_got hp]
    rw [hrd, put_goes, hp] at HR
    clear C h4 hk4 hrd
    go_wp2_with fail
    refine HR.out.mono ?_
    rintro e w5 ⟨A5, c5, rfl, hs5, h5, hb5⟩
    have HS5 := Lib.hid hs5
    have HS4' := Lib.hid (HS4.out.on hb5)
    have HR2 := Lib.hid (h5.took fun F hl => Peek_s (a := x) 1 HXX.out hl)
    rw [put_goes] at HR2
    clear HR hs5 h5 hb5
    have HRD := Lib.hid (show goesS ss x 1 0 = 0 → ¬ (a ≤ x ∧ x - a < b.length) → readS (putS ss a b) x 1 0 = readS ss x 1 0 from fun h0 h1 => by
      unfold readS
      rw [put_goes, if_pos h0, put_other h1, if_pos h0])
    have HNX := Lib.hid (fun h0 => goes_near (need := 0) (n := 1) (a := x) HG.out h0)
    have hna := goes_near HG.out hp
    generalize readS (putS ss a b) x 1 0 = bs1 at *
    generalize readS ss x 1 0 = bs0 at *
    generalize goesS ss x 1 0 = E at *
    clear hp
    go_wp2_with fail
    refine HR2.out.mono ?_
    rintro e w6 ⟨A6, c6, rfl, hs6, h6, hb6⟩
    have cv0 := conv_string (HS4'.out.on hb6)
    have cv1 := conv_string (HS5.out.on hb6)
    have cv2 := conv_string hs6
    have cv3 := conv_string (HS.out.below h6.1 (fun _ h => h))
    have HE := Lib.hid h6.1
    clear HR2 hs6 h6 hb6 HS4 HS5 HS4'
    by_cases hE : E = 0
    · have hnx := HNX.out hE
      have e1 : wrap64 (x - a) = x - a := IntWalk.wrap64_in _ (by omega)
      have HRE := Lib.hid (HRD.out hE)
      subst hE
      clear HRD HNX
      by_cases hax : a ≤ x
      · by_cases hd : x - a < b.length
        · go_wp2_with fail
          first | go_ret | skip
          exact ⟨rfl, HE.out⟩
        · have hrr := HRE.out fun h => hd h.2
          subst hrr
          clear HRE
          go_wp2_with fail
          first | go_ret | skip
          exact ⟨by simp, HE.out⟩
      · have hrr := HRE.out fun h => hax h.1
        subst hrr
        clear HRE
        go_wp2_with fail
        first | go_ret | skip
        exact ⟨by simp, HE.out⟩
    · have b1 : (E == 0) = false := by simpa using hE
      have b2 : (E != 0) = true := by simpa using hE
      clear HRD HNX
      go_wp2_with fail
      first | go_ret | skip
      exact ⟨rfl, HE.out⟩
  · have hst : (storeS ss a b 0).1 = goesS ss a b.length 0 := by unfold storeS; rw [if_neg hp]
    rw [hst] at C
    generalize goesS ss a b.length 0 = E at *
    have b1 : (E == 0) = false := by simpa using hp
    have b2 : (E != 0) = true := by simpa using hp
    clear hst
    go_wp2_with fail
    refine C.out.mono ?_
    rintro e w4 ⟨rfl, h4, _⟩
    have HE := Lib.hid h4.1
    clear h4 C
    go_wp2_with fail
    first | go_ret | skip
    exact ⟨rfl, HE.out⟩
end

section
open Go.RowKit

/-- Two spaces, made since w0, that share nothing. -/
def W2 (w0 w : World) (g : Nat) (ss : List Seg) (g' : Nat) (ss' : List Seg) : Prop := Below w0.heap.size w0 w ∧ ∃ F F', Lies w w0.heap.size g F ss ∧ Lies w w0.heap.size g' F' ss' ∧ ∀ k, F k → ¬ F' k
theorem W2.swap {w0 w : World} {g g' : Nat} {ss ss' : List Seg} (h : W2 w0 w g ss g' ss') : W2 w0 w g' ss' g ss := by
  obtain ⟨hb, F, F', h1, h2, h3⟩ := h
  exact ⟨hb, F', F, h2, h1, fun k h h' => h3 k h' h⟩
theorem W2.went {w0 w w' : World} {g g' : Nat} {ss ss' s2 : List Seg} {F F' : Nat → Prop} (hb : Below w0.heap.size w0 w) (h1 : Lies w w0.heap.size g F ss) (h2 : Lies w w0.heap.size g' F' ss') (h3 : ∀ k, F k → ¬ F' k) (h : Went w w' w0.heap.size g F s2) : W2 w0 w' g s2 g' ss' := by
  obtain ⟨F2, p1, p2, p3⟩ := h
  refine ⟨hb.trans (p2.below (fun k hk => (h1.lt hk).1) hb.size), F2, F', p1, h2.beside p2 fun k hk hf => h3 k hf hk, fun k hk hk' => ?_⟩
  rcases p3 k hk with h | h
  · exact h3 k h hk'
  · have := (h2.lt hk').2
    omega
theorem W2.act {w0 w : World} {g g' : Nat} {ss ss' s2 : List Seg} (h : W2 w0 w g ss g' ss') {f : Nat} {args : Array Value} {v : Value} (hc : ∀ F, Lies w w0.heap.size g F ss → Calls Try.prog f args w fun e w' => e = .returned v ∧ Went w w' w0.heap.size g F s2) :
    Calls Try.prog f args w fun e w' => e = .returned v ∧ W2 w0 w' g s2 g' ss' := by
  obtain ⟨hb, F, F', h1, h2, h3⟩ := h
  exact (hc F h1).mono fun e w' hw => ⟨hw.1, W2.went hb h1 h2 h3 hw.2⟩
theorem W2.quiet {w0 w w' : World} {g g' : Nat} {ss ss' : List Seg} (h : W2 w0 w g ss g' ss') (hb' : Below w.heap.size w w') : W2 w0 w' g ss g' ss' := by
  obtain ⟨hb, F, F', h1, h2, h3⟩ := h
  exact ⟨hb.trans (hb'.mono hb.size), F, F', h1.below hb', h2.below hb', h3⟩
theorem W2.q {w0 w : World} {g g' : Nat} {ss ss' : List Seg} (h : W2 w0 w g ss g' ss') : Wq w0 w g ss (fun _ => False) := by
  obtain ⟨hb, F, F', h1, h2, h3⟩ := h
  exact ⟨hb, F, h1, fun _ h => h.elim⟩
theorem W2.of_copy {w0 w w' : World} {g : Nat} {ss : List Seg} {e : Ending} (h : Ws w0 w g ss) (hc : CopyS w ss e w') : ∃ gc, e = .returned (.pointer (some ⟨gc, 0, none⟩)) ∧ W2 w0 w' g ss gc ss := by
  obtain ⟨hb, F, hl⟩ := h
  obtain ⟨gc, F', he, h1, h2⟩ := hc
  refine ⟨gc, he, hb.trans (h2.mono hb.size), F, F', hl.below h2, ?_, fun k hk hk' => ?_⟩
  · obtain ⟨A, c, rs, p1, p2, p3, p4⟩ := h1
    exact ⟨A, c, rs, ⟨Nat.le_trans hb.size p1.hg, p1.box, own_more p1.own hb.size, fun r hr => own_more (p1.bytes r hr) hb.size, p1.short, p1.ne, p1.apart, p1.pair, p1.ord⟩, p2, p3, p4⟩
  · have := (hl.lt hk).2
    have := (h1.lt hk').1
    omega
theorem Ws.copy {w0 w : World} {g : Nat} {ss : List Seg} (h : Ws w0 w g ss) : Calls Try.prog 12 #[.pointer (some ⟨g, 0, none⟩)] w fun e w' => ∃ gc, e = .returned (.pointer (some ⟨gc, 0, none⟩)) ∧ W2 w0 w' g ss gc ss := by
  obtain ⟨F, hl⟩ := h.2
  exact (Copy_s hl).mono fun e w' hc => W2.of_copy h hc

theorem W2.took {w0 w : World} {g g' : Nat} {ss ss' : List Seg} (h : W2 w0 w g ss g' ss') {f : Nat} {args : Array Value} {a n need : Int} (hc : ∀ F, Lies w w0.heap.size g F ss → Calls Try.prog f args w (TookS w ss a n need)) :
    Calls Try.prog f args w fun e w' => ∃ A c, e = .returned (.tuple #[.slice A (readS ss a n need).length c, .int .i64 (goesS ss a n need)]) ∧ Src w' (fun k => k < w'.heap.size) A (readS ss a n need).length c (cells (readS ss a n need)) ∧ W2 w0 w' g ss g' ss' ∧ Below w.heap.size w w' :=
  (h.q.took hc).mono fun _ _ ⟨A, c, h1, h2, _, h4⟩ => ⟨A, c, h1, h2.lt, h.quiet h4, h4⟩
theorem W2.regions {w0 w : World} {g g' : Nat} {ss ss' : List Seg} (h : W2 w0 w g ss g' ss') : Calls Try.prog 22 #[.pointer (some ⟨g, 0, none⟩)] w fun e w' => ∃ A c, e = .returned (.slice A ss.length c) ∧ Gls w' A ss.length c (ss.map rgS) ∧ W2 w0 w' g ss g' ss' ∧ Below w.heap.size w w' :=
  h.q.regions.mono fun _ _ ⟨A, c, h1, h2, _, h4⟩ => ⟨A, c, h1, h2, h.quiet h4, h4⟩
theorem W2.few {w0 w : World} {g g' : Nat} {ss ss' : List Seg} (h : W2 w0 w g ss g' ss') : ss.length ≤ 67108864 := Good.few h.q

theorem store_refused {ss : List Seg} {a need : Int} {ms : Str} (h : (storeS ss a ms need).1 ≠ 0) : (storeS ss a ms need).2 = ss := by
  unfold storeS at h ⊢
  split
  · rename_i h0
    rw [if_pos h0] at h
    exact absurd rfl h
  · rfl
theorem act_refused {ss : List Seg} (hg : Good ss) {x : Ac} (h : (actS ss x).2.1 ≠ 0) : (actS ss x).2.2 = ss := by
  unfold actS at h ⊢
  split
  · rename_i h1
    rw [if_pos h1] at h
    rcases map_cases hg x.n x.perm with hc | hc | ⟨a, hc, _⟩
    · rw [hc]
    · rw [hc]
    · rw [hc] at h
      exact absurd rfl h
  rename_i h1
  rw [if_neg h1] at h
  split
  · rename_i h2
    rw [if_pos h2] at h
    simp only at h ⊢
    unfold mapAtS at h ⊢
    split
    · rename_i h3
      rw [if_pos h3] at h
      split
      · rename_i h4
        rw [if_pos h4] at h
        exact absurd rfl h
      · rfl
    · rfl
  rename_i h2
  rw [if_neg h2] at h
  split
  · rename_i h3
    rw [if_pos h3] at h
    simp only at h ⊢
    unfold unmapS at h ⊢
    split
    · rename_i h4
      rw [if_pos h4] at h
      exact absurd rfl h
    · rfl
  rename_i h3
  rw [if_neg h3] at h
  split
  · rename_i h4
    rw [if_pos h4] at h
    simp only at h ⊢
    unfold protS at h ⊢
    split
    · rename_i h5
      rw [if_pos h5] at h
      split
      · rename_i h6
        rw [if_pos h6] at h
        exact absurd rfl h
      · rfl
    · rfl
  rename_i h4
  rw [if_neg h4] at h
  split
  · rename_i h5
    rw [if_pos h5] at h
    exact store_refused h
  rename_i h5
  rw [if_neg h5] at h
  split
  · rename_i h6
    rw [if_pos h6] at h
    exact store_refused h
  rename_i h6
  rw [if_neg h6] at h
  split
  · rename_i h7
    rw [if_pos h7] at h
    exact store_refused h
  rename_i h7
  rw [if_neg h7] at h
  split
  · rename_i h8
    rw [if_pos h8] at h
    exact store_refused h
  · rfl
theorem gap_least {n : Int} : ∀ {ss : List Seg} {a r : Int}, gapS n a ss = some r → ∀ a', a ≤ a' → a' < r → ¬ freeS ss a' n
  | [], a, r, h, a', h1, h2 => by
    unfold gapS at h
    split at h
    · cases h; omega
    · cases h
  | s :: ss, a, r, h, a', h1, h2 => by
    intro hf
    unfold gapS at h
    split at h
    · cases h; omega
    · by_cases h3 : a' < s.at_ + s.size
      · rcases hf s (List.mem_cons_self ..) with h4 | h4 <;> omega
      · exact gap_least h a' (by omega) h2 fun x hx => hf x (List.mem_cons_of_mem _ hx)
theorem gap_map {ss : List Seg} (hg : Good ss) (n : Int) : (∃ e, (e = 1 ∨ e = 3) ∧ gapA ss n = (0, e) ∧ mapS ss n 3 = (0, e, ss)) ∨ ∃ a, gapA ss n = (a, 0) ∧ mapS ss n 3 = (a, 0, insS (newS a (up n) 3) ss) ∧ mapAtS ss a n 3 = (0, insS (newS a (up n) 3) ss) ∧ (4096 ≤ a ∧ a ≤ 4294967296) ∧ ∀ k : Nat, (mapAtS ss (a - 64 * (1 + (k : Int))) n 3).1 ≠ 0 ∧ (mapAtS ss (a - 64 * (1 + (k : Int))) n 3).2 = ss := by
  unfold gapA mapS
  cases hs : sizeB n with
  | false => exact .inl ⟨1, .inl rfl, rfl, rfl⟩
  | true =>
    have hs2 := size_of hs
    cases hgp : gapS n 4096 ss with
    | none => exact .inl ⟨3, .inr rfl, rfl, rfl⟩
    | some a =>
      obtain ⟨g1, g2, g3, g4⟩ := gapS_free hg (fun x hx => (hg.fit x hx).1) hgp
      have g5 := g4 (by omega)
      have hst : startB a n = true := by unfold startB; simp; omega
      refine .inr ⟨a, rfl, rfl, ?_, ⟨g1, by omega⟩, fun k => ?_⟩
      · unfold mapAtS
        rw [hs, hst, show permB 3 = true from rfl, if_pos (show (true && (true && true)) = true from rfl), if_pos g3]
      · unfold mapAtS
        split
        · rename_i hb
          obtain ⟨_, hb⟩ := (Bool.and_eq_true _ _).mp hb
          obtain ⟨_, hb⟩ := (Bool.and_eq_true _ _).mp hb
          have hb2 := start_of hb
          rw [if_neg (gap_least hgp _ hb2.2.1 (by omega))]
          exact ⟨by omega, rfl⟩
        · exact ⟨by omega, rfl⟩
end
end Go.Proofs.Ythbdncojekpanaa
