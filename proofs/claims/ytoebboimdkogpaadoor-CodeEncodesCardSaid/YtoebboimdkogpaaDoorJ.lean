/-
  Decode: the program's and the document's.
-/
import Derived.Test.YtoebboimdkogpaaDoorIa
import Derived.Laws.Slices
namespace Go.Proofs.YtoebboimdkogpaaDoor
open Go.RowKit

/-! Parts of a slice. -/
def dropA (A : Option Addr) (c k : Nat) : Option Addr := if c = k then A else A.map (·.add k)
theorem addAdd (a : Addr) (i j : Nat) : (a.add i).add j = a.add (i + j) := by
  unfold Addr.add
  by_cases hi : i = 0 <;> by_cases hj : j = 0 <;> simp [hi, hj, Nat.add_assoc]
theorem Src.sub {w : World} {P : Nat → Prop} {A : Option Addr} {n c : Nat} {xs : List Value} (h : Src w P A n c xs) (k m : Nat) (hk : k + m ≤ n) : Src w P (dropA A c k) m (c - k) ((xs.drop k).take m) := by
  have hl := h.len
  have hc := h.cap
  refine ⟨by simp; omega, fun hA => ?_, by omega, fun ad hA hm => ?_, fun ad hA j u hu => ?_⟩
  · unfold dropA at hA
    split at hA
    · have := h.nil hA; omega
    · have : A = none := by cases A with
        | none => rfl
        | some a => simp at hA
      have := h.nil this
      omega
  · unfold dropA at hA
    split at hA
    · omega
    · cases A with
      | none => simp at hA
      | some a =>
        simp at hA
        subst hA
        rw [addBlock]
        exact h.blk a rfl (by omega)
  · have hj := (List.getElem?_eq_some_iff.1 hu).1
    simp at hj
    unfold dropA at hA
    split at hA
    · omega
    · cases A with
      | none => simp at hA
      | some a =>
        simp at hA
        subst hA
        rw [addAdd]
        refine h.at_ a rfl _ u ?_
        rw [← hu, List.getElem?_take_of_lt (by omega), List.getElem?_drop]
theorem slice_low (A : Option Addr) (n c k : Nat) (hk : k ≤ n) (w' : World) : (Instr.slice 24 (.slice A n c) (some (.int .i64 (k : Int))) none none).run Tryd.prog w' = .ok (.slice (dropA A c k) (n - k) (c - k)) w' := by
  have hz : (sizeOf (Tryd.prog.elem 24)).run Tryd.prog w' = .ok 1 w' := by kernel_rfl
  rw [run_slice_l (w := w') 24 A n c (by kernel_rfl) .i64 k (by omega) (by omega), hz]
  simp [Result.andThen, sliced, dropA]
theorem slice_mid (A : Option Addr) (n c k m : Nat) (hk : k + m ≤ c) (w' : World) : (Instr.slice 24 (.slice A n c) (some (.int .i64 (k : Int))) (some (.int .i64 ((k + m : Nat) : Int))) none).run Tryd.prog w' = .ok (.slice (dropA A c k) m (c - k)) w' := by
  have hz : (sizeOf (Tryd.prog.elem 24)).run Tryd.prog w' = .ok 1 w' := by kernel_rfl
  rw [run_slice_lh (w := w') 24 A n c (by kernel_rfl) .i64 .i64 k ((k + m : Nat) : Int) (by omega) (by omega) (by omega), hz]
  simp [Result.andThen, sliced, dropA]
  omega

/-- The instructions of bytes, eight by eight. -/
def decI : Str → List Ins
  | x0 :: x1 :: x2 :: x3 :: x4 :: x5 :: x6 :: x7 :: l => insOf x0 x1 x2 x3 x4 x5 x6 x7 :: decI l
  | _ => []
theorem decI_len : ∀ (f : Nat) (l : Str), l.length ≤ f → (decI l).length = l.length / 8
  | 0, l, h => by
    have : l = [] := List.eq_nil_of_length_eq_zero (by omega)
    subst this; rfl
  | f + 1, l, h => by
    match l with
    | x0 :: x1 :: x2 :: x3 :: x4 :: x5 :: x6 :: x7 :: l =>
      simp only [List.length_cons] at h
      simp only [decI, List.length_cons]
      rw [decI_len f l (by omega)]
      omega
    | [] => rfl
    | [_] => simp [decI]
    | [_, _] => simp [decI]
    | [_, _, _] => simp [decI]
    | [_, _, _, _] => simp [decI]
    | [_, _, _, _, _] => simp [decI]
    | [_, _, _, _, _, _] => simp [decI]
    | [_, _, _, _, _, _, _] => simp [decI]
theorem eight_of (l : Str) (h : 8 ≤ l.length) : ∃ x0 x1 x2 x3 x4 x5 x6 x7 r, l = x0 :: x1 :: x2 :: x3 :: x4 :: x5 :: x6 :: x7 :: r := by
  match l, h with
  | x0 :: x1 :: x2 :: x3 :: x4 :: x5 :: x6 :: x7 :: r, _ => exact ⟨_, _, _, _, _, _, _, _, _, rfl⟩
  | [], h => simp at h
  | [_], h => simp at h
  | [_, _], h => simp at h
  | [_, _, _], h => simp at h
  | [_, _, _, _], h => simp at h
  | [_, _, _, _, _], h => simp at h
  | [_, _, _, _, _, _], h => simp at h
  | [_, _, _, _, _, _, _], h => simp at h
theorem cells_drop (l : Str) (k : Nat) : (cells l).drop k = cells (l.drop k) := by simp [cells]
theorem cells_take (l : Str) (k : Nat) : (cells l).take k = cells (l.take k) := by simp [cells]
/-- Whether bytes are those of instructions. -/
def decB (b : Str) : Bool := decide (b.length % 8 = 0) && (decI b).all mayB
/-- Behind a Decode. -/
def Decoded (w : World) (b : Str) (e : Ending) (w' : World) : Prop :=
  Below w.heap.size w w' ∧ ((decB b = false ∧ e = .returned (.tuple #[.slice none 0 0, .int .i64 40])) ∨
    (decB b = true ∧ ∃ A c, e = .returned (.tuple #[.slice A (decI b).length c, .int .i64 0]) ∧ w'.ownsRow w.heap.size 35 5 (.slice A (decI b).length c) (decI b).length (icells (decI b))))
theorem Tryd.info_inst : (Tryd.prog.info? 35).map (fun i => (i.zero, i.size, i.bytes)) = some (some (.agg #[.int .i64 0, .int .i64 0, .int .i64 0, .int .i64 0, .int .i64 0]), 5, 40) := by kernel_rfl
theorem insC_one (i : Ins) : ∀ u ∈ insC i, u.oneCell' = true := by
  intro u hu
  simp at hu
  rcases hu with rfl | rfl | rfl | rfl | rfl <;> rfl

theorem own_slice5 {w : World} {base : Nat} {e : TypeId} {v : Value} {n : Nat} {xs : List Value} (h : w.ownsRow base e 5 v n xs) : ∃ A c, v = .slice A n c := by
  rcases h.2 with ⟨rfl, rfl⟩ | ⟨g, cap, cur, rfl, _⟩
  · exact ⟨_, _, rfl⟩
  · exact ⟨_, _, rfl⟩
set_option maxRecDepth 100000 in
set_option maxHeartbeats 1000000 in
theorem decode_any (P : Nat → Prop) (A : Option Addr) (n c : Nat) (b : Str) (w : World) (h : Src w P A n c (cells b)) (hn : n * 5 ≤ 140737488355328) (hs : Shps w) :
    Calls Tryd.prog 20 #[.slice A n c] w (Decoded w b) := by
  obtain ⟨i0, hi, hz0, hz1, hz2⟩ := info_parts Tryd.info_inst
  have H := Lib.hid h.lt
  have hl : b.length = n := by simpa [cells_len] using h.len
  have hc := h.cap
  have hr : (n : Int).tmod 8 = ((n % 8 : Nat) : Int) := by
    rw [Int.tmod_eq_emod_of_nonneg (by omega)]; omega
  by_cases h8 : n % 8 = 0
  · have hq : (n : Int).tdiv 8 = ((n / 8 : Nat) : Int) := by
      rw [Int.tdiv_eq_ediv_of_nonneg (by omega)]; omega
    have hw8 : wrap64 ((n : Int) / 8) = ((n / 8 : Nat) : Int) := by
      rw [IntWalk.wrap64_in _ (by omega)]; omega
    have HD := Lib.hid (show decB b = (decI b).all mayB by simp [decB, hl, h8])
    have HL := Lib.hid (decI_len _ b (Nat.le_refl _))
    rw [h8] at hr
    have hm3 : n / 8 ≤ maxLen := by simp only [maxLen]; omega
    have HS := Lib.hid hs
    clear h hs
    go_enter Tryd.func20, Tryd.ntmps20
    go_wp2_with (at_make; refine wpList_make_own _ rfl _ _ _ rfl w.heap.size 35 i0 _ 5 Tryd.underlying22 hi hz0 hz1 .i64 .i64 _ (n / 8) rfl rfl (by first | exact hw8 | (rw [hq]; exact hw8) | rfl | omega) (by rw [hz2]; omega) hm3 (Nat.le_refl _) ?_; intro w2 hown hg; have HO := Lib.hid hown; have HG := Lib.hid hg; clear hown hg)
    have HB2 := Lib.hid (((Below.refl w.heap.size w).grown HG.out (Nat.le_refl _) (fun k hk => by cases hk)))
    clear hq hw8 hr HG
    go_loopw [0, 4] (fun t v wr => ∃ (done : List Ins) (rest : Str) (A0 : Option Addr) (c0 : Nat) (A' : Option Addr) (c' : Nat), decI b = done ++ decI rest ∧ rest.length % 8 = 0 ∧ done.length * 8 + rest.length = n ∧ t = .slice A0 rest.length c0 ∧ Src w (fun k => k < w.heap.size) A0 rest.length c0 (cells rest) ∧ v = .slice A' done.length c' ∧ Below w.heap.size w wr ∧ wr.ownsRow w.heap.size 35 5 (.slice A' done.length c') done.length (icells done)) (fun t _ _ => match t with | .slice _ m _ => m | _ => 0)
    case atStart => exact ⟨[], b, A, c, _, _, rfl, by omega, by simp; omega, by rw [hl], by rw [hl]; exact H.out, rfl, HB2.out, HO.out⟩
    case round =>
      obtain ⟨done, rest, A0, c0, A', c', hde, hr8, hsum, rfl, hsrc, rfl, hb, ho⟩ := hrel
      have HDE := Lib.hid hde
      have HB := Lib.hid hb
      have HOW := Lib.hid ho
      have HSR := Lib.hid hsrc
      clear hde hb ho hsrc HB2 HO H
      by_cases hre : rest.length = 0
      · have hrn : rest = [] := List.eq_nil_of_length_eq_zero hre
        subst hrn
        have HDD := Lib.hid (show decI b = done by rw [HDE.out]; exact List.append_nil _)
        have HV := Lib.hid (areValid_any _ A' done.length c' done wr (Isl.of_own HOW.out) (by omega) (HS.out.below HB.out))
        have HDB := Lib.hid (show decB b = done.all mayB by rw [HD.out, HDD.out])
        clear hre HDE
        cases hv : done.all mayB
        · rw [hv] at HV HDB
          clear hv
          go_wp2_with fail
          refine HV.out.mono ?_
          rintro e w3 ⟨rfl, hb3⟩
          have HB3 := Lib.hid (HB.out.trans (hb3.mono HB.out.size))
          clear hb3
          go_wp2
          go_ret2
          exact ⟨HB3.out, .inl ⟨HDB.out, rfl⟩⟩
        · rw [hv] at HV HDB
          clear hv
          go_wp2_with fail
          refine HV.out.mono ?_
          rintro e w3 ⟨rfl, hb3⟩
          have HB3 := Lib.hid (HB.out.trans (hb3.mono HB.out.size))
          have HO3 := Lib.hid (HOW.out.kept (row := none) ⟨hb3.os, hb3.tape, hb3.output, hb3.size, fun k hk _ => hb3.block k hk⟩ (by cases A' <;> simp [Value.ownBlock]))
          clear hb3
          go_wp2
          go_ret2
          refine ⟨HB3.out, .inr ⟨HDB.out, A', c', ?_, ?_⟩⟩
          · rw [HDD.out]; rfl
          · rw [HDD.out]; exact HO3.out
      · obtain ⟨x0, x1, x2, x3, x4, x5, x6, x7, r, rfl⟩ := eight_of rest (by omega)
        have HF := Lib.hid (fromBytes_any _ A0 _ c0 x0 x1 x2 x3 x4 x5 x6 x7 r wr (HSR.out.below HB.out (fun _ h => h)))
        have hdd : decI b = (done ++ [insOf x0 x1 x2 x3 x4 x5 x6 x7]) ++ decI r := by
          rw [HDE.out, List.append_assoc]
          rfl
        have HDD := Lib.hid hdd
        have hlen : (x0 :: x1 :: x2 :: x3 :: x4 :: x5 :: x6 :: x7 :: r).length = r.length + 8 := rfl
        rw [hlen] at HF HSR hsum hr8 ⊢
        have hsub : Src w (fun k => k < w.heap.size) (dropA A0 c0 8) r.length (c0 - 8) (cells r) := by
          have := HSR.out.sub 8 r.length (by omega)
          have e : ((cells (x0 :: x1 :: x2 :: x3 :: x4 :: x5 :: x6 :: x7 :: r)).drop 8).take r.length = cells r := by
            rw [cells_drop, cells_take]
            simp
          rw [e] at this
          exact this
        have HSUB := Lib.hid hsub
        have hsl := fun w' => slice_low A0 (r.length + 8) c0 8 (by omega) w'
        simp only [Nat.add_sub_cancel] at hsl
        generalize insOf x0 x1 x2 x3 x4 x5 x6 x7 = i at *
        have m1 : done.length + 1 ≤ maxLen := by simp only [maxLen]; omega
        have m2 : (done.length + 1) * 40 ≤ 140737488355328 := by omega
        have H1 := Lib.hid (insC_one i)
        obtain ⟨op, a, b', c'', n'⟩ := i
        clear hre hdd hsub hlen HDE HD
        have g0 : (0 : Int) < ((r.length + 8 : Nat) : Int) := by omega
        go_wp2_with fail
        refine HF.out.mono ?_
        rintro e w3 ⟨rfl, hb3⟩
        have HB3 := Lib.hid (HB.out.trans (hb3.mono HB.out.size))
        have HO3 := Lib.hid ((HOW.out.kept (row := none) ⟨hb3.os, hb3.tape, hb3.output, hb3.size, fun k hk _ => hb3.block k hk⟩ (by cases A' <;> simp [Value.ownBlock])).alloc (.cells (insC ⟨op, a, b', c'', n'⟩).toArray 35))
        have HB4 := Lib.hid (HB3.out.alloc HB3.out.size (.cells (insC ⟨op, a, b', c'', n'⟩).toArray 35))
        have HR := Lib.hid HO3.out.lt
        have HN := Lib.hid (cells_new w3 (insC ⟨op, a, b', c'', n'⟩) 35)
        clear hb3 HOW HB HF
        go_wp2_with (at_builtin; refine wpList_append_own_at _ rfl _ _ _ rfl w.heap.size 35 i0 _ 5 40 Tryd.underlying22 hi hz0 hz1 hz2 rfl (by decide) (.slice A' done.length c') done.length _ rfl HO3.out ⟨w3.heap.size, 0, none⟩ 1 1 (insC ⟨op, a, b', c'', n'⟩) rfl rfl HN.out H1.out m1 m2 HB4.out.size ?_; intro v' w4 hown' hg hnil hat; obtain ⟨A4, c4, rfl⟩ := own_slice5 hown')
        refine ⟨⟨done ++ [⟨op, a, b', c'', n'⟩], r, _, c0 - 8, A4, c4, HDD.out, by omega, by simp; omega, rfl, by simpa [dropA, Addr.add] using HSUB.out, by simp, HB4.out.grown hg HB4.out.size (fun k hk => (HR.out k hk).1), ?_⟩, by simp⟩
        rw [icells_app, List.length_append]
        exact hown'
  · have hr' : (((n % 8 : Nat) : Int) != 0) = true := by simp; omega
    have HD := Lib.hid (show decB b = false by simp [decB, hl, h8])
    clear h hs
    go_enter Tryd.func20, Tryd.ntmps20
    go_wp2
    go_ret2
    exact ⟨Below.refl _ _, .inl ⟨HD.out, rfl⟩⟩

set_option maxRecDepth 100000 in
set_option maxHeartbeats 1000000 in
theorem rdecode_any (P : Nat → Prop) (A : Option Addr) (n c : Nat) (b : Str) (w : World) (h : Src w P A n c (cells b)) (hn : n * 5 ≤ 140737488355328) :
    Calls Tryd.prog 22 #[.slice A n c] w (Decoded w b) := by
  obtain ⟨i0, hi, hz0, hz1, hz2⟩ := info_parts Tryd.info_inst
  have H := Lib.hid h.lt
  have hl : b.length = n := by simpa [cells_len] using h.len
  have hc := h.cap
  have hr : (n : Int).tmod 8 = ((n % 8 : Nat) : Int) := by
    rw [Int.tmod_eq_emod_of_nonneg (by omega)]; omega
  by_cases h8 : n % 8 = 0
  · have HD := Lib.hid (show decB b = (decI b).all mayB by simp [decB, hl, h8])
    rw [h8] at hr
    clear h
    go_enter Tryd.func22, Tryd.ntmps22
    go_wp2_with fail
    go_loopw [5, 4] (fun t v wr => ∃ (done : List Ins) (rest : Str) (A' : Option Addr) (c' : Nat), decI b = done ++ decI rest ∧ rest = b.drop (done.length * 8) ∧ done.length * 8 + rest.length = n ∧ t = .int .i64 ((done.length * 8 : Nat) : Int) ∧ v = .slice A' done.length c' ∧ Below w.heap.size w wr ∧ wr.ownsRow w.heap.size 35 5 (.slice A' done.length c') done.length (icells done) ∧ done.all mayB = true) (fun t _ _ => n - (intOf t).toNat)
    case atStart => exact ⟨[], b, none, 0, rfl, rfl, by simp; omega, rfl, rfl, Below.refl _ _, World.ownsRow_nil _ _ _ _, rfl⟩
    case round =>
      obtain ⟨done, rest, A', c', hde, hrest, hsum, rfl, rfl, hb, ho, hall⟩ := hrel
      have HDE := Lib.hid hde
      have HB := Lib.hid hb
      have HOW := Lib.hid ho
      have HA := Lib.hid hall
      clear hde hb ho hall
      by_cases hre : rest.length = 0
      · have hrn : rest = [] := List.eq_nil_of_length_eq_zero hre
        have HDD := Lib.hid (show decI b = done by rw [HDE.out, hrn]; exact List.append_nil _)
        have HDB := Lib.hid (show decB b = true by rw [HD.out, HDD.out]; exact HA.out)
        have hge : ¬ ((done.length * 8 : Nat) : Int) < (n : Int) := by omega
        clear hre HDE hrest hrn
        go_wp2
        all_goals (first | (exfalso; omega) | skip)
        go_ret2
        refine ⟨HB.out, .inr ⟨HDB.out, A', c', ?_, ?_⟩⟩
        · rw [HDD.out]; rfl
        · rw [HDD.out]; exact HOW.out
      · have h8r : 8 ≤ rest.length := by omega
        obtain ⟨x0, x1, x2, x3, x4, x5, x6, x7, r, hrr⟩ := eight_of rest h8r
        have hsub : Src w (fun k => k < w.heap.size) (dropA A c (done.length * 8)) 8 (c - done.length * 8) (cells (x0 :: x1 :: x2 :: x3 :: x4 :: x5 :: x6 :: x7 :: [])) := by
          have := H.out.sub (done.length * 8) 8 (by omega)
          rw [cells_drop, ← hrest, hrr, cells_take] at this
          exact this
        rw [show dropA A c (done.length * 8) = A.map (fun x => x.add (done.length * 8)) from if_neg (by omega)] at hsub
        have HF := Lib.hid (rread_any _ _ 8 _ x0 x1 x2 x3 x4 x5 x6 x7 [] wr (hsub.below HB.out (fun _ h => h)))
        have hdd : decI b = (done ++ [insOf x0 x1 x2 x3 x4 x5 x6 x7]) ++ decI r := by
          rw [HDE.out, hrr, List.append_assoc]
          rfl
        have HDD := Lib.hid hdd
        have hr2 : r = b.drop ((done.length + 1) * 8) := by
          have : (x0 :: x1 :: x2 :: x3 :: x4 :: x5 :: x6 :: x7 :: r).drop 8 = r := rfl
          rw [← this, ← hrr, hrest, List.drop_drop, Nat.add_mul]
        have HR2 := Lib.hid hr2
        have hlen : rest.length = r.length + 8 := by rw [hrr]; rfl
        have hsl := fun w' => slice_mid A n c (done.length * 8) 8 (by omega) w'
        have hw8 : wrap64 (((done.length * 8 : Nat) : Int) + 8) = ((done.length * 8 + 8 : Nat) : Int) := by
          rw [IntWalk.wrap64_in _ (by omega)]; omega
        have hlt : ((done.length * 8 : Nat) : Int) < (n : Int) := by omega
        have hi1 : (0 : Int) ≤ ((done.length * 8 : Nat) : Int) := by omega
        have hi2 : ((done.length * 8 : Nat) : Int) ≤ ((done.length * 8 + 8 : Nat) : Int) := by omega
        have hi3 : ((done.length * 8 + 8 : Nat) : Int) ≤ (c : Int) := by omega
        have HNO := Lib.hid (show mayB (insOf x0 x1 x2 x3 x4 x5 x6 x7) = false → decB b = false by
          intro h
          rw [HD.out, hdd, List.all_append, List.all_append]
          simp [h])
        have HYE := Lib.hid (show mayB (insOf x0 x1 x2 x3 x4 x5 x6 x7) = true → (done ++ [insOf x0 x1 x2 x3 x4 x5 x6 x7]).all mayB = true by
          intro h
          rw [List.all_append, HA.out]
          simp [h])
        generalize insOf x0 x1 x2 x3 x4 x5 x6 x7 = i at *
        have m1 : done.length + 1 ≤ maxLen := by simp only [maxLen]; omega
        have m2 : (done.length + 1) * 40 ≤ 140737488355328 := by omega
        have H1 := Lib.hid (insC_one i)
        obtain ⟨op, a, b', c'', n'⟩ := i
        clear hre hdd hsub HDE hr2 hrr hrest h8r
        cases hm : mayB ⟨op, a, b', c'', n'⟩
        · rw [hm] at HF
          have HNO := Lib.hid (HNO.out hm)
          clear hm HYE HDD HR2
          go_wp2_with fail
          refine HF.out.mono ?_
          rintro e w3 ⟨rfl, hb3⟩
          have HB3 := Lib.hid ((HB.out.trans (hb3.mono HB.out.size)).alloc (HB.out.trans (hb3.mono HB.out.size)).size (.cells (insC ⟨op, a, b', c'', n'⟩).toArray 35))
          clear hb3
          go_wp2
          go_ret2
          exact ⟨HB3.out, .inl ⟨HNO.out, rfl⟩⟩
        · rw [hm] at HF
          have HYE := Lib.hid (HYE.out hm)
          clear hm HNO
          go_wp2_with fail
          refine HF.out.mono ?_
          rintro e w3 ⟨rfl, hb3⟩
          have HB3 := Lib.hid (HB.out.trans (hb3.mono HB.out.size))
          have HO3 := Lib.hid (((HOW.out.kept (row := none) ⟨hb3.os, hb3.tape, hb3.output, hb3.size, fun k hk _ => hb3.block k hk⟩ (by cases A' <;> simp [Value.ownBlock])).alloc (.cells (insC ⟨op, a, b', c'', n'⟩).toArray 35)).alloc (.cells (insC ⟨op, a, b', c'', n'⟩).toArray 35))
          have HB4 := Lib.hid ((HB3.out.alloc HB3.out.size (.cells (insC ⟨op, a, b', c'', n'⟩).toArray 35)).alloc (by have := HB3.out.size; simp; omega) (.cells (insC ⟨op, a, b', c'', n'⟩).toArray 35))
          have HR := Lib.hid HO3.out.lt
          have HN := Lib.hid (cells_new (w3.alloc (.cells (insC ⟨op, a, b', c'', n'⟩).toArray 35)) (insC ⟨op, a, b', c'', n'⟩) 35)
          clear hb3 HOW HB HF
          go_wp2_with (at_builtin; refine wpList_append_own_at _ rfl _ _ _ rfl w.heap.size 35 i0 _ 5 40 Tryd.underlying22 hi hz0 hz1 hz2 rfl (by decide) (.slice A' done.length c') done.length _ rfl HO3.out ⟨w3.heap.size + 1, 0, none⟩ 1 1 (insC ⟨op, a, b', c'', n'⟩) rfl rfl (by simpa using HN.out) H1.out m1 m2 HB4.out.size ?_; intro v' w4 hown' hg hnil hat; obtain ⟨A4, c4, rfl⟩ := own_slice5 hown')
          refine ⟨⟨done ++ [⟨op, a, b', c'', n'⟩], r, A4, c4, HDD.out, ?_, ?_, ?_, ?_, HB4.out.grown hg HB4.out.size (fun k hk => (HR.out k hk).1), ?_, HYE.out⟩, ?_⟩
          · rw [List.length_append]
            exact HR2.out
          · simp
            omega
          · simp
            omega
          · simp
          · rw [icells_app, List.length_append]
            exact hown'
          · simp [intOf]
            omega
  · have hr' : (((n % 8 : Nat) : Int) != 0) = true := by simp; omega
    have HD := Lib.hid (show decB b = false by simp [decB, hl, h8])
    clear h
    go_enter Tryd.func22, Tryd.ntmps22
    go_wp2
    go_ret2
    exact ⟨Below.refl _ _, .inl ⟨HD.out, rfl⟩⟩
end Go.Proofs.YtoebboimdkogpaaDoor
