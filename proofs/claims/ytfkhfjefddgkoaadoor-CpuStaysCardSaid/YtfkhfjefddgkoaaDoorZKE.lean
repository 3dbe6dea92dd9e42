/-
  Whether an instruction may be: the document's answer.
  May, the document's: the same as the program's.
-/
import Derived.Test.YtfkhfjefddgkoaaDoorZKC
namespace Go.Proofs.YtfkhfjefddgkoaaDoor.Cod
open Go.RowKit

/-- What stands behind a name, a letter each. -/
def formL (s : Shp) : Str := [97, 98, 99].take s.regs ++ if s.num then [110] else []
theorem u8_int (c d : UInt8) : ((c.toNat : Int) == (d.toNat : Int)) = (c == d) := by
  rw [Bool.eq_iff_iff]
  simp only [beq_iff_eq]
  constructor
  · intro h
    exact UInt8.toNat_inj.1 (by omega)
  · intro h
    rw [h]

set_option maxHeartbeats 4000000 in
set_option maxRecDepth 100000 in
theorem rname_in (k : Nat) (hk : k < 23) (w : World) :
    Calls Tryd.prog 49 #[.int .i64 k] w fun e w' => e = .returned (.tuple #[str (shapes[k]'hk).name, str (formL (shapes[k]'hk)), .bool true]) ∧ w = w' := by
  obtain rfl | rfl | rfl | rfl | rfl | rfl | rfl | rfl | rfl | rfl | rfl | rfl | rfl | rfl | rfl | rfl | rfl | rfl | rfl | rfl | rfl | rfl | rfl : k = 0 ∨ k = 1 ∨ k = 2 ∨ k = 3 ∨ k = 4 ∨ k = 5 ∨ k = 6 ∨ k = 7 ∨ k = 8 ∨ k = 9 ∨ k = 10 ∨ k = 11 ∨ k = 12 ∨ k = 13 ∨ k = 14 ∨ k = 15 ∨ k = 16 ∨ k = 17 ∨ k = 18 ∨ k = 19 ∨ k = 20 ∨ k = 21 ∨ k = 22 := by omega
  all_goals
    go_enter Tryd.func49, Tryd.ntmps49
    go_wp2
    go_ret3
    exact ⟨rfl, rfl⟩

set_option maxHeartbeats 4000000 in
set_option maxRecDepth 100000 in
theorem rname_out (op : Int) (h : op < 0 ∨ 23 ≤ op) (w : World) :
    Calls Tryd.prog 49 #[.int .i64 op] w fun e w' => e = .returned (.tuple #[str [], str [], .bool false]) ∧ w = w' := by
  have hs : ∀ j : Int, 0 ≤ j → j < 23 → (op == j) = false := by
    intro j h1 h2
    rw [beq_eq_false_iff_ne]
    omega
  have h0 := hs 0 (by omega) (by omega)
  have h1 := hs 1 (by omega) (by omega)
  have h2 := hs 2 (by omega) (by omega)
  have h3 := hs 3 (by omega) (by omega)
  have h4 := hs 4 (by omega) (by omega)
  have h5 := hs 5 (by omega) (by omega)
  have h6 := hs 6 (by omega) (by omega)
  have h7 := hs 7 (by omega) (by omega)
  have h8 := hs 8 (by omega) (by omega)
  have h9 := hs 9 (by omega) (by omega)
  have h10 := hs 10 (by omega) (by omega)
  have h11 := hs 11 (by omega) (by omega)
  have h12 := hs 12 (by omega) (by omega)
  have h13 := hs 13 (by omega) (by omega)
  have h14 := hs 14 (by omega) (by omega)
  have h15 := hs 15 (by omega) (by omega)
  have h16 := hs 16 (by omega) (by omega)
  have h17 := hs 17 (by omega) (by omega)
  have h18 := hs 18 (by omega) (by omega)
  have h19 := hs 19 (by omega) (by omega)
  have h20 := hs 20 (by omega) (by omega)
  have h21 := hs 21 (by omega) (by omega)
  have h22 := hs 22 (by omega) (by omega)
  clear hs h
  go_enter Tryd.func49, Tryd.ntmps49
  go_wp2
  go_ret3
  exact ⟨rfl, rfl⟩

def partOf (i : Ins) (f : UInt8) : Int := if f = 97 then i.a else if f = 98 then i.b else if f = 99 then i.c else i.n
theorem part_any (i : Ins) (f : UInt8) (w : World) :
    Calls Tryd.prog 50 #[insV i, .int .u8 f.toNat] w fun e w' => e = .returned (.int .i64 (partOf i f)) ∧ Below w.heap.size w w' := by
  have hb := Lib.hid ((Below.refl w.heap.size w).alloc (Nat.le_refl _) (.cells #[.int .i64 i.op, .int .i64 i.a, .int .i64 i.b, .int .i64 i.c, .int .i64 i.n] 51))
  have e0 : ((f.toNat : Int) == 97) = (f == 97) := u8_int f 97
  have e1 : ((f.toNat : Int) == 98) = (f == 98) := u8_int f 98
  have e2 : ((f.toNat : Int) == 99) = (f == 99) := u8_int f 99
  by_cases h0 : f = 97
  · subst h0
    go_enter Tryd.func50, Tryd.ntmps50
    go_wp2
    go_ret
    exact ⟨rfl, hb.out⟩
  · by_cases h1 : f = 98
    · subst h1
      go_enter Tryd.func50, Tryd.ntmps50
      go_wp2
      go_ret
      exact ⟨rfl, hb.out⟩
    · by_cases h2 : f = 99
      · subst h2
        go_enter Tryd.func50, Tryd.ntmps50
        go_wp2
        go_ret
        exact ⟨rfl, hb.out⟩
      · have hp := Lib.hid (show partOf i f = i.n by rw [partOf, if_neg h0, if_neg h1, if_neg h2])
        rw [beq_eq_false_iff_ne.2 h0] at e0
        rw [beq_eq_false_iff_ne.2 h1] at e1
        rw [beq_eq_false_iff_ne.2 h2] at e2
        clear h0 h1 h2
        go_enter Tryd.func50, Tryd.ntmps50
        go_wp2
        go_ret
        exact ⟨by rw [hp.out]; rfl, hb.out⟩

theorem stands_any (l : Str) (f : UInt8) (w : World) (hl : l.length ≤ 9223372036854775807) :
    Calls Tryd.prog 51 #[str l, .int .u8 f.toNat] w fun e w' => e = .returned (.bool (decide (f ∈ l))) ∧ w = w' := by
  go_enter Tryd.func51, Tryd.ntmps51
  go_wp2_with fail
  go_loop [5] (fun i => ∃ k : Nat, k ≤ l.length ∧ i = .int .i64 k ∧ f ∉ l.take k) (fun i => l.length - (intOf i).toNat)
  case atStart => exact ⟨0, Nat.zero_le _, rfl, by simp⟩
  case round =>
    obtain ⟨k, hk, rfl, hn⟩ := hrel
    by_cases hkl : k < l.length
    · have he : ((((⟨l.toArray⟩ : ByteArray)[k]'(by simpa [ByteArray.size] using hkl)).toNat : Int) == (f.toNat : Int)) = (l[k] == f) := u8_int l[k] f
      by_cases hf : l[k] = f
      · rw [hf, beq_self_eq_true] at he
        have hm := Lib.hid (show decide (f ∈ l) = true from decide_eq_true (hf ▸ List.getElem_mem hkl))
        clear hf hn
        go_wp2
        go_ret
        exact ⟨by rw [hm.out]; rfl, rfl⟩
      · rw [beq_eq_false_iff_ne.2 hf] at he
        have hm := Lib.hid (show f ∉ l.take (k + 1) by
          rw [List.take_succ_eq_append_getElem hkl]
          intro h
          rcases List.mem_append.1 h with h | h
          · exact hn h
          · exact hf (List.mem_singleton.1 h).symm)
        clear hf hn
        go_wp2
        go_round
        case rel => exact ⟨k + 1, by omega, by go_num, hm.out⟩
        case measure => simp [intOf]; omega
    · obtain rfl : k = l.length := by omega
      rw [List.take_length] at hn
      have hm := Lib.hid (show decide (f ∈ l) = false from decide_eq_false hn)
      clear hn
      go_wp2
      go_ret
      exact ⟨by rw [hm.out]; rfl, rfl⟩

def rangedB (f : UInt8) (n : Int) : Bool := if f = 110 then decide (-2147483648 ≤ n) && decide (n ≤ 2147483647) else decide (0 ≤ n) && decide (n ≤ 15)
theorem ranged_any (f : UInt8) (n : Int) (w : World) :
    Calls Tryd.prog 52 #[.int .u8 f.toNat, .int .i64 n] w fun e w' => e = .returned (.bool (rangedB f n)) ∧ w = w' := by
  have e0 : ((f.toNat : Int) == 110) = (f == 110) := u8_int f 110
  by_cases h0 : f = 110
  · subst h0
    have hu : rangedB 110 n = (decide (-2147483648 ≤ n) && decide (n ≤ 2147483647)) := rfl
    have hm := Lib.hid hu
    clear hu
    go_enter Tryd.func52, Tryd.ntmps52
    go_wp2
    all_goals
      go_ret
      refine ⟨?_, rfl⟩
      refine congrArg (fun b => Ending.returned (Value.bool b)) ?_
      rw [hm.out, Bool.eq_iff_iff]
      simp
      try omega
  · rw [beq_eq_false_iff_ne.2 h0] at e0
    have hu : rangedB f n = (decide (0 ≤ n) && decide (n ≤ 15)) := by rw [rangedB, if_neg h0]
    have hm := Lib.hid hu
    clear hu h0
    go_enter Tryd.func52, Tryd.ntmps52
    go_wp2
    all_goals
      go_ret
      refine ⟨?_, rfl⟩
      refine congrArg (fun b => Ending.returned (Value.bool b)) ?_
      rw [hm.out, Bool.eq_iff_iff]
      simp
      try omega
end Go.Proofs.YtfkhfjefddgkoaaDoor.Cod

namespace Go.Proofs.YtfkhfjefddgkoaaDoor.Cod
open Go.RowKit

def lettersL : List UInt8 := [97, 98, 99, 110]
def checkB (i : Ins) (form : Str) (f : UInt8) : Bool := if f ∈ form then rangedB f (partOf i f) else partOf i f == 0
def rmayB (i : Ins) : Bool := match shapeOf i.op with
  | none => false
  | some s => lettersL.all (checkB i (formL s))
theorem form_mem (s : Shp) (h : s.regs ≤ 3) : (97 ∈ formL s ↔ 0 < s.regs) ∧ (98 ∈ formL s ↔ 1 < s.regs) ∧ (99 ∈ formL s ↔ 2 < s.regs) ∧ (110 ∈ formL s ↔ s.num = true) := by
  obtain ⟨nm, r, m⟩ := s
  simp only at h
  obtain rfl | rfl | rfl | rfl : r = 0 ∨ r = 1 ∨ r = 2 ∨ r = 3 := by omega
  all_goals cases m <;> simp [formL]
theorem reg_range (b : Bool) (r : Int) : regOk b r = if b = true then decide (0 ≤ r) && decide (r ≤ 15) else r == 0 := by
  cases b
  · rw [if_neg (by decide), Bool.eq_iff_iff]
    simp [regOk]
    omega
  · rw [if_pos rfl, Bool.eq_iff_iff]
    simp [regOk]
    omega
theorem num_range (b : Bool) (n : Int) : numOk b n = if b = true then decide (-2147483648 ≤ n) && decide (n ≤ 2147483647) else n == 0 := by
  cases b <;> rfl
theorem rmay_eq (i : Ins) : rmayB i = mayB i := by
  unfold rmayB mayB
  cases h : shapeOf i.op with
  | none => rfl
  | some s =>
    obtain ⟨k, hk, _, rfl⟩ := shapeOf_some h
    obtain ⟨h1, h2, h3, h4⟩ := form_mem _ (shapes_regs k hk)
    simp only [lettersL, List.all_cons, List.all_nil, Bool.and_true, regsOk, checkB, h1, h2, h3, h4, reg_range, num_range, decide_eq_true_eq]
    simp only [rangedB, partOf]
    simp only [if_pos, if_neg (show ¬ (98 : UInt8) = 97 by decide), if_neg (show ¬ (99 : UInt8) = 97 by decide), if_neg (show ¬ (99 : UInt8) = 98 by decide), if_neg (show ¬ (110 : UInt8) = 97 by decide), if_neg (show ¬ (110 : UInt8) = 98 by decide), if_neg (show ¬ (110 : UInt8) = 99 by decide), if_neg (show ¬ (97 : UInt8) = 110 by decide), if_neg (show ¬ (98 : UInt8) = 110 by decide), if_neg (show ¬ (99 : UInt8) = 110 by decide)]
    simp only [Bool.and_assoc]

theorem rmay_out (i : Ins) (h : i.op < 0 ∨ 23 ≤ i.op) (w : World) :
    Calls Tryd.prog 19 #[insV i] w fun e w' => e = .returned (.bool false) ∧ Below w.heap.size w w' := by
  have HB := Lib.hid ((Below.refl w.heap.size w).alloc (Nat.le_refl _) (.cells #[.int .i64 i.op, .int .i64 i.a, .int .i64 i.b, .int .i64 i.c, .int .i64 i.n] 51))
  have HC := Lib.hid (rname_out i.op h (w.alloc (.cells #[.int .i64 i.op, .int .i64 i.a, .int .i64 i.b, .int .i64 i.c, .int .i64 i.n] 51)))
  go_enter Tryd.func19, Tryd.ntmps19
  go_wp2_with fail
  refine HC.out.mono ?_
  rintro e w1 ⟨rfl, rfl⟩
  go_wp2
  go_ret
  exact ⟨rfl, HB.out⟩

/-- Where the document's May stands: its box, and the letters. -/
structure RMayAt (w0 w : World) (i : Ins) : Prop where
  below : Below w0.heap.size w0 w
  box : Bx w w0.heap.size #[.int .i64 i.op, .int .i64 i.a, .int .i64 i.b, .int .i64 i.c, .int .i64 i.n] 51
  let_ : Bx w (w0.heap.size + 1) #[.int .u8 97, .int .u8 98, .int .u8 99, .int .u8 110] 5
theorem RMayAt.on {w0 w w' : World} {i : Ins} (h : RMayAt w0 w i) (hb : Below w.heap.size w w') : RMayAt w0 w' i :=
  ⟨h.below.trans (hb.mono h.below.size), h.box.below hb, h.let_.below hb⟩
theorem RMayAt.letter {w0 w : World} {i : Ins} (h : RMayAt w0 w i) : ∀ (k : Nat) (hk : k < 4), w.cell? ⟨w0.heap.size + 1, k, none⟩ = some (.int .u8 ((lettersL[k]'hk).toNat))
  | 0, _ => h.let_.c 0
  | 1, _ => h.let_.c 1
  | 2, _ => h.let_.c 2
  | 3, _ => h.let_.c 3
  | n + 4, hk => absurd hk (by omega)

set_option maxHeartbeats 4000000 in
set_option maxRecDepth 100000 in
theorem rmay_in (i : Ins) (k : Nat) (hk : k < 23) (hop : i.op = k) (w : World) :
    Calls Tryd.prog 19 #[insV i] w fun e w' => e = .returned (.bool (mayB i)) ∧ Below w.heap.size w w' := by
  have hm : mayB i = lettersL.all (checkB i (formL (shapes[k]'hk))) := by
    rw [← rmay_eq, rmayB, hop, shapeOf_in k hk]
  have HN := Lib.hid (rname_in k hk (w.alloc (.cells #[.int .i64 k, .int .i64 i.a, .int .i64 i.b, .int .i64 i.c, .int .i64 i.n] 51)))
  have hf : (formL (shapes[k]'hk)).length ≤ 9223372036854775807 := by
    unfold formL
    rw [List.length_append, List.length_take]
    split <;> simp <;> omega
  have HM := Lib.hid hm
  have h0 : RMayAt w ((w.alloc (.cells #[.int .i64 i.op, .int .i64 i.a, .int .i64 i.b, .int .i64 i.c, .int .i64 i.n] 51)).alloc (.cells #[.int .u8 97, .int .u8 98, .int .u8 99, .int .u8 110] 5)) i :=
    ⟨((Below.refl w.heap.size w).alloc (Nat.le_refl _) _).alloc (by simp) _, (Bx.new w _ _).alloc _, by simpa using Bx.new (w.alloc (.cells #[.int .i64 i.op, .int .i64 i.a, .int .i64 i.b, .int .i64 i.c, .int .i64 i.n] 51)) #[.int .u8 97, .int .u8 98, .int .u8 99, .int .u8 110] 5⟩
  have HP := Lib.hid (fun (f : UInt8) (w1 : World) => part_any i f w1)
  generalize mayB i = R at *
  have HCK : Hid (∀ f, checkB i (formL (shapes[k]'hk)) f = if f ∈ formL (shapes[k]'hk) then rangedB f (partOf i f) else partOf i f == 0) := Lib.hid (fun _ => rfl)
  generalize checkB i (formL (shapes[k]'hk)) = ck at *
  generalize partOf i = po at *
  generalize formL (shapes[k]'hk) = fo at *
  generalize (shapes[k]'hk).name = nm at *
  obtain ⟨op, a, b, c, n⟩ := i
  simp only at hop
  subst hop
  have H0 := Lib.hid h0
  clear hm h0
  go_enter Tryd.func19, Tryd.ntmps19
  go_wp2_with fail
  refine HN.out.mono ?_
  rintro e w1 ⟨rfl, rfl⟩
  go_wp2_with fail
  go_loopw [20] (fun t wr => ∃ j : Nat, j ≤ 4 ∧ t = .int .i64 j ∧ RMayAt w wr ⟨k, a, b, c, n⟩ ∧ (lettersL.take j).all ck = true) (fun t _ => 4 - (intOf t).toNat)
  case atStart => exact ⟨0, by omega, rfl, H0.out, rfl⟩
  case round =>
    obtain ⟨j, hj, rfl, hr, hall⟩ := hrel
    have HR := Lib.hid hr
    have HA := Lib.hid hall
    clear hr hall
    by_cases hj4 : j < 4
    · have hl := HR.out.letter j hj4
      have HS := Lib.hid (show (lettersL.take (j + 1)).all ck = ck (lettersL[j]'hj4) by
        rw [List.take_succ_eq_append_getElem (show j < lettersL.length from hj4), List.all_append, HA.out]
        simp
        rfl)
      have HG := Lib.hid (show ck (lettersL[j]'hj4) = false → lettersL.all ck = false by
        intro h
        rw [List.all_eq_false]
        exact ⟨_, List.getElem_mem (show j < lettersL.length from hj4), fun e => Bool.noConfusion (h.symm.trans e)⟩)
      generalize lettersL[j]'hj4 = f at *
      have HF := Lib.hid (HCK.out f)
      have hcells : ∀ v, (#[Value.int .i64 k, .int .i64 a, .int .i64 b, .int .i64 c, .int .i64 n] : Array Value)[v]? = wr.cell? ⟨w.heap.size, v, none⟩ := fun v => (HR.out.box.c v).symm
      have c0 : wr.cell? ⟨w.heap.size, 0, none⟩ = some (.int .i64 k) := HR.out.box.c 0
      have c1 : wr.cell? ⟨w.heap.size, 1, none⟩ = some (.int .i64 a) := HR.out.box.c 1
      have c2 : wr.cell? ⟨w.heap.size, 2, none⟩ = some (.int .i64 b) := HR.out.box.c 2
      have c3 : wr.cell? ⟨w.heap.size, 3, none⟩ = some (.int .i64 c) := HR.out.box.c 3
      have c4 : wr.cell? ⟨w.heap.size, 4, none⟩ = some (.int .i64 n) := HR.out.box.c 4
      clear hcells
      have HPF := Lib.hid (HP.out f wr)
      generalize po f = p at *
      have HRA := Lib.hid (fun w2 => ranged_any f p w2)
      have HST := Lib.hid (fun w2 => stands_any fo f w2 hf)
      generalize rangedB f p = ra at *
      clear HN HCK HP
      by_cases hfo : f ∈ fo
      · rw [if_pos hfo] at HF
        rw [decide_eq_true hfo] at HST
        clear hfo
        cases ra
        · have HRF := Lib.hid (show R = false by rw [HM.out]; exact HG.out HF.out)
          clear HF HG HS HM HA
          go_wp2_with fail
          refine HPF.out.mono ?_
          rintro e w2 ⟨rfl, hb2⟩
          have HB2 := Lib.hid hb2
          clear hb2
          go_wp2_with (first | (go_at_call 51; refine (HST.out _).mono ?_; rintro e w3 ⟨rfl, rfl⟩) | (go_at_call 52; refine (HRA.out _).mono ?_; rintro e w4 ⟨rfl, rfl⟩))
          go_ret
          exact ⟨by rw [HRF.out]; rfl, (HR.out.on HB2.out).below⟩
        · have HRF := Lib.hid (show (lettersL.take (j + 1)).all ck = true by rw [HS.out, HF.out])
          clear HF HG HS HM HA
          go_wp2_with fail
          refine HPF.out.mono ?_
          rintro e w2 ⟨rfl, hb2⟩
          have HB2 := Lib.hid hb2
          clear hb2
          go_wp2_with (first | (go_at_call 51; refine (HST.out _).mono ?_; rintro e w3 ⟨rfl, rfl⟩) | (go_at_call 52; refine (HRA.out _).mono ?_; rintro e w4 ⟨rfl, rfl⟩))
          exact ⟨⟨j + 1, by omega, by go_num, HR.out.on HB2.out, HRF.out⟩, by simp [intOf]; omega⟩
      · rw [if_neg hfo] at HF
        rw [decide_eq_false hfo] at HST
        clear hfo
        by_cases hp : p = 0
        · have HRF := Lib.hid (show (lettersL.take (j + 1)).all ck = true by rw [HS.out, HF.out, hp]; rfl)
          subst hp
          clear HF HG HS HM HA
          go_wp2_with fail
          refine HPF.out.mono ?_
          rintro e w2 ⟨rfl, hb2⟩
          have HB2 := Lib.hid hb2
          clear hb2
          go_wp2_with (first | (go_at_call 51; refine (HST.out _).mono ?_; rintro e w3 ⟨rfl, rfl⟩) | (go_at_call 52; refine (HRA.out _).mono ?_; rintro e w4 ⟨rfl, rfl⟩))
          exact ⟨⟨j + 1, by omega, by go_num, HR.out.on HB2.out, HRF.out⟩, by simp [intOf]; omega⟩
        · have HRF := Lib.hid (show R = false by rw [HM.out]; exact HG.out (HF.out.trans (beq_eq_false_iff_ne.2 hp)))
          have hpn : (p != 0) = true := by simpa using hp
          clear HF HG HS HM HA hp
          go_wp2_with fail
          refine HPF.out.mono ?_
          rintro e w2 ⟨rfl, hb2⟩
          have HB2 := Lib.hid hb2
          clear hb2
          go_wp2_with (first | (go_at_call 51; refine (HST.out _).mono ?_; rintro e w3 ⟨rfl, rfl⟩) | (go_at_call 52; refine (HRA.out _).mono ?_; rintro e w4 ⟨rfl, rfl⟩))
          go_ret
          exact ⟨by rw [HRF.out]; rfl, (HR.out.on HB2.out).below⟩
    · obtain rfl : j = 4 := by omega
      have HRF := Lib.hid (show R = true by rw [HM.out]; exact HA.out)
      clear HM HA
      go_wp2
      go_ret
      exact ⟨by rw [HRF.out]; rfl, HR.out.below⟩

theorem rmay_any (i : Ins) (w : World) : Calls Tryd.prog 19 #[insV i] w fun e w' => e = .returned (.bool (mayB i)) ∧ Below w.heap.size w w' := by
  by_cases h : i.op < 0 ∨ 23 ≤ i.op
  · have hm : mayB i = false := by rw [mayB, shapeOf_out h]
    rw [hm]
    exact rmay_out i h w
  · exact rmay_in i i.op.toNat (by omega) (by omega) w
end Go.Proofs.YtfkhfjefddgkoaaDoor.Cod
