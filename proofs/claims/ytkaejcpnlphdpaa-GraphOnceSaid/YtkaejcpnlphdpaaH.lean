/-
  Post.
-/
import Derived.Test.YtkaejcpnlphdpaaG
namespace Go.Proofs.Ytkaejcpnlphdpaa
open Go.RowKit

def okP (g : Gr) (root : Int) (done : List Int) : Bool := okB g done && isNode g.length root
theorem okP_parts {g : Gr} {root : Int} {done : List Int} (h : okP g root done = true) : rightB g = true ∧ nodesB g.length done = true ∧ isNode g.length root = true := by
  unfold okP okB at h
  simp only [Bool.and_eq_true] at h
  exact ⟨h.1.1, h.1.2, h.2⟩
/-- What a walk in depth leads to, where there is one. -/
theorem post_D (g : Gr) (root : Int) (done : List Int) : ∃ C' o', okP g root done = true → D g (once [] done) [] [root] C' o' := by
  by_cases h : okP g root done = true
  · obtain ⟨h1, h2, h3⟩ := okP_parts h
    obtain ⟨C', o', h4⟩ := D.some h1 (free g.length (once [] done)) (once [] done) [] [root] (Nat.le_refl _) (by unfold nodesB; simp [h3])
    exact ⟨C', o', fun _ => h4⟩
  · exact ⟨[], [], fun h2 => absurd h2 h⟩
/-- What Post hands back. -/
def Pst (w : World) (ok : Bool) (o : List Int) (e : Ending) (w' : World) : Prop :=
  (ok = false ∧ e = .returned (.tuple #[.slice none 0 0, .int .i64 130]) ∧ Below w.heap.size w w') ∨
    (ok = true ∧ ∃ O co, e = .returned (.tuple #[.slice O o.length co, .int .i64 0]) ∧ w'.ownsRow w.heap.size 3 1 (.slice O o.length co) o.length (ints o) ∧ Below w.heap.size w w')
set_option maxRecDepth 100000 in
set_option maxHeartbeats 4000000 in
theorem post_any (Q Q2 : Nat → Prop) (E A : Option Addr) (ce c : Nat) (ws : Nat → Option Addr × Nat) (g : Gr) (root : Int) (done : List Int) (C' o' : List Int) (w : World) (h : Ed w Q E ce ws g) (h2 : Src w Q2 A done.length c (ints done)) (hn2 : done.length ≤ 4611686018427387904)
    (hd : okP g root done = true → D g (once [] done) [] [root] C' o') :
    Calls Try.prog 19 #[.slice E g.length ce, .int .i64 root, .slice A done.length c] w fun e w' => Pst w (okP g root done) o' e w' := by
  have HC := Lib.hid (check_any Q Q2 E A ce c ws g done w h h2 hn2)
  have HE := Lib.hid h.lt
  have HS := Lib.hid h2.lt
  clear h h2
  cases hok : okB g done with
  | false =>
    have hP : okP g root done = false := by unfold okP; rw [hok]; rfl
    rw [hok] at HC
    rw [hP]
    clear hok hd hP
    go_enter Try.func19, Try.ntmps19
    go_wp2_with fail
    refine HC.out.mono ?_
    rintro e w1 ⟨rfl, hb1⟩
    have HB1 := Lib.hid hb1
    clear hb1
    go_wp2_with fail
    go_ret2
    exact .inl ⟨rfl, rfl, HB1.out⟩
  | true =>
    rw [hok] at HC
    have HN := Lib.hid (fun w1 (hb : Below w.heap.size w w1) => areNodes_any (fun _ => True) E (some ⟨w1.heap.size, 0, none⟩) g.length ce 1 [root] (w1.alloc (.cells #[.int .i64 root] 3)) (src_lit w1 [.int .i64 root] 3 _ trivial) (by simp))
    have HB0 := Lib.hid (fun (w1 : World) (hb : Below w.heap.size w w1) => hb.trans ((Below.refl w.heap.size w1).alloc hb.size (.cells #[.int .i64 root] 3)))
    have hnr : nodesB g.length [root] = isNode g.length root := by simp [nodesB]
    rw [hnr] at HN
    cases hr : isNode g.length root with
    | false =>
      have hP : okP g root done = false := by unfold okP; rw [hok, hr]; rfl
      rw [hr] at HN
      rw [hP]
      clear hok hd hP hnr hr
      go_enter Try.func19, Try.ntmps19
      go_wp2_with fail
      refine HC.out.mono ?_
      rintro e w1 ⟨rfl, hb1⟩
      have HB1 := Lib.hid (HB0.out w1 hb1)
      have HN1 := Lib.hid (HN.out w1 hb1)
      clear hb1 HC HN HB0
      go_wp2_with fail
      refine HN1.out.mono ?_
      rintro e w2 ⟨rfl, hb2⟩
      have HB2 := Lib.hid (HB1.out.trans (hb2.mono HB1.out.size))
      clear hb2 HN1
      go_wp2_with fail
      go_ret2
      exact .inl ⟨rfl, rfl, HB2.out⟩
    | true =>
      have hP : okP g root done = true := by unfold okP; rw [hok, hr]; rfl
      have HD := Lib.hid (hd hP)
      obtain ⟨hg, hdn, -⟩ := okP_parts hP
      have HG := Lib.hid hg
      have HDN := Lib.hid hdn
      have hn := right_len hg
      rw [hr] at HN hnr
      have HNR := Lib.hid hnr
      rw [hP]
      clear hok hd hP hnr hr hg hdn
      go_enter Try.func19, Try.ntmps19
      go_wp2_with fail
      refine HC.out.mono ?_
      rintro e w1 ⟨rfl, hb1⟩
      have HB1 := Lib.hid (HB0.out w1 hb1)
      have HN1 := Lib.hid (HN.out w1 hb1)
      clear hb1 HC HN HB0
      go_wp2_with fail
      refine HN1.out.mono ?_
      rintro e w2 ⟨rfl, hb2⟩
      have HB2 := Lib.hid (HB1.out.trans (hb2.mono HB1.out.size))
      clear hb2 HN1 HB1
      have HNW := Lib.hid (newWalk_any E g.length ce w2 hn)
      go_wp2_with fail
      refine HNW.out.mono ?_
      rintro e w3 ⟨gb, gc, rfl, hw3, hb3⟩
      have HW3 := Lib.hid hw3
      have HB3 := Lib.hid (HB2.out.trans (hb3.mono HB2.out.size))
      have hsz3 : w2.heap.size ≤ w3.heap.size := hb3.size
      have HS3 := Lib.hid (HS.out.below HB3.out (fun _ h => h))
      have HCL := Lib.hid (close_any w2.heap.size gb gc g.length E none A g.length ce 0 0 c [] done w3 hw3.box hw3.ne hw3.clo (HS3.out.weak fun k hk => by have := hw3.lo; have := HB2.out.size; omega) HDN.out hn2)
      clear hw3 hb3 HNW
      go_wp2_with fail
      refine HCL.out.mono ?_
      rintro e w4 ⟨rfl, hclo, honly⟩
      have HW4 := Lib.hid (HW3.out.only honly (C2 := once [] done) (by rw [bools_congr g.length (D := [] ++ done) (fun x => by rw [once_mem]; simp)]; exact hclo))
      have HB4 := Lib.hid (HB3.out.trans ((honly.below HW3.out.lo.2).mono HB2.out.size))
      have hsz4 : w3.heap.size ≤ w4.heap.size := Nat.le_of_eq honly.size.symm
      have HW5 := Lib.hid (HW4.out.alloc (.cells #[.int .i64 root] 3))
      have HB5 := Lib.hid (HB4.out.trans ((Below.refl w.heap.size w4).alloc HB4.out.size (.cells #[.int .i64 root] 3)))
      clear hclo honly HCL HW3
      have HDE := Lib.hid (descend_any w2.heap.size gb gc E ce ws g HG.out (free g.length (once [] done)) (once [] done) [] [root] C' o' none 0 (some ⟨w4.heap.size, 0, none⟩) 1 (w4.alloc (.cells #[.int .i64 root] 3)) (Nat.le_refl _) HD.out ⟨(by intro x hx; cases hx), rfl, Full.nil _⟩ HW5.out (by rw [alloc_size]; omega) ((HE.out.below HB5.out (fun _ h => h)).weak fun k hk => Nat.lt_of_lt_of_le hk HB2.out.size) (src_lit w4 [.int .i64 root] 3 _ (.inr (Nat.le_refl _))) HNR.out (by simp))
      go_wp2_with fail
      refine HDE.out.mono ?_
      rintro e w6 ⟨rfl, ⟨O6, co6, hw6⟩, hb6⟩
      have HW6 := Lib.hid hw6
      have HB6 := Lib.hid (HB5.out.trans (hb6.mono HB2.out.size))
      have q2 : w6.cell? ⟨gb, 2, none⟩ = some (.slice O6 o'.length co6) := HW6.out.box.c 2
      clear hw6 hb6 HDE HW4 HW5
      go_wp2_with fail
      go_ret2
      exact .inr ⟨rfl, O6, co6, rfl, own_more HW6.out.ord HB2.out.size, HB6.out⟩
end Go.Proofs.Ytkaejcpnlphdpaa
