/-
  The document's model: what a range holds.
-/
import Derived.Test.YthbdncojekpanaaDe
namespace Go.Proofs.Ythbdncojekpanaa
open Go.RowKit

theorem slice_mid (A : Option Addr) (n c k m : Nat) (hk : k + m ≤ c) (w' : World) : (Instr.slice 31 (.slice A n c) (some (.int .i64 (k : Int))) (some (.int .i64 ((k + m : Nat) : Int))) none).run Try.prog w' = .ok (.slice (dropA A c k) m (c - k)) w' := by
  have hz : (sizeOf (Try.prog.elem 31)).run Try.prog w' = .ok 1 w' := by kernel_rfl
  rw [run_slice_lh (w := w') 31 A n c (by kernel_rfl) .i64 .i64 k ((k + m : Nat) : Int) (by omega) (by omega) (by omega), hz]
  simp [Result.andThen, sliced, dropA]
  omega
theorem Src.mid {w : World} {P : Nat → Prop} {A : Option Addr} {n c k m : Nat} {xs : Str} (h : Src w P A n c (cells xs)) (hk : k + m ≤ n) (hm : 0 < m) : Src w P (dropA A c k) m (c - k) (cells ((xs.drop k).take m)) := by
  have hl : xs.length = n := by have := h.len; rwa [cells_len] at this
  obtain ⟨ad, rfl⟩ : ∃ ad, A = some ad := by
    cases A with
    | none => have := (h.nil rfl).1; omega
    | some ad => exact ⟨ad, rfl⟩
  have hcap := h.cap
  have hd : dropA (some ad) c k = some (ad.add k) := by
    unfold dropA
    rw [if_neg (by omega), Option.map_some]
  rw [hd]
  refine ⟨by rw [cells_len, List.length_take, List.length_drop]; omega, (by intro e; cases e), by omega, (fun a e _ => by cases e; rw [addBlock]; exact h.blk ad rfl (by omega)), fun a e j u hu => ?_⟩
  cases e
  rw [addAdd]
  refine h.at_ ad rfl (k + j) u ?_
  rw [← cells_take, ← cells_drop] at hu
  have hj : j < m := by
    have := (List.getElem?_eq_some_iff.1 hu).1
    rw [List.length_take] at this
    omega
  rw [← hu, List.getElem?_take_of_lt hj, List.getElem?_drop]
theorem got_mid {rs : List Raw} (hd : Dis rs) {a n : Int} (hn : 1 ≤ n) {k : Nat} (hk : k < rs.length) (hf : (rs[k].b.bytes.length : Int) = rs[k].b.size) (h1 : rs[k].b.at_ ≤ a) (h2 : a + n ≤ rs[k].b.at_ + rs[k].b.size) :
    gotS (segs rs) a n = (rs[k].b.bytes.drop (a - rs[k].b.at_).toNat).take n.toNat := by
  unfold gotS
  rw [hold_dis hd hn hk h1 h2]
  apply List.ext_getElem
  · simp only [List.length_map, List.length_range, List.length_take, List.length_drop]
    omega
  · intro j h3 h4
    simp only [List.length_map, List.length_range] at h3
    simp only [List.getElem_map, List.getElem_range, List.getElem_take, List.getElem_drop]
    show rs[k].b.bytes.getD ((a - rs[k].b.at_).toNat + j) 0 = _
    rw [List.getD_eq_getElem?_getD, List.getElem?_eq_getElem (by omega)]
    rfl
set_option maxRecDepth 100000 in
set_option maxHeartbeats 4000000 in
theorem rGet_any (B g : Nat) (A : Option Addr) (c : Nat) (rs : List Raw) (a n p : Int) (ha : I64 a) (hp : p = 0 ∨ p = 1 ∨ p = 2 ∨ p = 4) (hd : Dis rs) (w : World) (h : Seen w g A c rs) (hb : ∀ r ∈ rs, w.ownsRow B 5 1 (.slice r.A r.b.bytes.length r.c) r.b.bytes.length (cells r.b.bytes)) (hf : ∀ r ∈ rs, (r.b.bytes.length : Int) = r.b.size) :
    Calls Try.prog 50 #[.pointer (some ⟨g, 0, none⟩), .int .i64 a, .int .i64 n, .int .i64 p] w (TookS w (segs rs) a n p) := by
  obtain ⟨i0, hi, hz0, hz1, hz2⟩ := info_parts Try.info_u8
  have H := Lib.hid h
  have HU := Lib.hid (ruse_any g A c rs a n p ha hp hd w h)
  have HD := Lib.hid hd
  have HBY := Lib.hid hb
  have HFU := Lib.hid hf
  have HN : Hid (∀ E w', Below w.heap.size w w' → E = goesS (segs rs) a n p → E ≠ 0 → TookS w (segs rs) a n p (.returned (.tuple #[.slice none 0 0, .int .i64 E])) w') := Lib.hid fun E w' hb he h0 => by
    subst he
    exact ⟨hb, none, 0, 0, rfl, by rw [if_neg h0]; rfl, by rw [if_neg h0]; exact ⟨rfl, .inl ⟨rfl, rfl⟩⟩⟩
  have HY : Hid (∀ (bs : Str) A' c' w', goesS (segs rs) a n p = 0 → gotS (segs rs) a n = bs → Below w.heap.size w w' → w'.ownsRow w.heap.size 5 1 (.slice A' bs.length c') bs.length (cells bs) → TookS w (segs rs) a n p (.returned (.tuple #[.slice A' bs.length c', .int .i64 0])) w') := Lib.hid fun bs A' c' w' h0 hg hb ho => by
    refine ⟨hb, A', _, c', by rw [h0], ?_, ?_⟩
    · rw [if_pos h0, hg]
    · rw [if_pos h0, hg]
      exact ho
  generalize TookS w (segs rs) a n p = L at *
  clear h hd hb hf hp ha
  go_enter Try.func50, Try.ntmps50
  go_wp2_with fail
  refine HU.out.mono ?_
  rintro e w1 ⟨k, E, rfl, hr, hb1⟩
  have HR := Lib.hid hr
  have HB := Lib.hid hb1
  clear hr hb1 HU
  by_cases hE : E = 0
  · obtain ⟨hkr, h1, h2⟩ := HR.out.here hE
    have h0 : goesS (segs rs) a n p = 0 := HR.out.goes.symm.trans hE
    have hn := goes_len h0
    have hmem := List.getElem_mem hkr
    have hfu := HFU.out rs[k] hmem
    have HG := Lib.hid (got_mid HD.out hn.1 hkr hfu h1 h2)
    obtain ⟨ad, rfl⟩ : ∃ ad, A = some ad := by
      cases A with
      | none => have := (H.out.bls.nil rfl).1; omega
      | some ad => exact ⟨ad, rfl⟩
    obtain ⟨b, o, rfl⟩ := H.out.bls.plain ad rfl
    have hc := cell_below HB.out H.out.box
    obtain ⟨c0, _, _, c3⟩ := (H.out.bls.below HB.out).at_ b o k rfl hkr
    have hcap := H.out.bls.cap
    have hft := H.out.fit rs[k] hmem
    have HS := Lib.hid (Src.of_own (own_beside (HBY.out rs[k] hmem) (Beside.of_below HB.out (fun _ => False)) fun _ _ e => e)).lt
    have HZ := Lib.hid h0
    obtain ⟨f, hf⟩ : ∃ f : Nat, (f : Int) = a - rs[k].b.at_ := ⟨(a - rs[k].b.at_).toNat, by omega⟩
    obtain ⟨m, rfl⟩ : ∃ m : Nat, n = (m : Int) := ⟨n.toNat, by omega⟩
    have hff : (a - rs[k].b.at_).toNat = f := by omega
    have hmm : ((m : Int)).toNat = m := by omega
    rw [hff, hmm] at HG
    subst hE
    generalize rs[k].b.bytes = bs at *
    generalize rs[k].A = A0 at *
    generalize rs[k].c = cc at *
    generalize rs[k].b.at_ = a0 at *
    generalize rs[k].b.size = s0 at *
    obtain ⟨f1, _, f3, f4, _, f6, _⟩ := hft
    have hfl : f + m ≤ bs.length := by omega
    have hcc := HS.out.cap
    have HM := Lib.hid (HS.out.mid hfl (by omega))
    have e1 : wrap64 (a - a0) = (f : Int) := by rw [hf]; exact IntWalk.wrap64_in _ (by omega)
    have hfb : f + m ≤ 1048576 := by omega
    have hsl : ∀ w', (Instr.slice 31 (.slice A0 bs.length cc) (some (.int .i64 (f : Int))) (some (.int .i64 ((f : Int) + (m : Int)))) none).run Try.prog w' = .ok (.slice (dropA A0 cc f) m (cc - f)) w' := fun w' => by rw [← Int.natCast_add]; exact slice_mid A0 bs.length cc f m (by omega) w'
    have hml : ((bs.drop f).take m).length = m := by rw [List.length_take, List.length_drop]; omega
    have HML := Lib.hid hml
    have HO := Lib.hid (show w1.ownsRow w.heap.size 5 1 (.slice none 0 0) 0 [] from ⟨rfl, .inl ⟨rfl, rfl⟩⟩)
    have h1c := cells_one ((bs.drop f).take m)
    have m1 : 0 + m ≤ maxLen := by simp only [maxLen]; omega
    have m2 : (0 + m) * 1 ≤ 140737488355328 := by omega
    have hsz := HB.out.size
    clear HN h0 hn hmem hfu HD HBY HFU HR hml hff hmm hf f1 f3 f4 f6 hfl hcc h1 h2
    generalize (bs.drop f).take m = mid at *
    go_wp2_with (at_builtin; refine wpList_append_src rfl (.tmp 36) (.tmp 49) _ rfl w.heap.size 5 i0 _ 1 Try.underlying31 hi hz0 hz1 hz2 rfl (.slice none 0 0) 0 [] rfl HO.out _ (dropA A0 cc f) m (cc - f) (cells mid) rfl HM.out h1c m1 m2 hsz ?_; intro v' w2 hown hg hat; obtain ⟨A', c', rfl⟩ := own_slice hown; have HO2 := Lib.hid hown; have HB2 := Lib.hid (HB.out.grown hg hsz (fun k hk => by cases hk)); clear hown hg hat)
    have hown := HO2.out
    simp only [Nat.zero_add, List.nil_append] at hown
    have hmm := HML.out
    subst hmm
    first | go_ret2 | skip
    try simp only [Nat.zero_add]
    exact HY.out mid A' c' w2 HZ.out HG.out HB2.out hown
  · have HE := Lib.hid (HN.out E w1 HB.out HR.out.goes hE)
    have b1 : (E == 0) = false := by simpa using hE
    have b2 : (E != 0) = true := by simpa using hE
    clear HN HY HR hE
    go_wp2_with fail
    first | go_ret2 | skip
    exact HE.out
end Go.Proofs.Ythbdncojekpanaa
