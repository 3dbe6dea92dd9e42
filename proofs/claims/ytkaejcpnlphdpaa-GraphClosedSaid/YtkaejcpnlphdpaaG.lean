/-
  In depth: descend.
-/
import Derived.Test.YtkaejcpnlphdpaaF
namespace Go.Proofs.Ytkaejcpnlphdpaa
open Go.RowKit

/-- What is left is closed, nodes alone, no double. -/
structure Lv (n : Nat) (C o : List Int) : Prop where
  sub : ∀ x ∈ o, x ∈ C
  nod : nodesB n o = true
  full : Full n o
theorem nodes_cons {n : Nat} {x : Int} {l : List Int} (h : nodesB n (x :: l) = true) : isNode n x = true ∧ nodesB n l = true := by
  unfold nodesB at *
  simp only [List.all_cons, Bool.and_eq_true] at h
  exact h
theorem Lv.add {n : Nat} {C o : List Int} (h : Lv n C o) (x : Int) : Lv n (C ++ [x]) o := ⟨fun y hy => List.mem_append_left _ (h.sub y hy), h.nod, h.full⟩
/-- Behind a node's list the node itself is left. -/
theorem D.node {g : Gr} {C o C1 o1 : List Int} {x : Int} (hg : rightB g = true) (hx : x ∉ C) (hn : isNode g.length x = true) (h : D g (C ++ [x]) o (adj g x) C1 o1) (hl : Lv g.length C o) : Lv g.length C1 (o1 ++ [x]) := by
  have h4 := h.left (n := g.length) (fun y => right_adj hg y) (hl.add x).sub (right_adj hg x) hl.nod hl.full
  have hxo : x ∉ o1 := fun h => by
    rcases h4.2.2.1 x h with h | h
    · exact hx (hl.sub x h)
    · exact h (by simp)
  refine ⟨fun y hy => ?_, ?_, h4.2.1.snoc hxo hn⟩
  · rcases List.mem_append.1 hy with h5 | h5
    · exact h4.2.2.2 y h5
    · rw [List.mem_singleton.1 h5]
      exact h.more.1 x (by simp)
  · have := h4.1
    unfold nodesB at *
    simp [this, hn]
set_option maxRecDepth 100000 in
set_option maxHeartbeats 4000000 in
theorem descend_any (B gb gc : Nat) (E : Option Addr) (ce : Nat) (ws : Nat → Option Addr × Nat) (g : Gr) (hg : rightB g = true) (f : Nat) : ∀ (C o l C' o' : List Int) (O : Option Addr) (co : Nat) (A : Option Addr) (c : Nat) (w : World), free g.length C ≤ f → D g C o l C' o' → Lv g.length C o →
    Wk w B gb gc g.length E ce C o O co → B ≤ w.heap.size → Ed w (fun k => k < B) E ce ws g → Src w (fun k => k < B ∨ l.length ≤ 1) A l.length c (ints l) → nodesB g.length l = true → l.length ≤ 4611686018427387904 →
    Calls Try.prog 27 #[.pointer (some ⟨gb, 0, none⟩), .slice A l.length c] w fun e w' => e = .returned (.tuple #[]) ∧ (∃ O' co', Wk w' B gb gc g.length E ce C' o' O' co') ∧ Below B w w' := by
  refine Nat.strongRecOn f ?_
  intro f ih C o l C' o' O co A c w hf hd hlv hw hB he hs hl hn2
  have HIH := Lib.hid ih
  have HD := Lib.hid hd
  have HLV := Lib.hid hlv
  have HW := Lib.hid hw
  have HBS := Lib.hid hB
  have HE := Lib.hid he
  have HS := Lib.hid hs
  have HL := Lib.hid hl
  have HG := Lib.hid hg
  have hn := right_len hg
  clear ih hd hlv hw hB he hs hl hg
  obtain ⟨i0, hi0, hz0, hz1, hz2⟩ := info3 (show (Try.prog.info? 3).map (fun i => (i.zero, i.size, i.bytes)) = some (some (.int .i64 0), 1, 8) by kernel_rfl)
  go_enter Try.func27, Try.ntmps27
  go_wp2_with fail
  go_loopw [8] (fun i wr => ∃ (k : Nat) (Ck ok : List Int) (Ok : Option Addr) (cok : Nat), k ≤ l.length ∧ i = .int .i64 (k : Int) ∧ D g Ck ok (l.drop k) C' o' ∧ Wk wr B gb gc g.length E ce Ck ok Ok cok ∧ free g.length Ck ≤ f ∧ Lv g.length Ck ok ∧ Below B w wr ∧ (k = 0 → wr = w)) (fun i _ => l.length - (intOf i).toNat)
  case atStart => exact ⟨0, C, o, O, co, Nat.zero_le _, rfl, HD.out, HW.out, hf, HLV.out, Below.refl _ _, fun _ => rfl⟩
  case round =>
    obtain ⟨k, Ck, ok, Ok, cok, hk, rfl, hdk, hwk, hfk, hlk, hB, hww⟩ := hrel
    have HB := Lib.hid hB
    have HK := Lib.hid hwk
    have HDK := Lib.hid hdk
    have HLK := Lib.hid hlk
    have HFK := Lib.hid hfk
    clear hB hwk hdk hlk hfk
    by_cases hlt : k < l.length
    · cases A with
      | none => have := (HS.out.nil rfl).1; omega
      | some ad =>
        have hsr : Src wr (fun _ => True) (some ad) l.length c (ints l) := by
          by_cases h1 : l.length ≤ 1
          · obtain rfl : wr = w := hww (by omega)
            exact HS.out.weak fun _ _ => trivial
          · exact (HS.out.keep fun j hj _ => HB.out.block j (by rcases hj with h | h; exact h; exact absurd h h1)).weak fun _ _ => trivial
        have hc := hsr.at_ ad rfl k _ (ints_get l k hlt)
        clear hsr hww
        obtain ⟨m, hm, hmn⟩ := node_nat (nodes_mem HL.out (List.getElem_mem hlt))
        have hdk := HDK.out
        rw [List.drop_eq_getElem_cons hlt, hm] at hdk
        rw [hm] at hc
        have k1 : wr.cell? ⟨gb, 1, none⟩ = some (.slice (some ⟨gc, 0, none⟩) g.length g.length) := HK.out.box.c 1
        obtain ⟨cur, hbc, hsz, hcu⟩ := own_bx HK.out.clo
        have k2 : wr.cell? ⟨gc, m, none⟩ = some (.bool (decide ((m : Int) ∈ Ck))) := (hbc.c m).trans (by
          have := bools_get g.length Ck m hmn
          rw [← hcu, List.getElem?_take_of_lt (by omega), Array.getElem?_toList] at this
          exact this)
        clear hm hsz hbc hcu HDK
        cases hdk with
        | skip hp hd2 =>
          have HD2 := Lib.hid hd2
          rw [decide_eq_true hp] at k2
          clear hd2
          go_wp2_with fail
          go_roundw
          case rel => exact ⟨k + 1, Ck, ok, Ok, cok, by omega, by go_num, HD2.out, HK.out, HFK.out, HLK.out, HB.out, fun h => by omega⟩
          case measure => simp [intOf]; omega
        | @go _ _ _ _ C1 o1 _ _ hp hd1 hd2 =>
          rw [decide_eq_false hp] at k2
          have HD2 := Lib.hid hd2
          have hnm : isNode g.length (m : Int) = true := decide_eq_true (by omega)
          have hfa := free_add g.length Ck (m : Int) hp
          rw [hnm, if_pos rfl] at hfa
          have HLV2 := Lib.hid (hd1.node HG.out hp hnm HLK.out)
          have HF1 := Lib.hid (Nat.le_trans (free_mono g.length (fun x hx => hd1.more.1 x (List.mem_append_left _ hx))) HFK.out)
          have hpl := HLV2.out.full.le
          rw [List.length_append] at hpl
          simp only [List.length_cons, List.length_nil] at hpl
          have HRA := Lib.hid (right_adj HG.out (m : Int))
          rw [adj_nat g m hmn] at hd1 HRA
          have HD1 := Lib.hid hd1
          have HIH1 := Lib.hid (HIH.out (free g.length (Ck ++ [(m : Int)])) (by have := HFK.out; omega) (Ck ++ [(m : Int)]) ok g[m] C1 o1)
          have HLA := Lib.hid (HLK.out.add (m : Int))
          have HBG := Lib.hid (HE.out.bigs m hmn)
          have HIN := Lib.hid (HE.out.inn m hmn)
          clear hd1 hd2 hp HIH
          have HW1 := Lib.hid (HK.out.alloc (.cells #[.int .i64 (m : Int)] 3))
          have HCL := Lib.hid (close_any B gb gc g.length E Ok (some ⟨wr.heap.size, 0, none⟩) g.length ce ok.length cok 1 Ck [(m : Int)] _ HW1.out.box HW1.out.ne HW1.out.clo (src_lit wr [.int .i64 (m : Int)] 3 _ (by have := (HK.out.clo.lt gc rfl).2; omega)) (by simp [nodesB, hnm]) (by simp))
          have HBA := Lib.hid ((Below.refl B wr).alloc (Nat.le_trans HBS.out HB.out.size) (.cells #[.int .i64 (m : Int)] 3))
          have hB2 : B ≤ wr.heap.size := Nat.le_trans HBS.out HB.out.size
          cases E with
          | none => have := (HE.out.out.nil rfl).1; omega
          | some ed =>
            have HLG := Lib.hid (lists_get ws g m hmn)
            generalize g[m] = q at *
            go_wp2_with fail
            refine HCL.out.mono ?_
            rintro e w2 ⟨rfl, hclo, honly⟩
            have HW2 := Lib.hid (HW1.out.only honly hclo)
            have HBB := Lib.hid ((HB.out.trans HBA.out).trans (honly.below HW1.out.lo.2))
            have hB3 : B ≤ w2.heap.size := Nat.le_trans HBS.out HBB.out.size
            have q0 : w2.cell? ⟨gb, 0, none⟩ = some (.slice (some ed) g.length ce) := HW2.out.box.c 0
            have q1 : w2.cell? (ed.add m) = some (.slice (ws m).1 q.length (ws m).2) := (HE.out.out.keep (w' := w2) (fun j hj _ => HBB.out.block j hj)).at_ ed rfl m _ HLG.out
            have HC2 := Lib.hid (HIH1.out Ok cok (ws m).1 (ws m).2 w2 (Nat.le_refl _) HD1.out HLA.out HW2.out hB3 (HE.out.below HBB.out (fun _ h => h)) ((HIN.out.below HBB.out (fun _ h => h)).weak fun _ h => .inl h) HRA.out HBG.out)
            clear hclo honly HCL HW1 HBA HIH1 HLG
            go_wp2_with fail
            refine HC2.out.mono ?_
            rintro e w3 ⟨rfl, ⟨O3, co3, hw3⟩, hb3⟩
            have HW3 := Lib.hid hw3
            have HB3 := Lib.hid (HBB.out.trans hb3)
            have hB4 : B ≤ w3.heap.size := Nat.le_trans HBS.out HB3.out.size
            clear hw3 hb3 HC2
            have q2 : w3.cell? ⟨gb, 2, none⟩ = some (.slice O3 o1.length co3) := HW3.out.box.c 2
            have HOA := Lib.hid (HW3.out.ord.alloc (.cells #[.int .i64 (m : Int)] 3))
            have HSL := Lib.hid (src_lit w3 [.int .i64 (m : Int)] 3 (fun _ => True) trivial)
            have HPU := Lib.hid (fun (w4 : World) (O4 : Option Addr) (c4 : Nat) => Wk.push (obj := .cells #[.int .i64 (m : Int)] 3) (w4 := w4) (O4 := O4) (c4 := c4) (m := (m : Int)) HW3.out hB4)
            have HKG := Lib.hid (fun (w4 : World) (h4 : (w3.alloc (.cells #[.int .i64 (m : Int)] 3)).grownBy w4 (row O3)) => HW3.out.box.keep (w' := w4) ((h4.block gb (by rw [alloc_size]; have := HW3.out.box.lt; omega) (Ne.symm HW3.out.ng)).trans (Below.heap_alloc w3 _ gb HW3.out.box.lt)))
            go_wp2_with (at_builtin; refine wpList_append_src rfl (.tmp 37) (.tmp 39) 23 rfl B 3 i0 (.int .i64 0) 8 Try.underlying23 hi0 hz0 hz1 hz2 rfl (.slice O3 o1.length co3) o1.length (ints o1) rfl HOA.out (fun _ => True) _ 1 1 [.int .i64 (m : Int)] rfl HSL.out (by intro u hu; simp at hu; subst hu; rfl) (by simp only [maxLen]; omega) (by omega) (by rw [alloc_size]; omega) ?_; intro v' w4 hown hg hat; obtain ⟨A', c', rfl⟩ := own_slice hown; rw [row_own] at hg hat; rw [row_own] at hat; have HFIN := Lib.hid (HPU.out w4 A' c' hg hown hat); have q4 : w4.cell? ⟨gb, 2, none⟩ = some (.slice O3 o1.length co3) := (HKG.out w4 hg).c 2; have q5 : w4.frozen? ⟨gb, 2, none⟩ = false := (HKG.out w4 hg).f 2; clear hown hg hat)
            go_roundw
            case rel => exact ⟨k + 1, C1, o1 ++ [(m : Int)], A', c', by omega, by go_num, HD2.out, HFIN.out.1, HF1.out, HLV2.out, HB3.out.trans HFIN.out.2, fun h => by omega⟩
            case measure => simp [intOf]; omega
    · obtain rfl : k = l.length := by omega
      have hdk := HDK.out
      rw [List.drop_length] at hdk
      cases hdk
      go_wp2_with fail
      first | go_ret | go_end0
      exact ⟨rfl, ⟨_, _, HK.out⟩, HB.out⟩
end Go.Proofs.Ytkaejcpnlphdpaa
