/-
  The document's model as plain regions: what each of its functions answers.
  An act of a script, done by the document's model.
-/
import Derived.Test.YthbdncojekpanaaDm
import Derived.Test.YthbdncojekpanaaDn
import Derived.Test.YthbdncojekpanaaDi
import Derived.Test.YthbdncojekpanaaAj
namespace Go.Proofs.Ythbdncojekpanaa
section
open Go.RowKit

theorem good_few {ss : List Seg} (h : Good ss) : ss.length ≤ 67108864 := by
  have key : ∀ j (hj : j < ss.length), 4096 + (j : Int) * 64 ≤ ss[j].at_ := by
    intro j
    induction j with
    | zero => intro hj; have := (h.fit ss[0] (List.getElem_mem hj)).1; omega
    | succ j ih =>
      intro hj
      have h1 := ih (by omega)
      have h2 := h.next_at (j := j) (k := j + 1) (by omega) hj (by omega)
      have h3 := (h.fit ss[j] (List.getElem_mem (by omega))).2.2.1
      omega
  rcases Nat.eq_zero_or_pos ss.length with h0 | h0
  · omega
  · have h1 := key (ss.length - 1) (by omega)
    have h2 := h.fit ss[ss.length - 1] (List.getElem_mem (by omega))
    omega
/-- A space of the document's in memory, that is these regions. -/
def Mies (w : World) (B g : Nat) (F : Nat → Prop) (ss : List Seg) : Prop := ∃ A c rs, Dp w B g A c rs ∧ (segs rs).Perm ss ∧ Good ss ∧ ∀ k, F k ↔ Foot g A rs k
def WentM (w w' : World) (B g : Nat) (F : Nat → Prop) (ss : List Seg) : Prop := ∃ F', Mies w' B g F' ss ∧ Beside w w' F ∧ ∀ k, F' k → F k ∨ w.heap.size ≤ k
theorem seen_of {w : World} {B g c : Nat} {A : Option Addr} {rs : List Raw} {ss : List Seg} (h : Dp w B g A c rs) (hp : (segs rs).Perm ss) (hg : Good ss) : Seen w g A c rs :=
  ⟨h.box.c 0, h.bls, fun r hr => hg.fit (seg r.b) (hp.mem_iff.1 (List.mem_map_of_mem hr)), by have := hp.length_eq; rw [segs_len] at this; have := good_few hg; omega⟩
theorem Mies.lt {w : World} {B g : Nat} {F : Nat → Prop} {ss : List Seg} (h : Mies w B g F ss) {k : Nat} (hk : F k) : B ≤ k ∧ k < w.heap.size := by
  obtain ⟨A, c, rs, h1, _, _, h4⟩ := h
  exact h1.lt ((h4 k).1 hk)
theorem Mies.good {w : World} {B g : Nat} {F : Nat → Prop} {ss : List Seg} (h : Mies w B g F ss) : Good ss := by
  obtain ⟨_, _, _, _, _, h, _⟩ := h
  exact h
theorem Mies.beside {w w' : World} {B g : Nat} {F p : Nat → Prop} {ss : List Seg} (h : Mies w B g F ss) (hb : Beside w w' p) (hn : ∀ k, F k → ¬ p k) : Mies w' B g F ss := by
  obtain ⟨A, c, rs, h1, h2, h3, h4⟩ := h
  exact ⟨A, c, rs, h1.beside hb fun k hk => hn k ((h4 k).2 hk), h2, h3, h4⟩
theorem Mies.below {w w' : World} {B g : Nat} {F : Nat → Prop} {ss : List Seg} (h : Mies w B g F ss) (hb : Below w.heap.size w w') : Mies w' B g F ss := h.beside (Beside.of_below hb (fun _ => False)) fun _ _ e => e
theorem hold_perm {rs : List Raw} {ss : List Seg} (hg : Good ss) (hp : (segs rs).Perm ss) {a n : Int} (hn : 1 ≤ n) : holdS (segs rs) a n = holdS ss a n := by
  cases h : holdS ss a n with
  | none =>
    refine hold_no fun k hk hh => ?_
    have hm : seg rs[k].b ∈ ss := hp.mem_iff.1 (List.mem_map_of_mem (List.getElem_mem hk))
    rw [hold_mem hg hm hn hh.1 hh.2] at h
    cases h
  | some s =>
    obtain ⟨h0, h1, h2⟩ := hold_in h
    obtain ⟨x, hx, rfl⟩ := segs_mem (hp.mem_iff.2 h0)
    obtain ⟨k, hk, rfl⟩ := List.getElem_of_mem hx
    exact hold_dis (dis_of hg hp) hn hk h1 h2
theorem goes_perm {rs : List Raw} {ss : List Seg} (hg : Good ss) (hp : (segs rs).Perm ss) (a n need : Int) : goesS (segs rs) a n need = goesS ss a n need := by
  unfold goesS
  by_cases h : n < 1 ∨ 1048576 < n
  · rw [if_pos h, if_pos h]
  · rw [if_neg h, if_neg h, hold_perm hg hp (by omega)]
theorem got_perm {rs : List Raw} {ss : List Seg} (hg : Good ss) (hp : (segs rs).Perm ss) {a n : Int} (hn : 1 ≤ n) : gotS (segs rs) a n = gotS ss a n := by
  unfold gotS
  rw [hold_perm hg hp hn]
theorem read_perm {rs : List Raw} {ss : List Seg} (hg : Good ss) (hp : (segs rs).Perm ss) (a n need : Int) : (if goesS (segs rs) a n need = 0 then gotS (segs rs) a n else []) = (if goesS ss a n need = 0 then gotS ss a n else []) := by
  rw [goes_perm hg hp]
  by_cases h : goesS ss a n need = 0
  · rw [if_pos h, if_pos h, got_perm hg hp (goes_len h).1]
  · rw [if_neg h, if_neg h]
theorem ins_perm (x : Seg) : ∀ ss : List Seg, (insS x ss).Perm (x :: ss)
  | [] => List.Perm.refl _
  | s :: ss => by
    unfold insS
    split
    · exact List.Perm.refl _
    · exact ((ins_perm x ss).cons s).trans (List.Perm.swap x s ss)
theorem snoc_perm {rs : List Raw} {ss : List Seg} (hp : (segs rs).Perm ss) (x : Seg) : (segs rs ++ [x]).Perm (insS x ss) :=
  (List.perm_append_comm.trans (hp.cons x)).trans (ins_perm x ss).symm
theorem Moved.wentM {w w' : World} {B g : Nat} {A : Option Addr} {rs : List Raw} {ds ss : List Seg} {F : Nat → Prop} (h : Moved w w' B g A rs ds) (hF : ∀ k, F k ↔ Foot g A rs k) (hp : ds.Perm ss) (hg : Good ss) : WentM w w' B g F ss := by
  obtain ⟨A', c', rs', h1, h2, h3, h4⟩ := h
  exact ⟨Foot g A' rs', ⟨A', c', rs', h1, by rw [h2]; exact hp, hg, fun _ => Iff.rfl⟩, h3.weak fun k _ hk => (hF k).2 hk, fun k hk => (h4 k hk).imp (hF k).2 id⟩
theorem Map_m {w : World} {B g : Nat} {F : Nat → Prop} {ss : List Seg} (s p : Int) (h : Mies w B g F ss) :
    Calls Try.prog 42 #[.pointer (some ⟨g, 0, none⟩), .int .i64 s, .int .i64 p] w fun e w' => e = .returned (.tuple #[.int .i64 (mapS ss s p).1, .int .i64 (mapS ss s p).2.1]) ∧ WentM w w' B g F (mapS ss s p).2.2 := by
  obtain ⟨A, c, rs, h1, hp, hg, hF⟩ := h
  refine (rMap_any B g A c rs ss s p hg hp w (seen_of h1 hp hg) h1).mono fun e w' ⟨he, hm⟩ => ⟨he, ?_⟩
  have hgd := good_map_ hg s p
  rcases map_cases hg s p with hc | hc | ⟨a, hc, _⟩
  · rw [hc] at hm hgd ⊢
    rcases hm with ⟨_, hm⟩ | ⟨h0, _⟩
    · exact hm.wentM hF hp hgd
    · exact absurd h0 (by show (1 : Int) ≠ 0; decide)
  · rw [hc] at hm hgd ⊢
    rcases hm with ⟨_, hm⟩ | ⟨h0, _⟩
    · exact hm.wentM hF hp hgd
    · exact absurd h0 (by show (3 : Int) ≠ 0; decide)
  · rw [hc] at hm hgd ⊢
    rcases hm with ⟨h0, _⟩ | ⟨_, hm⟩
    · exact absurd rfl h0
    · exact hm.wentM hF (snoc_perm hp _) hgd
theorem MapAt_m {w : World} {B g : Nat} {F : Nat → Prop} {ss : List Seg} (a s p : Int) (h : Mies w B g F ss) :
    Calls Try.prog 43 #[.pointer (some ⟨g, 0, none⟩), .int .i64 a, .int .i64 s, .int .i64 p] w fun e w' => e = .returned (.int .i64 (mapAtS ss a s p).1) ∧ WentM w w' B g F (mapAtS ss a s p).2 := by
  obtain ⟨A, c, rs, h1, hp, hg, hF⟩ := h
  refine (rMapAt_any B g A c rs ss a s p hg hp w (seen_of h1 hp hg) h1).mono fun e w' ⟨he, hm⟩ => ⟨he, ?_⟩
  have hgd := good_mapAt hg a s p
  have hca : (mapAtS ss a s p).1 = 0 ∧ (mapAtS ss a s p).2 = insS (newS a (up s) p) ss ∨ (mapAtS ss a s p).1 ≠ 0 ∧ (mapAtS ss a s p).2 = ss := by
    unfold mapAtS
    split
    · split
      · exact .inl ⟨rfl, rfl⟩
      · exact .inr ⟨by show (51 : Int) ≠ 0; decide, rfl⟩
    · exact .inr ⟨by show (1 : Int) ≠ 0; decide, rfl⟩
  rcases hca with ⟨c1, c2⟩ | ⟨c1, c2⟩
  · rcases hm with ⟨h0, _⟩ | ⟨_, hm⟩
    · exact absurd c1 h0
    · rw [c2] at hgd ⊢
      exact hm.wentM hF (snoc_perm hp _) hgd
  · rcases hm with ⟨_, hm⟩ | ⟨h0, _⟩
    · rw [c2] at hgd ⊢
      exact hm.wentM hF hp hgd
    · exact absurd h0 c1
theorem has_perm {rs : List Raw} {ss : List Seg} (hp : (segs rs).Perm ss) (a : Int) : hasS (segs rs) a = hasS ss a := by
  unfold hasS
  rw [Bool.eq_iff_iff, List.any_eq_true, List.any_eq_true]
  exact ⟨fun ⟨x, hx, e⟩ => ⟨x, hp.mem_iff.1 hx, e⟩, fun ⟨x, hx, e⟩ => ⟨x, hp.mem_iff.2 hx, e⟩⟩
theorem Unmap_m {w : World} {B g : Nat} {F : Nat → Prop} {ss : List Seg} (a : Int) (h : Mies w B g F ss) :
    Calls Try.prog 44 #[.pointer (some ⟨g, 0, none⟩), .int .i64 a] w fun e w' => e = .returned (.int .i64 (unmapS ss a).1) ∧ WentM w w' B g F (unmapS ss a).2 := by
  obtain ⟨A, c, rs, h1, hp, hg, hF⟩ := h
  refine (rUnmap_any B g A c rs a (dis_of hg hp) w (seen_of h1 hp hg) h1).mono fun e w' ⟨he, hm⟩ => ?_
  have hgd := good_unmap hg a
  unfold unmapS at he hm hgd ⊢
  rw [has_perm hp] at he hm
  by_cases hh : hasS ss a = true
  · rw [if_pos hh] at he hm hgd ⊢
    exact ⟨he, hm.wentM hF (hp.filter _) hgd⟩
  · rw [if_neg hh] at he hm hgd ⊢
    exact ⟨he, hm.wentM hF hp hgd⟩
theorem Protect_m {w : World} {B g : Nat} {F : Nat → Prop} {ss : List Seg} (a p : Int) (h : Mies w B g F ss) :
    Calls Try.prog 45 #[.pointer (some ⟨g, 0, none⟩), .int .i64 a, .int .i64 p] w fun e w' => e = .returned (.int .i64 (protS ss a p).1) ∧ WentM w w' B g F (protS ss a p).2 := by
  obtain ⟨A, c, rs, h1, hp, hg, hF⟩ := h
  refine (rProtect_any B g A c rs a p (dis_of hg hp) w (seen_of h1 hp hg) h1).mono fun e w' ⟨he, hm⟩ => ?_
  have hgd := good_prot hg a p
  unfold protS at he hm hgd ⊢
  rw [has_perm hp] at he hm
  by_cases hb : permB p = true
  · rw [if_pos hb] at he hm hgd ⊢
    by_cases hh : hasS ss a = true
    · rw [if_pos hh] at he hm hgd ⊢
      exact ⟨he, hm.wentM hF (hp.map _) hgd⟩
    · rw [if_neg hh] at he hm hgd ⊢
      exact ⟨he, hm.wentM hF hp hgd⟩
  · rw [if_neg hb] at he hm hgd ⊢
    exact ⟨he, hm.wentM hF hp hgd⟩
theorem SetD.wentM {w w' : World} {B g c : Nat} {A : Option Addr} {rs : List Raw} {ss : List Seg} {F : Nat → Prop} {a need : Int} {ms : Str} {e : Ending} (h1 : Dp w B g A c rs) (hp : (segs rs).Perm ss) (hg : Good ss) (hF : ∀ k, F k ↔ Foot g A rs k) (h : SetD w B g A c rs a ms need e w') :
    e = .returned (.int .i64 (storeS ss a ms need).1) ∧ WentM w w' B g F (storeS ss a ms need).2 := by
  have hgd := good_store hg a ms need
  unfold storeS at hgd ⊢
  rcases h with ⟨h0, he, hb⟩ | ⟨h0, he, rs', h2, h3, h4, h5⟩
  · rw [goes_perm hg hp] at h0 he
    rw [if_neg h0] at hgd ⊢
    exact ⟨he, (Moved.stay h1 hb).wentM hF hp hgd⟩
  · rw [goes_perm hg hp] at h0
    rw [if_pos h0] at hgd ⊢
    exact ⟨he, Moved.wentM ⟨A, c, rs', h2, h3, h5, fun k hk => .inl ((h4 k).1 hk)⟩ hF (hp.map _) hgd⟩
theorem Set_m {w : World} {B g : Nat} {F P : Nat → Prop} {ss : List Seg} {a p : Int} {SA : Option Addr} {m sc : Nat} {ms : Str} (ha : I64 a) (hp : p = 0 ∨ p = 1 ∨ p = 2 ∨ p = 4) (h : Mies w B g F ss) (hs : Src w P SA m sc (cells ms)) (hP : ∀ q, P q → ¬ F q ∧ q < w.heap.size) :
    Calls Try.prog 46 #[.pointer (some ⟨g, 0, none⟩), .int .i64 a, .slice SA m sc, .int .i64 p] w fun e w' => e = .returned (.int .i64 (storeS ss a ms p).1) ∧ WentM w w' B g F (storeS ss a ms p).2 := by
  obtain ⟨A, c, rs, h1, hpm, hg, hF⟩ := h
  exact (rSet_any B g A c rs a p P SA m sc ms ha hp (dis_of hg hpm) w (seen_of h1 hpm hg) h1 hs fun q hq => ⟨fun e => (hP q hq).1 ((hF q).2 e), (hP q hq).2⟩).mono fun e w' hm => hm.wentM h1 hpm hg hF
theorem SetWord_m {w : World} {B g : Nat} {F : Nat → Prop} {ss : List Seg} {a p : Int} (n : Int) (ha : I64 a) (hp : p = 0 ∨ p = 1 ∨ p = 2 ∨ p = 4) (h : Mies w B g F ss) :
    Calls Try.prog 47 #[.pointer (some ⟨g, 0, none⟩), .int .i64 a, .int .i64 n, .int .i64 p] w fun e w' => e = .returned (.int .i64 (storeS ss a (digs n 8) p).1) ∧ WentM w w' B g F (storeS ss a (digs n 8) p).2 := by
  obtain ⟨A, c, rs, h1, hpm, hg, hF⟩ := h
  exact (rSetWord_any B g A c rs a n p ha hp (dis_of hg hpm) w (seen_of h1 hpm hg) h1).mono fun e w' hm => hm.wentM h1 hpm hg hF
theorem Get_m {w : World} {B g : Nat} {F : Nat → Prop} {ss : List Seg} {a p : Int} (n : Int) (ha : I64 a) (hp : p = 0 ∨ p = 1 ∨ p = 2 ∨ p = 4) (h : Mies w B g F ss) :
    Calls Try.prog 50 #[.pointer (some ⟨g, 0, none⟩), .int .i64 a, .int .i64 n, .int .i64 p] w (TookS w ss a n p) := by
  obtain ⟨A, c, rs, h1, hpm, hg, hF⟩ := h
  refine (rGet_any B g A c rs a n p ha hp (dis_of hg hpm) w (seen_of h1 hpm hg) h1.bytes h1.full).mono fun e w' hm => ?_
  unfold TookS at hm ⊢
  rw [read_perm hg hpm, goes_perm hg hpm] at hm
  exact hm
theorem Word_m {w : World} {B g : Nat} {F : Nat → Prop} {ss : List Seg} {a p : Int} (ha : I64 a) (hp : p = 0 ∨ p = 1 ∨ p = 2 ∨ p = 4) (h : Mies w B g F ss) :
    Calls Try.prog 53 #[.pointer (some ⟨g, 0, none⟩), .int .i64 a, .int .i64 p] w fun e w' => e = .returned (.tuple #[.int .i64 (wordS ss a p), .int .i64 (goesS ss a 8 p)]) ∧ Below w.heap.size w w' := by
  obtain ⟨A, c, rs, h1, hpm, hg, hF⟩ := h
  refine (rWord_any B g A c rs a p ha hp (dis_of hg hpm) w (seen_of h1 hpm hg) h1.bytes h1.full).mono fun e w' ⟨he, hb⟩ => ⟨?_, hb⟩
  rw [he]
  unfold wordS
  rw [read_perm hg hpm, goes_perm hg hpm]
theorem Gap_m {w : World} {B g : Nat} {F : Nat → Prop} {ss : List Seg} (n : Int) (h : Mies w B g F ss) :
    Calls Try.prog 48 #[.pointer (some ⟨g, 0, none⟩), .int .i64 n] w fun e w' => e = .returned (.tuple #[.int .i64 (gapA ss n).1, .int .i64 (gapA ss n).2]) ∧ Below w.heap.size w w' := by
  obtain ⟨A, c, rs, h1, hpm, hg, hF⟩ := h
  exact rGap_any g A c rs ss n hg hpm w (seen_of h1 hpm hg)
theorem Regions_m {w : World} {B g : Nat} {F : Nat → Prop} {ss : List Seg} (h : Mies w B g F ss) :
    Calls Try.prog 49 #[.pointer (some ⟨g, 0, none⟩)] w (Rgns w (ss.map rgS)) := by
  obtain ⟨A, c, rs, h1, hpm, hg, hF⟩ := h
  exact rRegions_any g A c rs ss hg hpm w (seen_of h1 hpm hg)
/-- An empty one. -/
theorem mies_new (w : World) (B : Nat) (hB : B ≤ w.heap.size) : Mies (w.alloc (.cells #[.slice none 0 0] 29)) B w.heap.size (fun k => k = w.heap.size) [] := by
  refine ⟨none, 0, [], ⟨hB, Bx.new w _ _, World.ownsRow_nil _ _ _ _, (by intro r hr; cases hr), (by intro r hr; cases hr), (by intro h; cases h), (by intro r hr; cases hr), List.Pairwise.nil⟩, List.Perm.refl _, good_nil, fun k => ⟨fun e => .inl e, fun e => ?_⟩⟩
  rcases e with e | e | ⟨r, hr, _⟩
  · exact e
  · cases e
  · cases hr
end

section
open Go.RowKit

theorem WentM.stay {w w' : World} {B g : Nat} {F : Nat → Prop} {ss : List Seg} (h : Mies w B g F ss) (hb : Below w.heap.size w w') : WentM w w' B g F ss := ⟨F, h.below hb, Beside.of_below hb _, fun _ hk => .inl hk⟩
theorem WentM.then {w w1 w2 : World} {B g : Nat} {F F' : Nat → Prop} {ss : List Seg} (hb : Beside w w1 F) (hF : ∀ k, F' k → F k ∨ w.heap.size ≤ k) (h : WentM w1 w2 B g F' ss) : WentM w w2 B g F ss := by
  obtain ⟨F2, h1, h2, h3⟩ := h
  refine ⟨F2, h1, hb.then h2 fun k hk hf => ?_, fun k hk => ?_⟩
  · rcases hF k hf with h | h
    · exact h
    · omega
  · rcases h3 k hk with h | h
    · exact hF k h
    · exact .inr (Nat.le_trans hb.size h)
/-- Behind an act. -/
def DidM (w : World) (B g : Nat) (F : Nat → Prop) (u : Int × Int × List Seg) (e : Ending) (w' : World) : Prop := e = .returned (.tuple #[.int .i64 u.1, .int .i64 u.2.1]) ∧ WentM w w' B g F u.2.2
theorem DidM.box {w w' : World} {B g : Nat} {F : Nat → Prop} {u : Int × Int × List Seg} {e : Ending} (o : Obj) (h : DidM (w.alloc o) B g F u e w') : DidM w B g F u e w' := ⟨h.1, WentM.then (Beside.alloc w o F) (fun _ h => .inl h) h.2⟩
set_option maxRecDepth 100000 in
set_option maxHeartbeats 4000000 in
theorem model_any {w : World} {B g : Nat} {F P : Nat → Prop} {ss : List Seg} (x : Ac) (A : Option Addr) (c : Nat) (h : Mies w B g F ss) (hv : AcV w P x A c) (hP : ∀ q, P q → ¬ F q ∧ q < w.heap.size) :
    Calls Try.prog 19 #[.pointer (some ⟨g, 0, none⟩), .agg (acells x A c)] w (DidM w B g F (actS ss x)) := by
  have hbx := (Below.refl w.heap.size w).alloc (Nat.le_refl _) (.cells (acells x A c) 33)
  have hl := h.below hbx
  have hP2 : ∀ q, P q → ¬ F q ∧ q < (w.alloc (.cells (acells x A c) 33)).heap.size := fun q hq => ⟨(hP q hq).1, Nat.lt_of_lt_of_le (hP q hq).2 hbx.size⟩
  have hV := hv.keep (w' := w.alloc (.cells (acells x A c) 33)) fun k _ hk => hbx.block k hk
  have hsrc := hV.src
  have hat := hV.at_
  have hu : actS ss x = if x.do_ = 1 then mapS ss x.n x.perm
    else if x.do_ = 2 then (0, mapAtS ss x.at_ x.n x.perm)
    else if x.do_ = 3 then (0, unmapS ss x.at_)
    else if x.do_ = 4 then (0, protS ss x.at_ x.perm)
    else if x.do_ = 5 then (0, storeS ss x.at_ x.b 2)
    else if x.do_ = 6 then (0, storeS ss x.at_ x.b 0)
    else if x.do_ = 7 then (0, storeS ss x.at_ (digs x.n 8) 2)
    else if x.do_ = 8 then (0, storeS ss x.at_ (digs x.n 8) 0)
    else (0, 0, ss) := rfl
  generalize actS ss x = u at *
  have HBOX := Lib.hid (fun e w' => DidM.box (w := w) (w' := w') (B := B) (g := g) (F := F) (u := u) (e := e) (.cells (acells x A c) 33))
  have HST := Lib.hid (WentM.stay h hbx)
  have HL := Lib.hid hl
  have HP := Lib.hid hP2
  have HSR := Lib.hid hsrc
  have HAT := Lib.hid hat
  clear h hbx hV hv hP hl hP2 hsrc hat
  obtain ⟨d, a, n, p, b⟩ := x
  unfold acells at *
  simp only at *
  by_cases h1 : d = 1
  · rw [if_pos h1] at hu
    subst hu
    subst h1
    have HX := Lib.hid (Map_m n p HL.out)
    clear HL HP HSR HAT HST
    go_enter Try.func19, Try.ntmps19
    go_wp2_with fail
    refine HX.out.mono ?_
    rintro e w2 ⟨rfl, hw⟩
    have HE := Lib.hid (HBOX.out _ w2 ⟨rfl, hw⟩)
    clear hw HX HBOX
    go_wp2_with fail
    first | go_ret2 | skip
    exact HE.out
  rw [if_neg h1] at hu
  by_cases h2 : d = 2
  · rw [if_pos h2] at hu
    subst hu
    subst h2
    have HX := Lib.hid (MapAt_m a n p HL.out)
    clear HL HP HSR HAT HST
    go_enter Try.func19, Try.ntmps19
    go_wp2_with fail
    refine HX.out.mono ?_
    rintro e w2 ⟨rfl, hw⟩
    have HE := Lib.hid (HBOX.out _ w2 ⟨rfl, hw⟩)
    clear hw HX HBOX
    go_wp2_with fail
    first | go_ret2 | skip
    exact HE.out
  rw [if_neg h2] at hu
  by_cases h3 : d = 3
  · rw [if_pos h3] at hu
    subst hu
    subst h3
    have HX := Lib.hid (Unmap_m a HL.out)
    clear HL HP HSR HAT HST
    go_enter Try.func19, Try.ntmps19
    go_wp2_with fail
    refine HX.out.mono ?_
    rintro e w2 ⟨rfl, hw⟩
    have HE := Lib.hid (HBOX.out _ w2 ⟨rfl, hw⟩)
    clear hw HX HBOX
    go_wp2_with fail
    first | go_ret2 | skip
    exact HE.out
  rw [if_neg h3] at hu
  by_cases h4 : d = 4
  · rw [if_pos h4] at hu
    subst hu
    subst h4
    have HX := Lib.hid (Protect_m a p HL.out)
    clear HL HP HSR HAT HST
    go_enter Try.func19, Try.ntmps19
    go_wp2_with fail
    refine HX.out.mono ?_
    rintro e w2 ⟨rfl, hw⟩
    have HE := Lib.hid (HBOX.out _ w2 ⟨rfl, hw⟩)
    clear hw HX HBOX
    go_wp2_with fail
    first | go_ret2 | skip
    exact HE.out
  rw [if_neg h4] at hu
  by_cases h5 : d = 5
  · rw [if_pos h5] at hu
    subst hu
    subst h5
    have HX := Lib.hid (Set_m HAT.out (p := 2) (by omega) HL.out HSR.out HP.out)
    clear HL HP HSR HAT HST
    go_enter Try.func19, Try.ntmps19
    go_wp2_with fail
    refine HX.out.mono ?_
    rintro e w2 ⟨rfl, hw⟩
    have HE := Lib.hid (HBOX.out _ w2 ⟨rfl, hw⟩)
    clear hw HX HBOX
    go_wp2_with fail
    first | go_ret2 | skip
    exact HE.out
  rw [if_neg h5] at hu
  by_cases h6 : d = 6
  · rw [if_pos h6] at hu
    subst hu
    subst h6
    have HX := Lib.hid (Set_m HAT.out (p := 0) (by omega) HL.out HSR.out HP.out)
    clear HL HP HSR HAT HST
    go_enter Try.func19, Try.ntmps19
    go_wp2_with fail
    refine HX.out.mono ?_
    rintro e w2 ⟨rfl, hw⟩
    have HE := Lib.hid (HBOX.out _ w2 ⟨rfl, hw⟩)
    clear hw HX HBOX
    go_wp2_with fail
    first | go_ret2 | skip
    exact HE.out
  rw [if_neg h6] at hu
  by_cases h7 : d = 7
  · rw [if_pos h7] at hu
    subst hu
    subst h7
    have HX := Lib.hid (SetWord_m n HAT.out (p := 2) (by omega) HL.out)
    clear HL HP HSR HAT HST
    go_enter Try.func19, Try.ntmps19
    go_wp2_with fail
    refine HX.out.mono ?_
    rintro e w2 ⟨rfl, hw⟩
    have HE := Lib.hid (HBOX.out _ w2 ⟨rfl, hw⟩)
    clear hw HX HBOX
    go_wp2_with fail
    first | go_ret2 | skip
    exact HE.out
  rw [if_neg h7] at hu
  by_cases h8 : d = 8
  · rw [if_pos h8] at hu
    subst hu
    subst h8
    have HX := Lib.hid (SetWord_m n HAT.out (p := 0) (by omega) HL.out)
    clear HL HP HSR HAT HST
    go_enter Try.func19, Try.ntmps19
    go_wp2_with fail
    refine HX.out.mono ?_
    rintro e w2 ⟨rfl, hw⟩
    have HE := Lib.hid (HBOX.out _ w2 ⟨rfl, hw⟩)
    clear hw HX HBOX
    go_wp2_with fail
    first | go_ret2 | skip
    exact HE.out
  rw [if_neg h8] at hu
  subst hu
  clear HL HP HSR HAT HBOX
  go_enter Try.func19, Try.ntmps19
  go_wp2_with fail
  first | go_ret2 | skip
  exact ⟨rfl, HST.out⟩
end
end Go.Proofs.Ythbdncojekpanaa
