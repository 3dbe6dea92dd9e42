/-
  Regions: the regions of a space, one by one.
-/
import Derived.Test.YthbdncojekpanaaZ
namespace Go.Proofs.Ythbdncojekpanaa
open Go.RowKit

/-- A region alone. -/
structure Rg where
  at_ : Int
  size : Int
  perm : Int
abbrev rgC (r : Rg) : List Value := [.int .i64 r.at_, .int .i64 r.size, .int .i64 r.perm]
def gcells (l : List Rg) : List Value := l.flatMap rgC
theorem gcells_len (l : List Rg) : (gcells l).length = l.length * 3 := by
  induction l with
  | nil => rfl
  | cons r l ih =>
    have : gcells (r :: l) = rgC r ++ gcells l := rfl
    have h3 : (rgC r).length = 3 := rfl
    rw [this, List.length_append, h3, ih, List.length_cons]
    omega
theorem gcells_app (l l' : List Rg) : gcells (l ++ l') = gcells l ++ gcells l' := by simp [gcells]
theorem gcells_one (l : List Rg) : ∀ u ∈ gcells l, u.oneCell' = true := by
  intro u hu
  obtain ⟨r, _, hr⟩ := List.mem_flatMap.1 hu
  simp only [rgC, List.mem_cons, List.not_mem_nil, or_false] at hr
  rcases hr with rfl | rfl | rfl <;> rfl
def Raw.rg (r : Raw) : Rg := ⟨r.b.at_, r.b.size, r.b.perm⟩
abbrev rgs (rs : List Raw) : List Rg := rs.map Raw.rg
theorem Try.info_region : (Try.prog.info? 49).map (fun i => (i.zero.map (fun z => z.cells.toList), i.size, i.bytes)) = some (some [.int .i64 0, .int .i64 0, .int .i64 0], 3, 24) := by kernel_rfl
theorem region_parts : ∃ i z, Try.prog.info? 49 = some i ∧ i.zero = some z ∧ z.cells.size = 3 ∧ i.size = 3 ∧ i.bytes = 24 := by
  have h := Try.info_region
  cases hi : Try.prog.info? 49 with
  | none => rw [hi] at h; cases h
  | some i =>
    rw [hi] at h
    simp only [Option.map_some, Option.some.injEq, Prod.mk.injEq] at h
    obtain ⟨h1, h2, h3⟩ := h
    cases hz : i.zero with
    | none => rw [hz] at h1; cases h1
    | some z =>
      rw [hz] at h1
      simp only [Option.map_some, Option.some.injEq] at h1
      exact ⟨i, z, rfl, hz, by have := congrArg List.length h1; simpa using this, h2, h3⟩
theorem row_form3 {w : World} {B n sz : Nat} {v : Value} {e : TypeId} {xs : List Value} (h : w.ownsRow B e sz v n xs) : ∃ A c, v = .slice A n c := by
  rcases h.2 with ⟨hv, h0⟩ | ⟨g, cap, cur, hv, _⟩
  · exact ⟨_, _, by rw [hv, h0]⟩
  · exact ⟨_, _, hv⟩
theorem wpList_appR {w : World} {ops : Array Oper} {rest : List Oper} {o : Oper} {a : Act} {Q : Exit → Act → World → Prop} (hgd : o.guard = none) (s x : Operand)
    (ho : o.op = .call { callee := .builtin .append, args := #[s, x], argTypes := #[46, 46] })
    (B : Nat) (A : Option Addr) (n c vb : Nat) (l : List Rg) (r : Rg) (hs : a.eval s = .slice A n c) (hx : a.eval x = .slice (some ⟨vb, 0, none⟩) 1 1) (hown : w.ownsRow B 49 3 (.slice A n c) n (gcells l)) (hB : B ≤ w.heap.size) (hfew : n ≤ 67108864)
    (hv : ∃ t, Bx w vb (rgC r).toArray t)
    (h : ∀ A' c' w', w'.ownsRow B 49 3 (.slice A' (n + 1) c') (n + 1) (gcells (l ++ [r])) → Below B w w' → wpList Try.prog ops Q rest (a.put o.dst (.slice A' (n + 1) c')) w') : wpList Try.prog ops Q (o :: rest) a w := by
  obtain ⟨i0, z, hi0, hz0, hzs, hz1, hz2⟩ := region_parts
  obtain ⟨t, hv⟩ := hv
  refine wpList_append_own_at w hgd s x 46 ho B 49 i0 z 3 24 Try.underlying46 hi0 hz0 hz1 hz2 hzs (by omega) (.slice A n c) n (gcells l) hs hown ⟨vb, 0, none⟩ 1 1 (gcells [r]) hx (by rw [gcells_len]; rfl) (fun j u hu => by rw [plainAdd, Nat.zero_add, hv.c j]; simpa [gcells] using hu) (gcells_one _) (by simp only [maxLen]; omega) (by omega) hB fun v' w' h1 h2 _ h4 => ?_
  obtain ⟨A', c', rfl⟩ := row_form3 h1
  rw [← gcells_app] at h1
  refine h A' c' w' h1 ((Below.refl B w).grown h2 hB fun k hk => ?_)
  exact (hown.lt k hk).1
theorem Bx.new2 (w : World) (o : Obj) (cs : Array Value) (t : TypeId) : Bx ((w.alloc o).alloc (.cells cs t)) (w.heap.size + 1) cs t := by
  have h := Bx.new (w.alloc o) cs t
  simpa using h
theorem alloc2_beside (w : World) (o o' : Obj) (p : Nat → Prop) : Beside w ((w.alloc o).alloc o') p := (Beside.alloc w o p).trans (Beside.alloc _ o' p)
/-- Behind Regions. -/
def Rgns (w : World) (l : List Rg) (e : Ending) (w' : World) : Prop :=
  ∃ A' c', e = .returned (.slice A' l.length c') ∧ w'.ownsRow w.heap.size 49 3 (.slice A' l.length c') l.length (gcells l) ∧ Below w.heap.size w w'
set_option maxRecDepth 100000 in
set_option maxHeartbeats 2000000 in
theorem Regions_any (B g : Nat) (A : Option Addr) (c : Nat) (rs : List Raw) (w : World) (h : Sp w B g A c rs) :
    Calls Try.prog 22 #[.pointer (some ⟨g, 0, none⟩)] w (Rgns w (rgs rs)) := by
  obtain ⟨i0, z, hi0, hz0, hzs, hz1, hz2⟩ := region_parts
  have HS := Lib.hid h
  have hc : w.cell? ⟨g, 0, none⟩ = some (.slice A rs.length c) := h.box.c 0
  have hfew := ord_few h.ord
  have HBL := Lib.hid h.bls
  clear h
  generalize hn : rs.length = n at *
  have HN := Lib.hid hn
  have HE := Lib.hid (show ∀ A' c' w', w'.ownsRow w.heap.size 49 3 (.slice A' n c') n (gcells (rgs rs)) → Below w.heap.size w w' → Rgns w (rgs rs) (.returned (.slice A' n c')) w' from fun A' c' w' h1 h2 => by
    have hl : (rgs rs).length = n := by rw [List.length_map]; exact hn
    exact ⟨A', c', by rw [hl], by rw [hl]; exact h1, h2⟩)
  generalize hL : Rgns w (rgs rs) = L at *
  clear hL hn
  go_enter Try.func22, Try.ntmps22
  go_wp2_with (at_make; refine wpList_make_own _ rfl _ _ 46 rfl w.heap.size 49 i0 z 3 Try.underlying46 hi0 hz0 hz1 _ _ _ n rfl rfl rfl (by rw [hz2]; omega) (by simp only [maxLen]; omega) (Nat.le_refl _) ?_; intro w1 hown hg1; have HO := Lib.hid hown; have HB := Lib.hid ((Below.refl w.heap.size w).grown hg1 (Nat.le_refl _) (fun k hk => by cases hk)); have hc1 := cell_below HB.out hc; clear hown hg1)
  go_loopw [3, 19] (fun t3 t19 wr => ∃ (k : Nat) (A' : Option Addr) (c' : Nat), k ≤ n ∧ t19 = .int .i64 k ∧ t3 = .slice A' k c' ∧ wr.ownsRow w.heap.size 49 3 (.slice A' k c') k (gcells (rgs (rs.take k))) ∧ Below w.heap.size w wr) (fun _ t19 _ => n - (intOf t19).toNat)
  case atStart => exact ⟨0, _, _, Nat.zero_le _, rfl, rfl, HO.out, HB.out⟩
  case round =>
    obtain ⟨k, A', c', hk, rfl, rfl, ho, hb⟩ := hrel
    have HO2 := Lib.hid ho
    have HB2 := Lib.hid hb
    clear ho hb
    by_cases hlt : k < n
    · have hkr : k < rs.length := by rw [HN.out]; exact hlt
      obtain ⟨ad, rfl⟩ : ∃ ad, A = some ad := by
        cases A with
        | none => have := (HBL.out.nil rfl).1; have := HN.out; omega
        | some ad => exact ⟨ad, rfl⟩
      obtain ⟨b, o, rfl⟩ := HBL.out.plain ad rfl
      obtain ⟨c0, c1, c2, c3⟩ := (HBL.out.below HB2.out).at_ b o k rfl hkr
      have HTK := Lib.hid (show rgs (rs.take k) ++ [rs[k].rg] = rgs (rs.take (k + 1)) by show (rs.take k).map Raw.rg ++ [rs[k].rg] = (rs.take (k + 1)).map Raw.rg; rw [List.take_succ_eq_append_getElem hkr, List.map_append]; rfl)
      have HRG := Lib.hid (show rs[k].rg = ⟨rs[k].b.at_, rs[k].b.size, rs[k].b.perm⟩ from rfl)
      generalize rs[k].rg = rg at *
      generalize hA0 : rs[k].A = A0 at *
      generalize hl0 : rs[k].b.bytes.length = l0 at *
      generalize hcc : rs[k].c = cc at *
      generalize hpm : rs[k].b.perm = p0 at *
      generalize hsz : rs[k].b.size = s0 at *
      generalize hat : rs[k].b.at_ = a0 at *
      clear hpm hA0 hl0 hcc hsz hat
      have HB3 := Lib.hid (fun o o' => (Beside.of_below HB2.out (fun k => w.heap.size ≤ k)).trans (alloc2_beside wr o o' (fun k => w.heap.size ≤ k)))
      have HO3 := Lib.hid (fun o o' => own_beside HO2.out (alloc2_beside wr o o' (fun _ => False)) fun _ _ e => e)
      have HRB := Lib.hid (fun o => Bx.new2 wr o (rgC rg).toArray 49)
      have HRG2 := HRG.out
      subst HRG2
      have HTK2 := Lib.hid (fun w' (b2 : Below w.heap.size ((wr.alloc (.cells #[.int .i64 a0, .int .i64 s0, .int .i64 p0, .slice A0 l0 cc] 69)).alloc (.cells #[.int .i64 a0, .int .i64 s0, .int .i64 p0] 49)) w') => (((HB3.out _ _).below (fun _ h => h) (Nat.le_refl _)).trans b2))
      go_wp2_with (at_builtin; refine wpList_appR rfl (.tmp 23) (.tmp 26) rfl w.heap.size A' k c' (wr.heap.size + 1) (rgs (rs.take k)) _ (by rfl) (by rfl) (HO3.out _ _) (HB3.out _ _).size (by omega) ⟨_, HRB.out _⟩ ?_; intro A2 c2 w2 ho hb; have HO4 := Lib.hid ho; have HB4 := Lib.hid (HTK2.out w2 hb); clear ho hb)
      go_roundw
      case rel => exact ⟨k + 1, A2, c2, hlt, by go_num, rfl, by rw [← HTK.out]; exact HO4.out, HB4.out⟩
      case measure => simp [intOf]; omega
    · obtain rfl : k = n := by omega
      have HTA := Lib.hid (show rs.take k = rs from List.take_of_length_le (by rw [HN.out]; exact Nat.le_refl _))
      go_wp2_with fail
      first | go_ret | skip
      have ho := HO2.out
      rw [HTA.out] at ho
      exact HE.out _ _ _ ho HB2.out
end Go.Proofs.Ythbdncojekpanaa
