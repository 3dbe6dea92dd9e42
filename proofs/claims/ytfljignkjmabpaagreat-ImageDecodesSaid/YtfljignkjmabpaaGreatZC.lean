/- A part of the proof. -/
import Derived.Test.YtfljignkjmabpaaGreatZB
set_option linter.unusedSimpArgs false
set_option linter.unusedVariables false
namespace Go.Proofs.YtfljignkjmabpaaGreat
set_option maxRecDepth 100000
open Go.RowKit
def pathB (l : Str) : Bool := withB (l.length : Int) 1 200
theorem path_any (l : Str) (w : World) (h : Long l.length) : Calls Tryz.prog 166 #[str l] w fun e w' => e = .returned (.bool (pathB l)) ∧ w = w' := by
 have HW := hD (fun X => within_any (l.length : Int) 1 200 X)
 unfold Long at h
 go_enter Tryz.func166, Tryz.ntmps166
 go_wp2_with (go_at_call 100; refine (HW.out _).mono ?_; rintro e w2 ⟨rfl, rfl⟩)
 go_ret
 exact ⟨rfl, rfl⟩
def needB (s : Nd) : Bool := pathB s.name && decide (s.vers.length ≤ 16) && s.vers.all nameB
theorem same_below {P : Program} {f : FuncId} {a : Array Value} {w : World} {v : Value} (h : Calls P f a w fun e w' => e = .returned v ∧ w = w') : Calls P f a w fun e w' => e = .returned v ∧ Below w.heap.size w w' :=
 h.mono fun e w' ⟨h1, h2⟩ => ⟨h1, by subst h2; exact Below.refl _ _⟩
theorem need_any (s : Nd) (q : Option Addr × Nat) (w : World) (h : Src w (fun k => k < w.heap.size) q.1 s.vers.length q.2 (strs s.vers)) (hn : Long s.name.length) (hv : Long s.vers.length) :
  Calls Tryz.prog 164 #[.agg (ndA s q)] w fun e w' => e = .returned (.bool (needB s)) ∧ Below w.heap.size w w' := by
 have HB := hD ((Below.refl w.heap.size w).alloc (Nat.le_refl _) (.cells (ndA s q) 98))
 have hx := Bx.new w (ndA s q) 98
 have x0 := hx.c 0
 have x1 := hx.c 1
 simp only [List.getElem?_toArray, List.getElem?_cons_succ, List.getElem?_cons_zero] at x0 x1
 have HP := hD (fun X => path_any s.name X hn)
 have HA := hD (allStr_any q.1 s.vers.length q.2 s.vers 99 #[] (fun k => nameB (s.vers.getD k [])) (w.alloc (.cells (ndA s q) 98)) ((h.below HB.out (fun _ h => h)).lt) (by unfold Long at hv; omega) (fun _ _ => by go_simp) (fun k X _ _ => same_below (name_any _ X)))
 rw [range_all s.vers [] nameB] at HA
 have HF := hD (show needB s = (pathB s.name && decide (s.vers.length ≤ 16) && s.vers.all nameB) from rfl)
 generalize pathB s.name = b1 at *
 generalize s.vers.all nameB = b2 at *
 unfold Long at hv
 clear h hn hx
 go_enter Tryz.func164, Tryz.ntmps164
 go_wp2_with (first
  | (go_at_call 166; refine (HP.out _).mono ?_; rintro e w2 ⟨rfl, rfl⟩)
  | (go_at_call 165; refine (HA.out).mono ?_; rintro e w2 ⟨rfl, hb2⟩; have HB2 := hD (HB.out.trans (hb2.mono HB.out.size)); clear hb2))
 all_goals
  go_ret
  rw [HF.out]
  first
   | (refine ⟨?_, HB2.out⟩; simp [*] <;> (intros; omega))
   | (refine ⟨?_, HB.out⟩; simp [*] <;> (intros; omega))
def neededB (l : List Nd) : Bool := decide (l.length ≤ 16) && l.all needB
def runPathB (l : List Str) : Bool := decide (l.length ≤ 16) && l.all pathB
theorem getD_mem {α : Type} {l : List α} {k : Nat} {d : α} (h : k < l.length) : l.getD k d ∈ l := by
 rw [List.getD_eq_getElem?_getD, List.getElem?_eq_getElem h, Option.getD_some]
 exact List.getElem_mem h
theorem needed_any (A : Option Addr) (c : Nat) (l : List Nd) (w : World) (h : Nds w (fun k => k < w.heap.size) A l.length c l) (hl : Long l.length) (hs : ∀ s ∈ l, Long s.name.length ∧ Long s.vers.length ∧ ∀ v ∈ s.vers, Long v.length) :
  Calls Tryz.prog 101 #[.slice A l.length c] w fun e w' => e = .returned (.bool (neededB l)) ∧ Below w.heap.size w w' := by
 obtain ⟨-, B, h1, h2⟩ := h
 have HA := hD (allNeed_any A l.length c l B 164 #[] (fun k => needB (l.getD k noNd)) w h1 (by unfold Long at hl; omega) (fun _ _ => by go_simp) (fun k X hk hX =>
  need_any _ _ X ((h2 k hk).below hX (fun _ h => h) |>.weak fun _ hk => Nat.lt_of_lt_of_le hk hX.size) (hs _ (getD_mem hk)).1 (hs _ (getD_mem hk)).2.1))
 rw [range_all l noNd needB] at HA
 have HF := hD (show neededB l = (decide (l.length ≤ 16) && l.all needB) from rfl)
 generalize l.all needB = b2 at *
 unfold Long at hl
 clear h1 h2 hs
 go_enter Tryz.func101, Tryz.ntmps101
 go_wp2_with (go_at_call 163; refine (HA.out).mono ?_; rintro e w2 ⟨rfl, hb2⟩)
 all_goals
  go_ret
  rw [HF.out]
  first
   | (refine ⟨?_, hb2⟩; simp [*] <;> (intros; omega))
   | (refine ⟨?_, Below.refl _ _⟩; simp [*] <;> (intros; omega))
theorem runPath_any (A : Option Addr) (c : Nat) (l : List Str) (w : World) (h : Src w (fun k => k < w.heap.size) A l.length c (strs l)) (hl : Long l.length) (hs : ∀ s ∈ l, Long s.length) :
  Calls Tryz.prog 102 #[.slice A l.length c] w fun e w' => e = .returned (.bool (runPathB l)) ∧ Below w.heap.size w w' := by
 have HA := hD (allStr_any A l.length c l 166 #[] (fun k => pathB (l.getD k [])) w h (by unfold Long at hl; omega) (fun _ _ => by go_simp) (fun k X hk hX => same_below (path_any _ X (hs _ (getD_mem hk)))))
 rw [range_all l [] pathB] at HA
 have HF := hD (show runPathB l = (decide (l.length ≤ 16) && l.all pathB) from rfl)
 generalize l.all pathB = b2 at *
 unfold Long at hl
 clear h hs
 go_enter Tryz.func102, Tryz.ntmps102
 go_wp2_with (go_at_call 165; refine (HA.out).mono ?_; rintro e w2 ⟨rfl, hb2⟩)
 all_goals
  go_ret
  rw [HF.out]
  first
   | (refine ⟨?_, hb2⟩; simp [*] <;> (intros; omega))
   | (refine ⟨?_, Below.refl _ _⟩; simp [*] <;> (intros; omega))
def headB (x : Im) : Bool := (x.name.isEmpty || nameB x.name) && withB x.flags 0 15 && neededB x.needed && runPathB x.run
set_option maxHeartbeats 1000000 in
theorem head_any (p : Pl) (x : Im) (w : World) (h : ImIn w (fun k => k < w.heap.size) p x) (hf : Fit x) :
  Calls Tryz.prog 28 #[imV p x] w fun e w' => e = .returned (.bool (headB x)) ∧ Below w.heap.size w w' := by
 have HB := hD (ibox_below w p x)
 have HX := hD (Ix.new w p x)
 have HN := hD (fun X => name_any x.name X)
 have HW := hD (fun X => within_any x.flags 0 15 X)
 have HND := hD (fun (X : World) (hX : Below w.heap.size w X) => needed_any p.nd.1 p.nd.2 x.needed X (h.lt hX).needed hf.needed hf.need)
 have HR := hD (fun (X : World) (hX : Below w.heap.size w X) => runPath_any p.rp.1 p.rp.2 x.run X (h.lt hX).run hf.run hf.runs)
 have HF := hD (show headB x = ((x.name.isEmpty || nameB x.name) && withB x.flags 0 15 && neededB x.needed && runPathB x.run) from rfl)
 generalize nameB x.name = b1 at *
 generalize withB x.flags 0 15 = b2 at *
 generalize neededB x.needed = b3 at *
 generalize runPathB x.run = b4 at *
 clear h hf
 go_enter Tryz.func28, Tryz.ntmps28
 go_upto_region 1 with (fail)
 change Code.wp _ _ _ _ (w.alloc (.cells (imA p x) 40))
 generalize w.alloc (.cells (imA p x) 40) = w1 at *
 obtain ⟨c0, c1, c2, c3, c4, -⟩ := HX.out.cells
 go_wp2_with (first
  | (go_at_call 99; refine (HN.out _).mono ?_; rintro e w2 ⟨rfl, rfl⟩)
  | (go_at_call 100; refine (HW.out _).mono ?_; rintro e w2 ⟨rfl, rfl⟩)
  | (go_at_call 101; refine (HND.out _ HB.out).mono ?_; rintro e w3 ⟨rfl, hb3⟩; have HB3 := hD (HB.out.trans (hb3.mono HB.out.size)); obtain ⟨-, -, -, -, d4, -⟩ := (HX.out.below hb3).cells; clear hb3)
  | (go_at_call 102; refine (HR.out _ HB3.out).mono ?_; rintro e w4 ⟨rfl, hb4⟩; have HB4 := hD (HB3.out.trans (hb4.mono HB3.out.size)); clear hb4))
 all_goals
  go_ret
  rw [HF.out]
  first
   | (refine ⟨?_, HB4.out⟩; simp [*])
   | (refine ⟨?_, HB3.out⟩; simp [*])
   | (refine ⟨?_, HB.out⟩; simp [*])
end Go.Proofs.YtfljignkjmabpaaGreat
