/- WordApplies: the plain text's Made, whatever the kind; and the law's walk. -/
import Derived.Test.YtfobcnhibhbbaaaRd
import Derived.Test.YtfobcnhibhbbaaaMn
namespace Go.Proofs.Ytfobcnhibhbbaaa
open Go.RowKit
set_option maxRecDepth 100000

theorem made_right (k v a b c n wa wb wc : Int) (hfit : fitE k v n wa wb wc = 0) (ha : isW a wa = true) (hb : isW b wb = true) (w : World) :
    Calls Try.prog 44 #[.int .i64 k, .int .i64 v, .int .i64 a, .int .i64 b, .int .i64 c, .int .i64 n, arr3 wa wb wc] w fun e w' => e = .returned (.int .i64 (madeE k v a b c n wa wb)) ∧ Below w.heap.size w w' := by
  rcases kinds20 (fit_zero hfit).2.2.2.2 with rfl | rfl | rfl | rfl | rfl | rfl | rfl | rfl | rfl | rfl | rfl | rfl | rfl | rfl | rfl | rfl | rfl | rfl | rfl | rfl
  · exact made_4 v a b c n wa wb wc hfit ha hb w
  · exact made_5 v a b c n wa wb wc hfit ha hb w
  · exact made_6 v a b c n wa wb wc hfit ha hb w
  · exact made_7 v a b c n wa wb wc hfit ha hb w
  · exact made_8 v a b c n wa wb wc hfit ha hb w
  · exact made_9 v a b c n wa wb wc hfit ha hb w
  · exact made_10 v a b c n wa wb wc hfit ha hb w
  · exact made_11 v a b c n wa wb wc hfit ha hb w
  · exact made_12 v a b c n wa wb wc hfit ha hb w
  · exact made_13 v a b c n wa wb wc hfit ha hb w
  · exact made_14 v a b c n wa wb wc hfit ha hb w
  · exact made_15 v a b c n wa wb wc hfit ha hb w
  · exact made_16 v a b c n wa wb wc hfit ha hb w
  · exact made_17 v a b c n wa wb wc hfit ha hb w
  · exact made_18 v a b c n wa wb wc hfit ha hb w
  · exact made_19 v a b c n wa wb wc hfit ha hb w
  · exact made_20 v a b c n wa wb wc hfit ha hb w
  · exact made_21 v a b c n wa wb wc hfit ha hb w
  · exact made_22 v a b c n wa wb wc hfit ha hb w
  · exact made_23 v a b c n wa wb wc hfit ha hb w

abbrev ap (w : World) (b o : Nat) (x : Int) : Prop := w.cell? ⟨b, o, none⟩ = some (.int .i64 x)
/-- What lies in memory while the law goes on: the words, their widths, and the list of words. -/
def AppF (w wr : World) (S : Nat) (a b c wa wb wc : Int) : Prop :=
  Below w.heap.size w wr ∧ (ap wr w.heap.size 0 a ∧ ap wr w.heap.size 1 b ∧ ap wr w.heap.size 2 c) ∧ (ap wr (w.heap.size + 1) 0 wa ∧ ap wr (w.heap.size + 1) 1 wb ∧ ap wr (w.heap.size + 1) 2 wc) ∧ (ap wr S 0 a ∧ ap wr S 1 b ∧ ap wr S 2 c)

theorem AppF.drew {w wr : World} {S : Nat} {a b c wa wb wc : Int} (h : AppF w wr S a b c wa wb wc) (n : Nat) : AppF w (wr.drewN n) S a b c wa wb wc :=
  ⟨below_drewN h.1 n, h.2⟩

/-- Is the word at a place one of its width? -/
def goodAt (a b c wa wb wc : Int) (i : Nat) : Prop := (if i = 0 then isW a wa else if i = 1 then isW b wb else isW c wc) = true
theorem good_step {a b c wa wb wc : Int} {j : Nat} (h : ∀ i : Nat, i < j → goodAt a b c wa wb wc i) (hj : goodAt a b c wa wb wc j) : ∀ i : Nat, i < j + 1 → goodAt a b c wa wb wc i := by
  intro i hi
  rcases Nat.lt_succ_iff_lt_or_eq.1 hi with h1 | rfl
  · exact h i h1
  · exact hj
theorem good_all {a b c wa wb wc : Int} (h : ∀ i : Nat, i < 3 → goodAt a b c wa wb wc i) : isW a wa = true ∧ isW b wb = true ∧ isW c wc = true :=
  ⟨h 0 (by omega), h 1 (by omega), h 2 (by omega)⟩
theorem rng_one {a b c : Int} (h : rngOk 1 a b c = true) : (1 ≤ a ∧ a ≤ 8) ∧ b = 0 ∧ c = 0 := by
  simp [rngOk, btw] at h
  omega
theorem rng_two {a b c : Int} (h : rngOk 2 a b c = true) : (1 ≤ a ∧ a ≤ 8) ∧ (1 ≤ b ∧ b ≤ 8) ∧ c = 0 := by
  simp [rngOk, btw] at h
  omega
theorem rng_three {a b c : Int} (h : rngOk 3 a b c = true) : (1 ≤ a ∧ a ≤ 8) ∧ (1 ≤ b ∧ b ≤ 8) ∧ (1 ≤ c ∧ c ≤ 8) := by
  simp [rngOk, btw] at h
  omega

end Go.Proofs.Ytfobcnhibhbbaaa

namespace Go.Proofs.Ytfobcnhibhbbaaa
open Go.RowKit
set_option maxRecDepth 100000

set_option maxRecDepth 100000 in
set_option maxHeartbeats 1000000 in
theorem widthsOf_any (p : Option Addr) (cap : Nat) (ns : List Nd) (_hl : ns.length ≤ 80) (k v x y z n : Int) (w : World) (hN : NodesAt w p ns) (hlen : 0 < ns.length)
    (hx : 0 < takes k → 0 ≤ x ∧ x < ns.length) (hy : 1 < takes k → 0 ≤ y ∧ y < ns.length) (hz : 2 < takes k → 0 ≤ z ∧ z < ns.length) :
    Calls Try.prog 42 #[.slice p ns.length cap, .agg #[.int .i64 k, .int .i64 v, .int .i64 x, .int .i64 y, .int .i64 z, .int .i64 n]] w fun e w' =>
      e = .returned (arr3 (wds ns (takes k) 0 x) (wds ns (takes k) 1 y) (wds ns (takes k) 2 z)) ∧ Below w.heap.size w w' := by
  obtain ⟨b, off, rfl, hc⟩ := hN (by omega)
  have HC := hide hc
  have hw := takes_any k
  have h4 := takes_four k
  clear hc hN
  rcases h4 with ht | ht | ht | ht
  · rw [ht] at hw hx hy hz ⊢
    have Hw := hide hw
    have HE : Hid (wds ns 0 0 x = 0 ∧ wds ns 0 1 y = 0 ∧ wds ns 0 2 z = 0) := ⟨rfl, rfl, rfl⟩
    clear hw ht hx hy hz
    rw [HE.out.1, HE.out.2.1, HE.out.2.2]
    go_enter Try.func42, Try.ntmps42
    go_wp2_with (go_at_call 40; refine (Hw.out _).mono ?_; rintro e w' ⟨rfl, rfl⟩)
    exact bodyPost_ret (v := arr3 0 0 0) (by simp [results, Try.results42, go_sem]) rfl ⟨rfl, bal (bal (bal (Below.refl _ _) _) _) _⟩
  · rw [ht] at hw hx hy hz ⊢
    have Hw := hide hw
    have hx' := hx (by omega)
    have u0 := fun o1 o2 o3 => past1 (past2 (wd_cell HC.out x hx'.1 hx'.2) o1 o2) o3
    have HE : Hid (wds ns 1 0 x = wdOf ns x ∧ wds ns 1 1 y = 0 ∧ wds ns 1 2 z = 0) := ⟨rfl, rfl, rfl⟩
    clear hw ht hx hy hz
    rw [HE.out.1, HE.out.2.1, HE.out.2.2]
    go_enter Try.func42, Try.ntmps42
    go_wp2_with (go_at_call 40; refine (Hw.out _).mono ?_; rintro e w' ⟨rfl, rfl⟩)
    exact bodyPost_ret (v := arr3 (wdOf ns x) 0 0) (by simp [results, Try.results42, go_sem]) rfl ⟨rfl, bal (bal (bal (Below.refl _ _) _) _) _⟩
  · rw [ht] at hw hx hy hz ⊢
    have Hw := hide hw
    have hx' := hx (by omega)
    have hy' := hy (by omega)
    have u0 := fun o1 o2 o3 => past1 (past2 (wd_cell HC.out x hx'.1 hx'.2) o1 o2) o3
    have u1 := fun o1 o2 o3 => past1 (past2 (wd_cell HC.out y hy'.1 hy'.2) o1 o2) o3
    have HE : Hid (wds ns 2 0 x = wdOf ns x ∧ wds ns 2 1 y = wdOf ns y ∧ wds ns 2 2 z = 0) := ⟨rfl, rfl, rfl⟩
    clear hw ht hx hy hz
    rw [HE.out.1, HE.out.2.1, HE.out.2.2]
    go_enter Try.func42, Try.ntmps42
    go_wp2_with (go_at_call 40; refine (Hw.out _).mono ?_; rintro e w' ⟨rfl, rfl⟩)
    exact bodyPost_ret (v := arr3 (wdOf ns x) (wdOf ns y) 0) (by simp [results, Try.results42, go_sem]) rfl ⟨rfl, bal (bal (bal (Below.refl _ _) _) _) _⟩
  · rw [ht] at hw hx hy hz ⊢
    have Hw := hide hw
    have hx' := hx (by omega)
    have hy' := hy (by omega)
    have hz' := hz (by omega)
    have u0 := fun o1 o2 o3 => past1 (past2 (wd_cell HC.out x hx'.1 hx'.2) o1 o2) o3
    have u1 := fun o1 o2 o3 => past1 (past2 (wd_cell HC.out y hy'.1 hy'.2) o1 o2) o3
    have u2 := fun o1 o2 o3 => past1 (past2 (wd_cell HC.out z hz'.1 hz'.2) o1 o2) o3
    have HE : Hid (wds ns 3 0 x = wdOf ns x ∧ wds ns 3 1 y = wdOf ns y ∧ wds ns 3 2 z = wdOf ns z) := ⟨rfl, rfl, rfl⟩
    clear hw ht hx hy hz
    rw [HE.out.1, HE.out.2.1, HE.out.2.2]
    go_enter Try.func42, Try.ntmps42
    go_wp2_with (go_at_call 40; refine (Hw.out _).mono ?_; rintro e w' ⟨rfl, rfl⟩)
    exact bodyPost_ret (v := arr3 (wdOf ns x) (wdOf ns y) (wdOf ns z)) (by simp [results, Try.results42, go_sem]) rfl ⟨rfl, bal (bal (bal (Below.refl _ _) _) _) _⟩

end Go.Proofs.Ytfobcnhibhbbaaa
