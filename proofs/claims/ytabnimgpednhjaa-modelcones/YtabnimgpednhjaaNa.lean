/- The plain text: a node is checked. -/
import Derived.Test.YtabnimgpednhjaaMn
namespace Go.Proofs.Ytabnimgpednhjaa
open Go.RowKit

set_option maxRecDepth 100000 in
set_option maxHeartbeats 1000000 in
theorem widthsOf_any (p : Option Addr) (cap : Nat) (ns : List Nd) (_hl : ns.length ≤ 80) (k v x y z n : Int) (w : World) (hN : NodesAt w p ns) (hlen : 0 < ns.length)
    (hx : 0 < takes k → 0 ≤ x ∧ x < ns.length) (hy : 1 < takes k → 0 ≤ y ∧ y < ns.length) (hz : 2 < takes k → 0 ≤ z ∧ z < ns.length) :
    Calls Try.prog 76 #[.slice p ns.length cap, .agg #[.int .i64 k, .int .i64 v, .int .i64 x, .int .i64 y, .int .i64 z, .int .i64 n]] w fun e w' =>
      e = .returned (arr3 (wds ns (takes k) 0 x) (wds ns (takes k) 1 y) (wds ns (takes k) 2 z)) ∧ Below w.heap.size w w' := by
  obtain ⟨b, off, rfl, hc⟩ := hN (by omega)
  have HC := hide hc
  have hw := takes_any k
  have h4 := takes_four k
  clear hc hN
  rcases h4 with ht | ht | ht | ht
  · rw [ht] at hw hx hy hz ⊢
    have Hw := hide hw
    have HE : Hid (wds ns 0 0 x = 0 ∧ wds ns 0 1 y = 0 ∧ wds ns 0 2 z = 0) := ⟨rfl, rfl, rfl⟩
    clear hw ht hx hy hz
    rw [HE.out.1, HE.out.2.1, HE.out.2.2]
    go_enter Try.func76, Try.ntmps76
    go_wp2_with (go_at_call 15; refine (Hw.out _).mono ?_; rintro e w' ⟨rfl, rfl⟩)
    exact bodyPost_ret (v := arr3 0 0 0) (by simp [results, Try.results76, go_sem]) rfl ⟨rfl, bal (bal (bal (Below.refl _ _) _) _) _⟩
  · rw [ht] at hw hx hy hz ⊢
    have Hw := hide hw
    have hx' := hx (by omega)
    have u0 := fun o1 o2 o3 => past1 (past2 (wd_cell HC.out x hx'.1 hx'.2) o1 o2) o3
    have HE : Hid (wds ns 1 0 x = wdOf ns x ∧ wds ns 1 1 y = 0 ∧ wds ns 1 2 z = 0) := ⟨rfl, rfl, rfl⟩
    clear hw ht hx hy hz
    rw [HE.out.1, HE.out.2.1, HE.out.2.2]
    go_enter Try.func76, Try.ntmps76
    go_wp2_with (go_at_call 15; refine (Hw.out _).mono ?_; rintro e w' ⟨rfl, rfl⟩)
    exact bodyPost_ret (v := arr3 (wdOf ns x) 0 0) (by simp [results, Try.results76, go_sem]) rfl ⟨rfl, bal (bal (bal (Below.refl _ _) _) _) _⟩
  · rw [ht] at hw hx hy hz ⊢
    have Hw := hide hw
    have hx' := hx (by omega)
    have hy' := hy (by omega)
    have u0 := fun o1 o2 o3 => past1 (past2 (wd_cell HC.out x hx'.1 hx'.2) o1 o2) o3
    have u1 := fun o1 o2 o3 => past1 (past2 (wd_cell HC.out y hy'.1 hy'.2) o1 o2) o3
    have HE : Hid (wds ns 2 0 x = wdOf ns x ∧ wds ns 2 1 y = wdOf ns y ∧ wds ns 2 2 z = 0) := ⟨rfl, rfl, rfl⟩
    clear hw ht hx hy hz
    rw [HE.out.1, HE.out.2.1, HE.out.2.2]
    go_enter Try.func76, Try.ntmps76
    go_wp2_with (go_at_call 15; refine (Hw.out _).mono ?_; rintro e w' ⟨rfl, rfl⟩)
    exact bodyPost_ret (v := arr3 (wdOf ns x) (wdOf ns y) 0) (by simp [results, Try.results76, go_sem]) rfl ⟨rfl, bal (bal (bal (Below.refl _ _) _) _) _⟩
  · rw [ht] at hw hx hy hz ⊢
    have Hw := hide hw
    have hx' := hx (by omega)
    have hy' := hy (by omega)
    have hz' := hz (by omega)
    have u0 := fun o1 o2 o3 => past1 (past2 (wd_cell HC.out x hx'.1 hx'.2) o1 o2) o3
    have u1 := fun o1 o2 o3 => past1 (past2 (wd_cell HC.out y hy'.1 hy'.2) o1 o2) o3
    have u2 := fun o1 o2 o3 => past1 (past2 (wd_cell HC.out z hz'.1 hz'.2) o1 o2) o3
    have HE : Hid (wds ns 3 0 x = wdOf ns x ∧ wds ns 3 1 y = wdOf ns y ∧ wds ns 3 2 z = wdOf ns z) := ⟨rfl, rfl, rfl⟩
    clear hw ht hx hy hz
    rw [HE.out.1, HE.out.2.1, HE.out.2.2]
    go_enter Try.func76, Try.ntmps76
    go_wp2_with (go_at_call 15; refine (Hw.out _).mono ?_; rintro e w' ⟨rfl, rfl⟩)
    exact bodyPost_ret (v := arr3 (wdOf ns x) (wdOf ns y) (wdOf ns z)) (by simp [results, Try.results76, go_sem]) rfl ⟨rfl, bal (bal (bal (Below.refl _ _) _) _) _⟩

end Go.Proofs.Ytabnimgpednhjaa
