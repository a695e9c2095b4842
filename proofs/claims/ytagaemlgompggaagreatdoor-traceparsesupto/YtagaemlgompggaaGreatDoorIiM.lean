/- SameTrace; what is parsed, both ways. -/
import Derived.Test.YtagaemlgompggaaGreatDoorIfM
import Derived.Test.YtagaemlgompggaaGreatDoorIg
namespace Go.Proofs.YtagaemlgompggaaGreatDoor
open Go.RowKit
set_option maxRecDepth 100000

/-- A trace lies in memory. -/
structure TrAt (w : World) (s : Row) (p : Option Addr) (cap : Nat) (l : List Row) : Prop where
  rows : RowsAt w p l
  inn : InAt w (s :: l)
  len : l.length ≤ 9000000000000000000
  wide : ∀ r ∈ s :: l, r.ns.length ≤ maxLen
theorem TrAt.later {w w' : World} {s : Row} {p : Option Addr} {cap : Nat} {l : List Row} (h : TrAt w s p cap l) (hb : Below w.heap.size w w') : TrAt w' s p cap l := ⟨h.rows.later hb, h.inn.later hb, h.len, h.wide⟩

set_option maxHeartbeats 4000000 in
theorem sameTrace_any (s1 s2 : Row) (p1 p2 : Option Addr) (c1 c2 : Nat) (l1 l2 : List Row) (w : World) (h1 : TrAt w s1 p1 c1 l1) (h2 : TrAt w s2 p2 c2 l2) (he : s1.ns = s2.ns ∧ l1.map Row.ns = l2.map Row.ns) :
    Calls Tryz.prog 10 #[tval s1 p1 l1.length c1, tval s2 p2 l2.length c2] w fun e w' => e = .returned (.bool true) ∧ Below w.heap.size w w' := by
  obtain ⟨a1, n1, k1⟩ := s1
  obtain ⟨a2, n2, k2⟩ := s2
  have hbA : Below w.heap.size w ((w.alloc (.cells #[.slice a1 n1.length k1, .slice p1 l1.length c1] 25)).alloc (.cells #[.slice a2 n2.length k2, .slice p2 l2.length c2] 25)) := bal (bal (Below.refl _ _) _) _
  have H1 := h1.later hbA
  have H2 := h2.later hbA
  have hA := sameI a1 a2 k1 k2 n1 n2 (h1.wide _ (List.mem_cons_self ..)) (h2.wide _ (List.mem_cons_self ..)) _ (H1.inn _ (List.mem_cons_self ..)).1 (H2.inn _ (List.mem_cons_self ..)).1
  rw [decide_eq_true he.1] at hA
  have hB : ∀ w', Below w.heap.size w w' → Calls Tryz.prog 23 #[.slice p1 l1.length c1, .slice p2 l2.length c2] w' fun e w'' => e = .returned (.bool true) ∧ Below w'.heap.size w' w'' := fun w' hb => by
    have h := sameLists_any p1 p2 c1 c2 l1 l2 h1.len h2.len (fun x hx => h1.wide x (List.mem_cons_of_mem _ hx)) (fun x hx => h2.wide x (List.mem_cons_of_mem _ hx)) w' (h1.rows.later hb) (h2.rows.later hb) (fun x hx => (h1.inn.later hb) x (List.mem_cons_of_mem _ hx)) (fun x hx => (h2.inn.later hb) x (List.mem_cons_of_mem _ hx))
    rw [decide_eq_true he.2] at h
    exact h
  have HA := hide hA
  have HB := hide hB
  have HBA := hide hbA
  unfold tval Row.v
  simp only
  clear hA hB H1 H2 h1 h2 he
  go_enter Tryz.func10, Tryz.ntmps10
  go_wp2_with fail
  refine HA.out.mono ?_
  rintro e w1 ⟨rfl, hb1⟩
  have q1 := cell_later hb1 (a := ⟨w.heap.size, 1, none⟩) (v := .slice p1 l1.length c1) (by simp [go_sem])
  have q2 := cell_later hb1 (a := ⟨w.heap.size + 1, 1, none⟩) (v := .slice p2 l2.length c2) (by simp [go_sem])
  have HB1 := hide (belowAl HBA.out hb1)
  clear hb1 HA hbA HBA
  have HC := hide (HB.out w1 HB1.out)
  go_wp2_with fail
  refine HC.out.mono ?_
  rintro e w2 ⟨rfl, hb2⟩
  have HB2 := hide (belowAl HB1.out hb2)
  clear hb2 HC HB1 HB q1 q2
  go_wp2
  go_ret
  exact ⟨rfl, HB2.out⟩

def codeF (t : ByteArray) : Int := if parseF t = none then 1 else 0
def trF (t : ByteArray) : List Int × List (List Int) := (parseF t).getD ([], [])
theorem parse_near {t : ByteArray} {y : List Int × List (List Int)} (h : parseF t = some y) : fitL y.1 y.2 = 0 := by
  unfold parseF at h
  split at h
  · cases h
  · split at h
    · cases h
    · split at h
      · cases h
      · split at h
        · rename_i hf
          simp at h
          rw [← h]
          exact hf
        · cases h
theorem parseOut_form {t : ByteArray} {e : Ending} {w : World} (h : ParseOut t e w) : ∃ (s : Row) (p : Option Addr) (cap : Nat) (rws : List Row), e = .returned (.tuple #[tval s p rws.length cap, .int .i64 (codeF t)]) ∧ (s.ns, rws.map Row.ns) = trF t ∧ TrAt w s p cap rws := by
  unfold ParseOut at h
  unfold codeF trF
  cases hp : parseF t with
  | none =>
    rw [hp] at h
    refine ⟨nilRow, none, 0, [], h, rfl, ⟨fun h => by simp at h, fun r hr => ?_, by simp, fun r hr => ?_⟩⟩
    · have : r = nilRow := by simpa using hr
      subst this
      exact ⟨fun h => by simp [nilRow] at h, fun _ => rfl⟩
    · have : r = nilRow := by simpa using hr
      subst this
      simp [nilRow]
  | some y =>
    have hn := parse_near hp
    obtain ⟨st, ins⟩ := y
    rw [hp] at h
    obtain ⟨s, p, cap, rws, h1, h2, h3, h4, h5, _⟩ := h
    obtain ⟨n1, n2⟩ := fitL_near hn
    simp only at n1 n2
    rw [← h3, List.length_map] at n1
    refine ⟨s, p, cap, rws, by simpa using h1, by rw [h2, h3]; rfl, ⟨h4, h5, by omega, fun r hr => ?_⟩⟩
    have : r.ns.length ≤ 20 := by
      rcases List.mem_cons.1 hr with rfl | hr
      · rw [h2]; exact (n2 _ (List.mem_cons_self ..)).1
      · exact (n2 _ (List.mem_cons_of_mem _ (by rw [← h3]; exact List.mem_map.2 ⟨r, hr, rfl⟩))).1
    unfold maxLen
    omega
end Go.Proofs.YtagaemlgompggaaGreatDoor

namespace Go.Proofs.YtagaemlgompggaaGreatDoor
open Go.RowKit
set_option maxRecDepth 100000

theorem parseC (t : ByteArray) (m : Int) (w : World) (hm : w.cell? ⟨1, 0, none⟩ = some (.int .i64 m)) :
    Calls Tryz.prog 8 #[.string t] w fun e w' => ∃ (a : Option Addr) (n : List Int) (c : Nat) (p : Option Addr) (cap : Nat) (rws : List Row), e = .returned (.tuple #[.agg #[.slice a n.length c, .slice p rws.length cap], .int .i64 (codeF t)]) ∧ (n, rws.map Row.ns) = trF t ∧ TrAt w' ⟨a, n, c⟩ p cap rws ∧ Below w.heap.size w w' := by
  refine (parse_any t m w hm).mono ?_
  rintro e w' ⟨h, hb⟩
  obtain ⟨⟨a, n, c⟩, p, cap, rws, h1, h2, h3⟩ := parseOut_form h
  exact ⟨a, n, c, p, cap, rws, h1, h2, h3, hb⟩
theorem parseR (t : ByteArray) (hs : t.size ≤ 100000000) (w : World) :
    Calls Tryz.prog 9 #[.string t] w fun e w' => ∃ (a : Option Addr) (n : List Int) (c : Nat) (p : Option Addr) (cap : Nat) (rws : List Row), e = .returned (.tuple #[.agg #[.slice a n.length c, .slice p rws.length cap], .int .i64 (codeF t)]) ∧ (n, rws.map Row.ns) = trF t ∧ TrAt w' ⟨a, n, c⟩ p cap rws ∧ Below w.heap.size w w' := by
  refine (parseTrace_any t hs w).mono ?_
  rintro e w' ⟨h, hb⟩
  obtain ⟨⟨a, n, c⟩, p, cap, rws, h1, h2, h3⟩ := parseOut_form h
  exact ⟨a, n, c, p, cap, rws, h1, h2, h3, hb⟩
theorem sameC {a1 a2 : Option Addr} {n1 n2 : List Int} {k1 k2 : Nat} {p1 p2 : Option Addr} {c1 c2 : Nat} {l1 l2 : List Row} {w : World} (h1 : TrAt w ⟨a1, n1, k1⟩ p1 c1 l1) (h2 : TrAt w ⟨a2, n2, k2⟩ p2 c2 l2) (he : (n1, l1.map Row.ns) = (n2, l2.map Row.ns)) :
    Calls Tryz.prog 10 #[.agg #[.slice a1 n1.length k1, .slice p1 l1.length c1], .agg #[.slice a2 n2.length k2, .slice p2 l2.length c2]] w fun e w' => e = .returned (.bool true) ∧ Below w.heap.size w w' := by
  injection he with e1 e2
  exact sameTrace_any ⟨a1, n1, k1⟩ ⟨a2, n2, k2⟩ p1 p2 c1 c2 l1 l2 w h1 h2 ⟨e1, e2⟩

set_option maxHeartbeats 8000000 in
theorem traceParses_walk (t : ByteArray) (ht : t.size ≤ 100000000) (s : Row) (p : Option Addr) (cap : Nat) (l : List Row) (m : Int) (w : World) (hl : l.length ≤ 5864062014800) (hR : RowsAt w p l) (hnil : p = none → cap = 0) (hI : InAt w (s :: l)) (hw : ∀ r ∈ s :: l, Wide r)
    (hm : w.cell? ⟨1, 0, none⟩ = some (.int .i64 m)) (htab : Lib.TabIs Tryz.prog w "internal/strconv.uint64pow10" .u64 Lib.pow10Tab) :
    Calls Tryz.prog 4 #[.string t, tval s p l.length cap] w fun e w' => e = .returned (.bool true) ∧ Below w.heap.size w w' := by
  have hB0 : Below w.heap.size w (w.alloc (.cells #[s.v, .slice p l.length cap] 25)) := bal (Below.refl _ _) _
  have HPR := hide (fun (w' : World) (hb : Below w.heap.size w w') => print_any s p cap l w' hl (hR.later hb) hnil (hI.later hb) (tab_later htab hb))
  have HTB := hide (fun (w' : World) (hb : Below w.heap.size w w') => traceBegun_any m w' (cell_later hb hm) (tab_later htab hb))
  have HPC := hide (fun (t : ByteArray) (w' : World) (hb : Below w.heap.size w w') => parseC t m w' (cell_later hb hm))
  have HTR : Hid (∀ w', Below w.heap.size w w' → TrAt w' s p cap l) := fun w' hb => ⟨hR.later hb, hI.later hb, by omega, fun r hr => by have := (hw r hr).1; unfold maxLen; omega⟩
  have HPP := hide (@print_parse s l)
  have q0 : (w.alloc (.cells #[s.v, .slice p l.length cap] 25)).cell? ⟨w.heap.size, 0, none⟩ = some s.v := by simp [go_sem]
  have q1 : (w.alloc (.cells #[s.v, .slice p l.length cap] 25)).cell? ⟨w.heap.size, 1, none⟩ = some (.slice p l.length cap) := by simp [go_sem]
  have HB0 := hide hB0
  have HPR1 := hide (parseR t ht)
  unfold tval at HPR ⊢
  clear hR hI hw hm htab hB0
  generalize fitE s l = x at *
  generalize printT s l = T at *
  obtain ⟨sa, sn, sc⟩ := s
  have hv : (⟨sa, sn, sc⟩ : Row).v = .slice sa sn.length sc := rfl
  rw [hv] at HPR HB0 q0 q1 ⊢
  clear hv
  simp only at HPP
  have HC1 := hide (HPC.out t _ HB0.out)
  go_enter Tryz.func4, Tryz.ntmps4
  go_wp2_with fail
  refine HC1.out.mono ?_
  rintro e w1 ⟨xa, xn, xc, xp, xk, xr, rfl, hx1, hx2, hb1⟩
  have hbA : Below w1.heap.size w1 (w1.alloc (.cells #[.slice xa xn.length xc, .slice xp xr.length xk] 25)) := bal (Below.refl _ _) _
  have HX1 := hide hx1
  have HX2 := hide (hx2.later hbA)
  have HB1 := hide (belowAl (belowAl HB0.out hb1) hbA)
  have a0 := cell_later hbA (cell_later hb1 q0)
  have a1 := cell_later hbA (cell_later hb1 q1)
  have b0 : (w1.alloc (.cells #[.slice xa xn.length xc, .slice xp xr.length xk] 25)).cell? ⟨w1.heap.size, 0, none⟩ = some (.slice xa xn.length xc) := by simp [go_sem]
  have b1 : (w1.alloc (.cells #[.slice xa xn.length xc, .slice xp xr.length xk] 25)).cell? ⟨w1.heap.size, 1, none⟩ = some (.slice xp xr.length xk) := by simp [go_sem]
  have HC2 := hide (HPR1.out (w1.alloc (.cells #[.slice xa xn.length xc, .slice xp xr.length xk] 25)))
  clear hx1 hx2 hb1 hbA q0 q1 HC1 HB0
  go_wp2_with fail
  refine HC2.out.mono ?_
  rintro e w2 ⟨ya, yn, yc, yp, yk, yr, rfl, hy1, hy2, hb2⟩
  have hbA : Below w2.heap.size w2 (w2.alloc (.cells #[.slice ya yn.length yc, .slice yp yr.length yk] 25)) := bal (Below.refl _ _) _
  have hb2A := belowAl hb2 hbA
  have HY2 := hide (hy2.later hbA)
  have HXY : Hid ((xn, xr.map Row.ns) = (yn, yr.map Row.ns)) := HX1.out.trans hy1.symm
  have HX3 := hide (HX2.out.later hb2A)
  have HB2 := hide (belowAl HB1.out hb2A)
  have c0 := cell_later hb2A a0
  have c1 := cell_later hb2A a1
  have d0 := cell_later hb2A b0
  have d1 := cell_later hb2A b1
  have e0 : (w2.alloc (.cells #[.slice ya yn.length yc, .slice yp yr.length yk] 25)).cell? ⟨w2.heap.size, 0, none⟩ = some (.slice ya yn.length yc) := by simp [go_sem]
  have e1 : (w2.alloc (.cells #[.slice ya yn.length yc, .slice yp yr.length yk] 25)).cell? ⟨w2.heap.size, 1, none⟩ = some (.slice yp yr.length yk) := by simp [go_sem]
  have HC3 := hide (HTB.out (w2.alloc (.cells #[.slice ya yn.length yc, .slice yp yr.length yk] 25)) HB2.out)
  clear hy1 hy2 hb2 hb2A hbA a0 a1 b0 b1 HC2 HX2 HB1 HPR1 HTB HX1
  go_wp2_with fail
  refine HC3.out.mono ?_
  rintro e w3 ⟨rfl, hb3⟩
  have HB3 := hide (belowAl HB2.out hb3)
  have f0 := cell_later hb3 c0
  have f1 := cell_later hb3 c1
  have g0 := cell_later hb3 d0
  have g1 := cell_later hb3 d1
  have i0 := cell_later hb3 e0
  have i1 := cell_later hb3 e1
  have HC4 := hide (sameC (HX3.out.later hb3) (HY2.out.later hb3) HXY.out)
  clear hb3 c0 c1 d0 d1 e0 e1 HC3 HB2 HX3 HY2 HXY
  generalize w1.heap.size = G1 at *
  generalize w2.heap.size = G2 at *
  generalize codeF t = cf at *
  go_wp2_with fail
  refine HC4.out.mono ?_
  rintro e w4 ⟨rfl, hb4⟩
  have HB4 := hide (belowAl HB3.out hb4)
  have j0 := cell_later hb4 f0
  have j1 := cell_later hb4 f1
  have HC5 := hide (HPR.out w4 HB4.out)
  clear hb4 f0 f1 g0 g1 i0 i1 HC4 HB3 HPR
  go_wp2_with fail
  refine HC5.out.mono ?_
  rintro e w5 ⟨tx, rfl, h1, _, hb5⟩
  have HB5 := hide (belowAl HB4.out hb5)
  have k0 := cell_later hb5 j0
  have k1 := cell_later hb5 j1
  have HT1 := hide h1
  clear h1 hb5 j0 j1 HC5 HB4
  by_cases hx : x = 0
  · have htx := HT1.out hx
    subst htx
    have hpp := HPP.out hx
    have HCF : Hid (codeF ⟨tx.toArray⟩ = 0) := by unfold codeF; rw [show (⟨tx.toArray⟩ : ByteArray) = mk tx from rfl, hpp]; rfl
    have HTF : Hid (trF ⟨tx.toArray⟩ = (sn, l.map Row.ns)) := by unfold trF; rw [show (⟨tx.toArray⟩ : ByteArray) = mk tx from rfl, hpp]; rfl
    subst hx
    have HC6 := hide (HPC.out ⟨tx.toArray⟩ w5 HB5.out)
    rw [HCF.out, HTF.out] at HC6
    clear hpp HPP HT1 HCF HTF HPC
    go_wp2_with fail
    refine HC6.out.mono ?_
    rintro e w6 ⟨ua, un, uc, up, uk, ur, rfl, hu1, hu2, hb6⟩
    have hbA : Below w6.heap.size w6 (w6.alloc (.cells #[.slice ua un.length uc, .slice up ur.length uk] 25)) := bal (Below.refl _ _) _
    have hb6A := belowAl hb6 hbA
    have HB6 := hide (belowAl HB5.out hb6A)
    have l0 := cell_later hb6A k0
    have l1 := cell_later hb6A k1
    have n0 : (w6.alloc (.cells #[.slice ua un.length uc, .slice up ur.length uk] 25)).cell? ⟨w6.heap.size, 0, none⟩ = some (.slice ua un.length uc) := by simp [go_sem]
    have n1 : (w6.alloc (.cells #[.slice ua un.length uc, .slice up ur.length uk] 25)).cell? ⟨w6.heap.size, 1, none⟩ = some (.slice up ur.length uk) := by simp [go_sem]
    have HC7 := hide (sameC (hu2.later hbA) (HTR.out _ HB6.out) hu1)
    clear hu1 hu2 hb6 hbA hb6A k0 k1 HC6 HB5 HTR
    go_wp2_with fail
    refine HC7.out.mono ?_
    rintro e w7 ⟨rfl, hb7⟩
    have HB7 := hide (belowAl HB6.out hb7)
    clear hb7 HC7 HB6 l0 l1 n0 n1
    go_wp2
    go_ret
    exact ⟨rfl, HB7.out⟩
  · have hne : (x != 0) = true := by simp [hx]
    clear hx HPP HT1 HPC HTR
    go_wp2
    go_ret
    exact ⟨rfl, HB5.out⟩
end Go.Proofs.YtagaemlgompggaaGreatDoor
