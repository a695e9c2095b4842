/- Gates: the plain text: And. -/
import Derived.Test.YtabnimgpednhjabGm
namespace Go.Proofs.Ytabnimgpednhjab
open Go.RowKit Go.Maps Go.WideMaps
set_option maxRecDepth 100000

theorem wpList_append_pairs {w : World} {ops : Array Oper} {rest : List Oper} {o : Oper} {a : Act} {Q : Exit → Act → World → Prop} (hgd : o.guard = none) (s x : Operand)
    (ho : o.op = .call { callee := .builtin .append, args := #[s, x], argTypes := #[22, 22] })
    (base : Nat) (v : Value) (u l : List (Int × Int)) (hs : a.eval s = v) (hown : w.ownsRow base 69 2 v u.length (flat u)) (p : Option Addr) (c : Nat) (hx : a.eval x = .slice p l.length c) (hB : PairsAt w p l) (hnil : p = none → c = 0)
    (hb : u.length + l.length ≤ 8796093022208) (hbase : base ≤ w.heap.size)
    (hK : ∀ v' w', w'.ownsRow base 69 2 v' (u ++ l).length (flat (u ++ l)) → w.grownBy w' v.ownBlock → wpList Try.prog ops Q rest (a.put o.dst v') w') : wpList Try.prog ops Q (o :: rest) a w := by
  obtain ⟨i0, hi, hz0, hz1, hz2⟩ := info_parts info55
  cases p with
  | none =>
    have h0 : l = [] := by
      cases l with
      | nil => rfl
      | cons a t => obtain ⟨b, off, h, _⟩ := hB (by simp); cases h
    subst h0
    obtain rfl := hnil rfl
    have hrun := run_append_owned_none (P := Try.prog) (w := w) base 22 o.type 69 i0 2 Try.underlying22 hi v u.length _ hown
    refine wpList_plain hgd fun K' hK' => ?_
    unfold Oper.wp
    simp only [List.length_nil] at hx
    simp [execOp, ho, resolve, invoke, builtin, hs, hx, hrun, Result.andThen]
    exact hK' _ _ (hK v w (by simpa using hown) ⟨rfl, rfl, rfl, Nat.le_refl _, fun _ _ _ => rfl⟩)
  | some ad =>
    refine wpList_append_own_wide w hgd s x 22 ho base 69 i0 (.agg #[.int .i64 0, .int .i64 0]) 2 16 Try.underlying22 hi hz0 hz1 hz2 rfl (by decide) v u.length _ hs hown ad l.length c (flat l) hx (flat_len l) (pairs_cells hB) (flat_cell l) (by unfold maxLen; omega) (by omega) hbase (fun v' w' a b _ => hK v' w' ?_ b)
    have : flat (u ++ l) = flat u ++ flat l := by simp [flat, List.flatMap_append]
    rw [this, List.length_append]
    exact a

def refLit (ins : Int) (ps : List (Int × Int)) (x y : Int) : Int := if x = 0 ∨ (x / 2 = y / 2 ∧ x ≠ y) then 0 else if x = 1 ∨ x = y then y else if 0 ≤ andAt ps ps.length (x, y) then 2 * (1 + ins + andAt ps ps.length (x, y)) else 2 * (1 + ins + ps.length)
def refPs (ps : List (Int × Int)) (x y : Int) : List (Int × Int) := if x = 0 ∨ (x / 2 = y / 2 ∧ x ≠ y) then ps else if x = 1 ∨ x = y then ps else if 0 ≤ andAt ps ps.length (x, y) then ps else ps ++ [(x, y)]

theorem ref_no {ins : Int} {ps : List (Int × Int)} {x y : Int} (h : x = 0 ∨ (x / 2 = y / 2 ∧ x ≠ y)) : refLit ins ps x y = 0 ∧ refPs ps x y = ps := by
  unfold refLit refPs; rw [if_pos h, if_pos h]; exact ⟨rfl, rfl⟩
theorem ref_one {ins : Int} {ps : List (Int × Int)} {x y : Int} (h : ¬ (x = 0 ∨ (x / 2 = y / 2 ∧ x ≠ y))) (h2 : x = 1 ∨ x = y) : refLit ins ps x y = y ∧ refPs ps x y = ps := by
  unfold refLit refPs; rw [if_neg h, if_neg h, if_pos h2, if_pos h2]; exact ⟨rfl, rfl⟩
theorem ref_at {ins : Int} {ps : List (Int × Int)} {x y : Int} (h : ¬ (x = 0 ∨ (x / 2 = y / 2 ∧ x ≠ y))) (h2 : ¬ (x = 1 ∨ x = y)) (h3 : 0 ≤ andAt ps ps.length (x, y)) : refLit ins ps x y = 2 * (1 + ins + andAt ps ps.length (x, y)) ∧ refPs ps x y = ps := by
  unfold refLit refPs; rw [if_neg h, if_neg h, if_neg h2, if_neg h2, if_pos h3, if_pos h3]; exact ⟨rfl, rfl⟩
theorem ref_new {ins : Int} {ps : List (Int × Int)} {x y : Int} (h : ¬ (x = 0 ∨ (x / 2 = y / 2 ∧ x ≠ y))) (h2 : ¬ (x = 1 ∨ x = y)) (h3 : ¬ 0 ≤ andAt ps ps.length (x, y)) : refLit ins ps x y = 2 * (1 + ins + ps.length) ∧ refPs ps x y = ps ++ [(x, y)] := by
  unfold refLit refPs; rw [if_neg h, if_neg h, if_neg h2, if_neg h2, if_neg h3, if_neg h3]; exact ⟨rfl, rfl⟩

def AndIs (w w' : World) (e : Ending) (p : Option Addr) (ps : List (Int × Int)) (ins : Int) (qs : List (Int × Int)) (n : Int) : Prop := ∃ pv cv, e = .returned (.tuple #[gval ins pv qs.length cv, .int .i64 n]) ∧ PairsAt w' pv qs ∧ Below w.heap.size w w' ∧ ((pv = p ∧ qs = ps) ∨ ∀ b off, pv = some ⟨b, off, none⟩ → w.heap.size ≤ b)

theorem pairs_far {w : World} {p : Option Addr} {ps : List (Int × Int)} {q : Addr} {u : Value} (h : PairsAt w p ps) (hne : ∀ b off, p = some ⟨b, off, none⟩ → 0 < ps.length → b ≠ q.block) : PairsAt (w.setCell q u) p ps := by
  intro h0
  obtain ⟨b, off, rfl, hc⟩ := h h0
  exact ⟨b, off, rfl, fun i hi => ⟨cell_set_far (hc i hi).1 (hne b off rfl h0), cell_set_far (hc i hi).2 (hne b off rfl h0)⟩⟩
theorem pairs_lt {w : World} {p : Option Addr} {ps : List (Int × Int)} (h : PairsAt w p ps) : ∀ b off, p = some ⟨b, off, none⟩ → 0 < ps.length → b < w.heap.size := by
  intro b off e h0
  obtain ⟨b', off', e', hc⟩ := h h0
  rw [e] at e'
  cases e'
  exact World.block_lt_of_cell? _ _ (hc 0 h0).1

theorem pairs_one {w : World} {a b : Int} : PairsAt (w.alloc (.cells #[.int .i64 a, .int .i64 b] 69)) (some ⟨w.heap.size, 0, none⟩) [(a, b)] := fun _ => ⟨w.heap.size, 0, rfl, fun i hi => by
  match i, hi with
  | 0, _ => simp [go_sem]⟩

theorem owns_pairsN {w : World} {base n : Nat} {v : Value} {ps : List (Int × Int)} (hn : ps.length = n) (h : w.ownsRow base 69 2 v n (flat ps)) : ∃ p cap, v = .slice p n cap ∧ PairsAt w p ps := by
  subst hn; exact owns_pairs h

/-- What AndOf lays first. -/
abbrev laid (w : World) (ins : Int) (p : Option Addr) (len cap : Nat) : World := (w.alloc (.cells #[.int .i64 ins, .slice p len cap] 24)).alloc (.cells #[.int .i64 0, .slice none 0 0] 24)

set_option maxRecDepth 100000 in
set_option maxHeartbeats 4000000 in
theorem andOf_lt (ins : Int) (p : Option Addr) (cap : Nat) (hpn : p = none → cap = 0) (ps : List (Int × Int)) (hwf : WfP ps) (hl : ps.length ≤ 1000000) (h0 : 0 ≤ ins) (h1 : ins ≤ 1000) (x y a b : Int) (hxy : x < y) (hx : 0 ≤ x) (hy : y ≤ 10000000) (hab : (a = x ∧ b = y) ∨ (a = y ∧ b = x))
    (w : World) (hP : PairsAt w p ps) :
    Calls Try.prog 12 #[gval ins p ps.length cap, .int .i64 a, .int .i64 b] w fun e w' => AndIs w w' e p ps ins (refPs ps x y) (refLit ins ps x y) := by
  have hB0 : Below w.heap.size w (laid w ins p ps.length cap) := bal (bal (Below.refl _ _) _) _
  have HB0 := hide hB0
  have HP := hide hP
  have HPN := hide hpn
  have HCL := hide (fun (w' : World) (hb : Below w.heap.size w w') => andAt_any ins p cap ps (by omega) hwf ps.length (Nat.le_refl _) x y ⟨by omega, by omega⟩ ⟨by omega, by omega⟩ w' (hP.later hb))
  have hge := andAt_ge ps ps.length (x, y)
  have HEND : Hid (∀ n, AndIs w ((w.alloc (.cells #[.int .i64 ins, .slice p ps.length cap] 24)).alloc (.cells #[.int .i64 ins, .slice p ps.length cap] 24)) (.returned (.tuple #[gval ins p ps.length cap, .int .i64 n])) p ps ins ps n) := fun n =>
    ⟨p, cap, rfl, hP.later (bal (bal (Below.refl _ _) _) _), bal (bal (Below.refl _ _) _)  _, Or.inl ⟨rfl, rfl⟩⟩
  have hn1 : (x == y) = false := by simp; omega
  have hn2 : (x != y) = true := by simp; omega
  clear hP hpn hwf hB0
  by_cases hz : x = 0
  · have HE := hide (ref_no (ins := ins) (ps := ps) (Or.inl hz : x = 0 ∨ (x / 2 = y / 2 ∧ x ≠ y)))
    have hz' : (x == 0) = true := by simpa using hz
    clear HCL hz hge
    rcases hab with ⟨rfl, rfl⟩ | ⟨rfl, rfl⟩
    all_goals
      go_enter Try.func12, Try.ntmps12
      go_wp2
      rw [HE.out.1, HE.out.2]
      exact bodyPost_ret (v := .tuple #[gval ins p ps.length cap, .int .i64 0]) (by simp [results, Try.results12, go_sem]) rfl (HEND.out 0)
  have hz' : (x == 0) = false := by simpa using hz
  by_cases ht : x / 2 = y / 2
  · have HE := hide (ref_no (ins := ins) (ps := ps) (Or.inr ⟨ht, by omega⟩ : x = 0 ∨ (x / 2 = y / 2 ∧ x ≠ y)))
    have ht' : (x / 2 == y / 2) = true := by simpa using ht
    clear HCL hz ht hge
    rcases hab with ⟨rfl, rfl⟩ | ⟨rfl, rfl⟩
    all_goals
      go_enter Try.func12, Try.ntmps12
      go_wp2
      rw [HE.out.1, HE.out.2]
      exact bodyPost_ret (v := .tuple #[gval ins p ps.length cap, .int .i64 0]) (by simp [results, Try.results12, go_sem]) rfl (HEND.out 0)
  have ht' : (x / 2 == y / 2) = false := by simpa using ht
  have hno : ¬ (x = 0 ∨ (x / 2 = y / 2 ∧ x ≠ y)) := fun h => h.elim hz (fun h => ht h.1)
  by_cases ho : x = 1
  · have HE := hide (ref_one (ins := ins) (ps := ps) hno (Or.inl ho : x = 1 ∨ x = y))
    have ho' : (x == 1) = true := by simpa using ho
    clear HCL hz ht ho hno hge
    rcases hab with ⟨rfl, rfl⟩ | ⟨rfl, rfl⟩
    all_goals
      go_enter Try.func12, Try.ntmps12
      go_wp2
      rw [HE.out.1, HE.out.2]
    · exact bodyPost_ret (v := .tuple #[gval ins p ps.length cap, .int .i64 b]) (by simp [results, Try.results12, go_sem]) rfl (HEND.out b)
    · exact bodyPost_ret (v := .tuple #[gval ins p ps.length cap, .int .i64 a]) (by simp [results, Try.results12, go_sem]) rfl (HEND.out a)
  have ho' : (x == 1) = false := by simpa using ho
  have hno2 : ¬ (x = 1 ∨ x = y) := by omega
  by_cases hat : 0 ≤ andAt ps ps.length (x, y)
  · have HE := hide (ref_at (ins := ins) (ps := ps) hno hno2 hat)
    clear hz ht ho hno hno2 HEND
    rcases hab with ⟨rfl, rfl⟩ | ⟨rfl, rfl⟩
    all_goals
      generalize hR : andAt ps ps.length _ = R at *
      clear hR
      go_enter Try.func12, Try.ntmps12
      go_wp2_with fail
      refine (HCL.out _ HB0.out).mono ?_
      rintro e w1 ⟨rfl, hb1⟩
      have HB1 := hide (bthen HB0.out hb1)
      have q0 := cell_later hb1 (a := ⟨w.heap.size, 0, none⟩) (v := .int .i64 ins) (by simp [go_sem])
      have q1 := cell_later hb1 (a := ⟨w.heap.size, 1, none⟩) (v := .slice p ps.length cap) (by simp [go_sem])
      have z0 := cell_later hb1 (a := ⟨w.heap.size + 1, 0, none⟩) (v := .int .i64 0) (by simp [go_sem])
      have z1 := cell_later hb1 (a := ⟨w.heap.size + 1, 1, none⟩) (v := .slice none 0 0) (by simp [go_sem])
      have zf : ∀ i, w1.frozen? ⟨w.heap.size + 1, i, none⟩ = false := fun i => by rw [hb1.frozen (by simp)]; simp [go_sem]
      have HPE : Hid (PairsAt ((w1.setCell ⟨w.heap.size + 1, 0, none⟩ (.int .i64 ins)).setCell ⟨w.heap.size + 1, 1, none⟩ (.slice p ps.length cap)) p ps) :=
        pairs_far (pairs_far (HP.out.later HB1.out) (fun b off e h => by have := pairs_lt HP.out b off e h; simp; omega)) (fun b off e h => by have := pairs_lt HP.out b off e h; simp; omega)
      have hw1 := wrap_id (x := 1 + ins) (by omega) (by omega)
      have hw2 := wrap_id (x := 1 + ins + R) (by omega) (by omega)
      have hw3 := wrap_id (x := 2 * (1 + ins + R)) (by omega) (by omega)
      clear hb1 HCL
      go_wp2
      go_region_held3 (fun w' => w'.cell? ⟨w.heap.size, 0, none⟩ = some (.int .i64 ins) ∧ w'.cell? ⟨w.heap.size, 1, none⟩ = some (.slice p ps.length cap))
        (first | exact ⟨q0, q1⟩ | go_keep)
        (fail)
      all_goals
        go_wp2
        rw [HE.out.1, HE.out.2]
        exact bodyPost_ret (v := .tuple #[gval ins p ps.length cap, .int .i64 (2 * (1 + ins + R))]) (by simp [results, Try.results12, go_sem, z0, z1]) rfl ⟨p, cap, rfl, HPE.out.later (Below.refl _ _).drew, ((HB1.out.setCell (by simp) _).setCell (by simp) _).drew, Or.inl ⟨rfl, rfl⟩⟩
  · have HE := hide (ref_new (ins := ins) (ps := ps) hno hno2 hat)
    have hat' : andAt ps ps.length (x, y) = -1 := by omega
    rw [hat'] at HCL
    clear hz ht ho hno hno2 HEND hat hat' hge
    rcases hab with ⟨rfl, rfl⟩ | ⟨rfl, rfl⟩
    all_goals
      go_enter Try.func12, Try.ntmps12
      go_wp2_with fail
      refine (HCL.out _ HB0.out).mono ?_
      rintro e w1 ⟨rfl, hb1⟩
      have HB1 := hide (bthen HB0.out hb1)
      have hsz : w.heap.size + 2 ≤ w1.heap.size := by have := hb1.size; simpa using this
      have q0 := cell_later hb1 (a := ⟨w.heap.size, 0, none⟩) (v := .int .i64 ins) (by simp [go_sem])
      have q1 := cell_later hb1 (a := ⟨w.heap.size, 1, none⟩) (v := .slice p ps.length cap) (by simp [go_sem])
      have z0 := cell_later hb1 (a := ⟨w.heap.size + 1, 0, none⟩) (v := .int .i64 0) (by simp [go_sem])
      have z1 := cell_later hb1 (a := ⟨w.heap.size + 1, 1, none⟩) (v := .slice none 0 0) (by simp [go_sem])
      have zf : ∀ i, w1.frozen? ⟨w.heap.size + 1, i, none⟩ = false := fun i => by rw [hb1.frozen (by simp)]; simp [go_sem]
      have qf : w1.frozen? ⟨w.heap.size, 1, none⟩ = false := by rw [hb1.frozen (by simp; omega)]; simp [go_sem]
      clear hb1 HCL
      have q1a := fun o => past1 q1 o
      go_wp2_with (at_builtin; refine wpList_append_pairs rfl _ _ rfl w1.heap.size _ [] ps rfl (World.ownsRow_made w1 #[] 0 (Nat.le_refl _) (Nat.zero_le _) rfl) _ _ rfl (HP.out.later (bal HB1.out _)) HPN.out (by simp; omega) (by simp) ?_)
      intro v2 w2 hown2 hg2
      have hb2 : Below w1.heap.size w1 w2 := ((Below.refl _ w1).alloc (Nat.le_refl _) _).grown hg2 (by simp) (by intro k hk; simp [Value.ownBlock] at hk; omega)
      obtain ⟨pv2, cv2, rfl, _⟩ := owns_pairs hown2
      have HO2 := hide hown2
      have hs2 := hb2.size
      have r0 := cell_later hb2 q0
      have r1 := cell_later hb2 q1
      have y0 := cell_later hb2 z0
      have y1 := cell_later hb2 z1
      have yf : ∀ i, w2.frozen? ⟨w.heap.size + 1, i, none⟩ = false := fun i => by rw [hb2.frozen (by simp; omega)]; exact zf i
      have rf : w2.frozen? ⟨w.heap.size, 1, none⟩ = false := by rw [hb2.frozen (by simp; omega)]; exact qf
      have HB2 := hide (bthen HB1.out hb2)
      clear hb2 hg2 hown2 q0 q1 z0 z1 zf qf q1a HB1
      go_wp2_with (at_builtin; refine wpList_append_pairs rfl _ _ rfl w1.heap.size _ ps _ rfl (HO2.out.alloc _) _ _ rfl pairs_one (fun h => by cases h) (by simp; omega) (by simp; omega) ?_)
      intro v3 w3 hown3 hg3
      have hb3 : Below w1.heap.size w2 w3 := ((Below.refl w1.heap.size w2).alloc hs2 _).grown hg3 (by simp; omega) (fun k hk => (HO2.out.lt k hk).1)
      obtain ⟨pv3, cv3, rfl, hpv⟩ := owns_pairsN (by simp) hown3
      have HO3 := hide hown3
      have s0 := (hb3.cell (p := ⟨w.heap.size, 0, none⟩) (by simp; omega)).trans r0
      have s1 := (hb3.cell (p := ⟨w.heap.size, 1, none⟩) (by simp; omega)).trans r1
      have t0 := (hb3.cell (p := ⟨w.heap.size + 1, 0, none⟩) (by simp; omega)).trans y0
      have t1 := (hb3.cell (p := ⟨w.heap.size + 1, 1, none⟩) (by simp; omega)).trans y1
      have tf : ∀ i, w3.frozen? ⟨w.heap.size + 1, i, none⟩ = false := fun i => by rw [hb3.frozen (by simp; omega)]; exact yf i
      have sf : w3.frozen? ⟨w.heap.size, 1, none⟩ = false := by rw [hb3.frozen (by simp; omega)]; exact rf
      have HB3 := hide (HB2.out.trans (hb3.mono (by omega)))
      have HPV := hide hpv
      have hlb := pairs_lt hpv
      have HLB : Hid (∀ b off, pv3 = some ⟨b, off, none⟩ → w.heap.size + 2 ≤ b) := fun b off e => by have := (HO3.out.lt b (by rw [e]; rfl)).1; omega
      clear hg3 hb3 hown3 hpv r0 r1 y0 y1 yf rf HB2 hlb
      have HPE : Hid (∀ u1 u2 u3, PairsAt (((w3.setCell ⟨w.heap.size, 1, none⟩ u1).setCell ⟨w.heap.size + 1, 0, none⟩ u2).setCell ⟨w.heap.size + 1, 1, none⟩ u3) pv3 (ps ++ [_])) := fun u1 u2 u3 =>
        pairs_far (pairs_far (pairs_far HPV.out (fun b off e h => by have := HLB.out b off e; simp; omega)) (fun b off e h => by have := HLB.out b off e; simp; omega)) (fun b off e h => by have := HLB.out b off e; simp; omega)
      have hw1 := wrap_id (x := 1 + ins) (by omega) (by omega)
      have hw2 := wrap_id (x := 1 + ins + ps.length) (by omega) (by omega)
      have hw3 := wrap_id (x := 2 * (1 + ins + ps.length)) (by omega) (by omega)
      have k0 : (w3.setCell ⟨w.heap.size, 1, none⟩ (.slice pv3 (ps.length + 1) cv3)).cell? ⟨w.heap.size, 0, none⟩ = some (.int .i64 ins) := by rw [World.cell?_setCell_other w3 _ _ _ (by simp)]; exact s0
      have k1 : (w3.setCell ⟨w.heap.size, 1, none⟩ (.slice pv3 (ps.length + 1) cv3)).cell? ⟨w.heap.size, 1, none⟩ = some (.slice pv3 (ps.length + 1) cv3) := World.cell?_setCell_same w3 _ _ s1
      have l0 : (w3.setCell ⟨w.heap.size, 1, none⟩ (.slice pv3 (ps.length + 1) cv3)).cell? ⟨w.heap.size + 1, 0, none⟩ = some (.int .i64 0) := cell_set_far t0 (by simp)
      have l1 : (w3.setCell ⟨w.heap.size, 1, none⟩ (.slice pv3 (ps.length + 1) cv3)).cell? ⟨w.heap.size + 1, 1, none⟩ = some (.slice none 0 0) := cell_set_far t1 (by simp)
      have lf : ∀ i, (w3.setCell ⟨w.heap.size, 1, none⟩ (.slice pv3 (ps.length + 1) cv3)).frozen? ⟨w.heap.size + 1, i, none⟩ = false := fun i => by rw [World.frozen?_setCell]; exact tf i
      have HB4 := hide (HB3.out.setCell (p := ⟨w.heap.size, 1, none⟩) (Nat.le_refl _) (.slice pv3 (ps.length + 1) cv3))
      go_wp2
      have HPE2 := hide (HPE.out (.slice pv3 (ps.length + 1) cv3))
      clear HPE s0 s1 t0 t1 tf sf HB3 HPV HO3 HO2
      generalize w3.setCell ⟨w.heap.size, 1, none⟩ (.slice pv3 (ps.length + 1) cv3) = W4 at *
      go_region_held3 (fun w' => w'.cell? ⟨w.heap.size, 0, none⟩ = some (.int .i64 ins) ∧ w'.cell? ⟨w.heap.size, 1, none⟩ = some (.slice pv3 (ps.length + 1) cv3))
        (first | exact ⟨k0, k1⟩ | go_keep)
        (fail)
      all_goals
        go_wp2
        rw [HE.out.1, HE.out.2]
        exact bodyPost_ret (v := .tuple #[gval ins pv3 (ps.length + 1) cv3, .int .i64 (2 * (1 + ins + ps.length))]) (by simp [results, Try.results12, go_sem, l0, l1]) rfl ⟨pv3, cv3, by rw [List.length_append]; rfl, (HPE2.out _ _).later (Below.refl _ _).drew, ((HB4.out.setCell (by simp) _).setCell (by simp) _).drew, Or.inr fun b off e => by have := HLB.out b off e; omega⟩

end Go.Proofs.Ytabnimgpednhjab
