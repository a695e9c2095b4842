/- A circuit that comes in. -/
import Derived.Test.YtjhkecnnhddhbaaGreatDoorGp
import Derived.Test.YtjhkecnnhddhbaaGreatDoorBa
namespace Go.Proofs.YtjhkecnnhddhbaaGreatDoor
open Go.ChangeShapes Go.WideShapes Go.ChangeAt Go.RowKit Go.Deep
set_option maxRecDepth 100000
set_option maxRecDepth 100000

theorem cells25 : Tryz.prog.cellsOf 25 = 1 := by kernel_rfl
theorem cells27 : Tryz.prog.cellsOf 27 = 8 := by kernel_rfl
theorem eight_cells {α : Type} {cs : Array α} (h : cs.size = 8) : ∃ c0 c1 c2 c3 c4 c5 c6 c7, cs = #[c0, c1, c2, c3, c4, c5, c6, c7] := by
  obtain ⟨l⟩ := cs
  match l, h with
  | [a, b, c, d, e, f, g, i], _ => exact ⟨a, b, c, d, e, f, g, i, rfl⟩

theorem bulk_pos {H : Type} (d : DataW H) : 1 ≤ Rows.uptoBulk d := by
  cases d with
  | lit l => cases l <;> simp [Rows.uptoBulk]
  | _ => simp [Rows.uptoBulk]
theorem bulk_len {H : Type} (es : List (DataW H)) : es.length ≤ Rows.uptoBulkAll es := by
  induction es with
  | nil => simp
  | cons d r ih =>
    have := bulk_pos d
    simp only [Rows.uptoBulkAll, List.length_cons]
    omega
theorem bulk_slice {H : Type} (es ss : List (DataW H)) : es.length ≤ Rows.uptoBulk (.slice es ss) := by
  have := bulk_len es
  simp only [Rows.uptoBulk]
  omega
/-- Numbers that come in: how many there are at most, by how much is read. -/
theorem in_ints_bulk {H : Type} {enc : TypeId × Value → H} {W : World} {base : Nat} {sp : Nat → Bool} {held : Bool} {fuel : Nat} {v : Value} {x : DataW H × List MemPlace} (h : DataW.trod enc Tryz.prog W base sp held fuel 25 [v] = some x)
    {p : Option Addr} {n c : Nat} (hv : v = .slice p n c) : n ≤ Rows.uptoBulk x.1 := by
  rcases open_ints Tryz.underlying25 Tryz.underlying3 cells3 h with ⟨hcs, hx⟩ | ⟨a, len, cap, zs, hcs, _, hl, hm, hz, hx, hcell, _⟩
  · simp at hcs
    rw [hcs] at hv
    cases hv
    exact Nat.zero_le _
  · simp at hcs
    rw [hcs] at hv
    cases hv
    have hlz : n ≤ zs.length := by rw [hz]; split <;> omega
    subst hx
    refine Nat.le_trans ?_ (bulk_slice _ _)
    simp only [lits, List.length_map, List.length_take]
    omega
set_option maxRecDepth 100000 in
theorem in_circuit {H : Type} {enc : TypeId × Value → H} {W : World} {r : Reach} {b0 base : Nat} {sp : Nat → Bool} {held : Bool} {v : Value} {d : DataW H} {p : List MemPlace}
    (hv : Value.okWide Tryz.prog W r b0 27 v) (h : DataW.Trod enc Tryz.prog W base sp held 27 v d p) :
    ∃ (ins : Int) (q : Option Addr) (c : Nat) (ps : List (Int × Int)) (a s : Int) (i n b g : Sl), v = circ ins q (List.length ps) c a s i n b g ∧ CirAt W q ps i n b g ∧ WfP ps ∧ Wf a ∧ Wf s ∧
      ((d.weights Tryz.prog 27).all (· ≤ reachBytes) = true → ps.length ≤ 8796093021952 ∧ i.ns.length ≤ 17592186043904 ∧ n.ns.length ≤ 17592186043904 ∧ b.ns.length ≤ 17592186043904 ∧ g.ns.length ≤ 17592186043904) ∧ b.ns.length ≤ Rows.uptoBulk d ∧ g.ns.length ≤ Rows.uptoBulk d := by
  obtain ⟨cs, rfl, hsz⟩ := okWide_struct Tryz.underlying27 hv
  obtain ⟨v0, v1, v2, v3, v4, v5, v6, v7, rfl⟩ := eight_cells (hsz.trans cells27)
  obtain ⟨fuel, hf⟩ := h
  simp only [Value.cells] at hf
  obtain ⟨y, m, _, hxy, _, hl, hx⟩ := DataW.trod_struct Tryz.underlying27 hf
  have hl2 : y.length = 7 := hl
  match y, hl2 with
  | [y0, y1, y2, y3, y4, y5, y6], _ =>
    have e0 := hx 0 _ rfl
    have e1 := hx 1 _ rfl
    have e2 := hx 2 _ rfl
    have e3 := hx 3 _ rfl
    have e4 := hx 4 _ rfl
    have e5 := hx 5 _ rfl
    have e6 := hx 6 _ rfl
    simp [cells24, cells3, cells25] at e0 e1 e2 e3 e4 e5 e6
    obtain ⟨z, m2, _, hzy, _, hl', hx'⟩ := DataW.trod_struct Tryz.underlying24 e0
    have hl3 : z.length = 2 := hl'
    match z, hl3 with
    | [z0, z1], _ =>
      have g0 := hx' 0 _ rfl
      have g1 := hx' 1 _ rfl
      simp [cells3] at g0
      simp [cells22] at g1
      obtain ⟨n0, k0, _⟩ := DataW.trod_int Tryz.underlying3 g0
      obtain ⟨n1, k1, _, f1⟩ := DataW.trod_int Tryz.underlying3 e1
      obtain ⟨n2, k2, _, f2⟩ := DataW.trod_int Tryz.underlying3 e2
      simp at k0 k1 k2
      subst k0 k1 k2
      obtain ⟨a1, c1, ps, rfl, _, H1, F1, L1⟩ := in_pairs g1
      obtain ⟨a3, c3, l3, rfl, H3, L3⟩ := in_ints e3
      obtain ⟨a4, c4, l4, rfl, H4, L4⟩ := in_ints e4
      obtain ⟨a5, c5, l5, h5, H5, L5⟩ := in_ints e5
      have K5 := in_ints_bulk e5 h5
      subst h5
      obtain ⟨a6, c6, l6, h6, H6, L6⟩ := in_ints e6
      have K6 := in_ints_bulk e6 h6
      subst h6
      have hd : d = .agg [y0.1, y1.1, y2.1, y3.1, y4.1, y5.1, y6.1] := by simpa using congrArg Prod.fst hxy
      have hz : y0.1 = .agg [z0.1, z1.1] := by simpa using congrArg Prod.fst hzy
      refine ⟨n0, a1, c1, ps, n1, n2, ⟨a3, l3, c3⟩, ⟨a4, l4, c4⟩, ⟨a5, l5, c5⟩, ⟨a6, l6, c6⟩, rfl, ⟨H1, H3, H4, H5, H6⟩, F1, wf_of f1, wf_of f2, fun hs => ?_, ?_, ?_⟩
      rotate_left
      · rw [hd]; simp only [Rows.uptoBulk, Rows.uptoBulkAll]; omega
      · rw [hd]; simp only [Rows.uptoBulk, Rows.uptoBulkAll]; omega
      rw [hd, hz] at hs
      simp only [DataW.weights, Tryz.underlying27, Tryz.underlying24, List.map_cons, List.map_nil, DataW.weightsEach, List.all_append, Bool.and_eq_true] at hs
      obtain ⟨⟨_, s1, _⟩, _, _, s3, s4, s5, s6, _⟩ := hs
      exact ⟨L1 s1, L3 s3, L4 s4, L5 s5, L6 s6⟩
end Go.Proofs.YtjhkecnnhddhbaaGreatDoor
