/- What a model is that comes in. -/
import Derived.Test.YtabnimgpednhjaaGreatDoorRows
import Derived.Test.YtabnimgpednhjaaGreatDoorNaM
import Derived.ProofKit
import Derived.SizedLaws
import Derived.OpenShut
import Derived.ChangeOld
import Derived.Below
import Derived.Deep.Slices
import Derived.Deep.SlicePairs
namespace Go.Proofs.YtabnimgpednhjaaGreatDoor.Ev
open Go.ChangeShapes Go.WideShapes Go.ChangeAt Go.RowKit Go.Deep
set_option maxRecDepth 100000

theorem own : ownKnob Tryz.prog.godebug = none := by kernel_rfl
theorem laidOut : laidOutB Tryz.prog = true := by kernel_rfl
theorem cells3 : Tryz.prog.cellsOf 3 = 1 := by kernel_rfl
theorem cells31 : Tryz.prog.cellsOf 24 = 1 := by kernel_rfl
theorem cells37 : Tryz.prog.cellsOf 22 = 1 := by kernel_rfl
theorem cells38 : Tryz.prog.cellsOf 23 = 1 := by kernel_rfl
theorem cells40 : Tryz.prog.cellsOf 26 = 5 := by kernel_rfl
theorem cells85 : Tryz.prog.cellsOf 58 = 2 := by kernel_rfl
theorem cells87 : Tryz.prog.cellsOf 47 = 6 := by kernel_rfl
theorem bytes3 : Tryz.prog.bytesOf 3 = 8 := by kernel_rfl
theorem bytes85 : Tryz.prog.bytesOf 58 = 16 := by kernel_rfl
theorem bytes87 : Tryz.prog.bytesOf 47 = 48 := by kernel_rfl

section
variable {H : Type} {enc : TypeId × Value → H} {W : World} {base : Nat} {sp : Nat → Bool} {held : Bool} {fuel : Nat} {v : Value} {x : DataW H × List MemPlace}

theorem weigh {t e : TypeId} {es ss : List (DataW H)} (hu : Tryz.prog.underlying t = some (.slice e)) (h : ((DataW.slice es ss).weights Tryz.prog t).all (· ≤ reachBytes) = true) : es.length * Tryz.prog.bytesOf e ≤ reachBytes := by
  have h1 := List.all_eq_true.1 h ((es.length + ss.length) * Tryz.prog.bytesOf e) (by simp [DataW.weights, hu])
  have h2 : (es.length + ss.length) * Tryz.prog.bytesOf e ≤ reachBytes := by simpa using h1
  exact Nat.le_trans (Nat.mul_le_mul_right _ (Nat.le_add_right _ _)) h2

theorem in_ints (h : DataW.trod enc Tryz.prog W base sp held fuel 24 [v] = some x) :
    ∃ p c l, v = .slice p (List.length l) c ∧ (p = none → c = 0) ∧ IntsAt W p l ∧ ((x.1.weights Tryz.prog 24).all (· ≤ reachBytes) = true → l.length ≤ 17592186043904) := by
  rcases open_ints Tryz.underlying24 Tryz.underlying3 cells3 h with ⟨hcs, hx⟩ | ⟨a, len, cap, zs, hcs, _, hl, hm, hz, hx, hcell, _⟩
  · simp at hcs
    exact ⟨none, 0, [], hcs, fun _ => rfl, fun h => by simp at h, fun _ => by simp⟩
  · simp at hcs
    have hlz : len ≤ zs.length := by rw [hz]; split <;> omega
    refine ⟨some a, cap, zs.take len, by rw [hcs, List.length_take, Nat.min_eq_left hlz], (fun h => by cases h), ?_, ?_⟩
    · intro h0
      rw [List.length_take, Nat.min_eq_left hlz] at h0
      obtain ⟨b, off, spot⟩ := a
      have hspot : spot = none := by simpa [Addr.add] using World.cell?_spot (hcell 0 (by omega))
      subst hspot
      refine ⟨b, off, rfl, fun i hi => ?_⟩
      have hi' : i < zs.length := by rw [List.length_take] at hi; omega
      have := hcell i hi'
      rw [Addr.add_lit] at this
      rw [this]
      simp [List.getD, List.getElem?_eq_getElem hi']
    · intro hw
      subst hx
      have := weigh Tryz.underlying24 hw
      rw [bytes3] at this
      simp only [lits, List.length_map, reachBytes] at this
      omega

theorem in_pairs (h : DataW.trod enc Tryz.prog W base sp held fuel 23 [v] = some x) :
    ∃ p c l, v = .slice p (List.length l) c ∧ PairsAt W p l ∧ ((x.1.weights Tryz.prog 23).all (· ≤ reachBytes) = true → l.length ≤ 8796093022208) := by
  rcases open_slice_pairs Tryz.underlying23 Tryz.underlying58 cells85 rfl rfl cells3 cells3 h with ⟨hcs, hx⟩ | ⟨a, len, cap, m, n, V0, V1, D0, D1, P0, P1, hcs, _, hl, hm, hmm, hx, hcell⟩
  · simp at hcs
    exact ⟨none, 0, [], hcs, fun h => by simp at h, fun _ => by simp⟩
  · simp at hcs
    have hlm : len ≤ m := by rw [hmm]; split <;> omega
    have key : ∀ i, i < len → ∃ q : Int × Int, W.cell? (a.add (i * 2)) = some (.int .i64 q.1) ∧ W.cell? (a.add (i * 2 + 1)) = some (.int .i64 q.2) := by
      intro i hi
      obtain ⟨e0, e1, t0, t1⟩ := hcell i (by omega)
      obtain ⟨n0, h0, _⟩ := DataW.trod_int Tryz.underlying3 t0
      obtain ⟨n1, h1, _⟩ := DataW.trod_int Tryz.underlying3 t1
      simp at h0 h1
      exact ⟨(n0, n1), by rw [e0, h0], by rw [e1, h1]⟩
    obtain ⟨F, hF⟩ := choose_lt key
    have hlen : ((List.range len).map F).length = len := by simp
    refine ⟨some a, cap, (List.range len).map F, by rw [hcs, hlen], ?_, ?_⟩
    · intro h0
      rw [hlen] at h0
      obtain ⟨b, off, spot⟩ := a
      have hspot : spot = none := by simpa [Addr.add] using World.cell?_spot (hF 0 (by omega)).1
      subst hspot
      refine ⟨b, off, rfl, fun i hi => ?_⟩
      have hi' : i < len := by rw [hlen] at hi; exact hi
      obtain ⟨e0, e1⟩ := hF i hi'
      rw [Addr.add_lit] at e0 e1
      rw [List.getElem_map, List.getElem_range]
      exact ⟨e0, by rw [Nat.add_assoc]; exact e1⟩
    · intro hw
      subst hx
      have := weigh Tryz.underlying23 hw
      rw [bytes85] at this
      simp only [List.length_map, List.length_range, reachBytes] at this
      rw [hlen]
      omega

set_option maxRecDepth 100000 in
theorem in_nodes (h : DataW.trod enc Tryz.prog W base sp held fuel 22 [v] = some x) :
    ∃ p c l, v = .slice p (List.length l) c ∧ NodesAt W p l ∧ ((x.1.weights Tryz.prog 22).all (· ≤ reachBytes) = true → l.length ≤ 2932031007402) := by
  have _inh : Inhabited Nd := ⟨⟨0, 0, 0, 0, 0, 0⟩⟩
  rcases open_slice Tryz.underlying22 h with ⟨hcs, hx⟩ | ⟨a, len, cap, m, n, D, Pl, hcs, _, hl, hm, hmm, hx, hcell⟩
  · simp at hcs
    exact ⟨none, 0, [], hcs, fun h => by simp at h, fun _ => by simp⟩
  · simp at hcs
    have hlm : len ≤ m := by rw [hmm]; split <;> omega
    have key : ∀ i, i < len → ∃ q : Nd, W.cell? (a.add (i * 6 + 0)) = some (.int .i64 q.kind) ∧ W.cell? (a.add (i * 6 + 1)) = some (.int .i64 q.width) ∧ W.cell? (a.add (i * 6 + 2)) = some (.int .i64 q.a) ∧
        W.cell? (a.add (i * 6 + 3)) = some (.int .i64 q.b) ∧ W.cell? (a.add (i * 6 + 4)) = some (.int .i64 q.c) ∧ W.cell? (a.add (i * 6 + 5)) = some (.int .i64 q.n) := by
      intro i hi
      obtain ⟨cs, hc, ht⟩ := hcell i (by omega)
      rw [cells87] at hc
      obtain ⟨_, hlen, hat⟩ := World.cells?_some hc
      obtain ⟨y, q, _, _, _, hl6, hx6⟩ := DataW.trod_struct Tryz.underlying47 ht
      have hl6' : y.length = 6 := hl6
      match cs, hlen with
      | [w0, w1, w2, w3, w4, w5], _ =>
        have e0 := hx6 0 _ rfl
        have e1 := hx6 1 _ rfl
        have e2 := hx6 2 _ rfl
        have e3 := hx6 3 _ rfl
        have e4 := hx6 4 _ rfl
        have e5 := hx6 5 _ rfl
        rw [List.getElem?_eq_getElem (by omega)] at e0 e1 e2 e3 e4 e5
        obtain ⟨n0, h0, _⟩ := DataW.trod_int Tryz.underlying3 e0
        obtain ⟨n1, h1, _⟩ := DataW.trod_int Tryz.underlying3 e1
        obtain ⟨n2, h2, _⟩ := DataW.trod_int Tryz.underlying3 e2
        obtain ⟨n3, h3, _⟩ := DataW.trod_int Tryz.underlying3 e3
        obtain ⟨n4, h4, _⟩ := DataW.trod_int Tryz.underlying3 e4
        obtain ⟨n5, h5, _⟩ := DataW.trod_int Tryz.underlying3 e5
        simp [cells3] at h0 h1 h2 h3 h4 h5
        subst h0 h1 h2 h3 h4 h5
        have g : ∀ j, (a.add (i * 6)).add j = a.add (i * 6 + j) := fun j => Go.Deep.add_add _ _ _
        refine ⟨⟨n0, n1, n2, n3, n4, n5⟩, ?_, ?_, ?_, ?_, ?_, ?_⟩
        · have := hat 0 (by omega); rw [g] at this; exact this
        · have := hat 1 (by omega); rw [g] at this; exact this
        · have := hat 2 (by omega); rw [g] at this; exact this
        · have := hat 3 (by omega); rw [g] at this; exact this
        · have := hat 4 (by omega); rw [g] at this; exact this
        · have := hat 5 (by omega); rw [g] at this; exact this
    obtain ⟨F, hF⟩ := choose_lt key
    have hlen : ((List.range len).map F).length = len := by simp
    refine ⟨some a, cap, (List.range len).map F, by rw [hcs, hlen], ?_, ?_⟩
    · intro h0
      rw [hlen] at h0
      obtain ⟨b, off, spot⟩ := a
      have hspot : spot = none := by simpa [Addr.add] using World.cell?_spot (hF 0 (by omega)).1
      subst hspot
      refine ⟨b, off, rfl, fun i hi => ?_⟩
      have hi' : i < len := by rw [hlen] at hi; exact hi
      obtain ⟨e0, e1, e2, e3, e4, e5⟩ := hF i hi'
      rw [Addr.add_lit] at e0 e1 e2 e3 e4 e5
      rw [List.getElem_map, List.getElem_range]
      refine ⟨e0, ?_, ?_, ?_, ?_, ?_⟩ <;> rw [Nat.add_assoc] <;> assumption
    · intro hw
      subst hx
      have := weigh Tryz.underlying22 hw
      rw [bytes87] at this
      simp only [List.length_map, List.length_range, reachBytes] at this
      rw [hlen]
      omega

end

/-- A model that came in, and how long its lists may be. -/
structure MIn (W : World) (v : Value) (small : Prop) where
  a0 : Option Addr
  a1 : Option Addr
  a2 : Option Addr
  a3 : Option Addr
  a4 : Option Addr
  c0 : Nat
  c1 : Nat
  c2 : Nat
  c3 : Nat
  c4 : Nat
  ns : List Nd
  is : List (Int × Int)
  xs : List (Int × Int)
  bs : List Int
  hs : List Int
  val : v = Mv.val ⟨a0, c0, a1, is.length, c1, a2, xs.length, c2, a3, bs.length, c3, a4, hs.length, c4⟩ ns.length
  nodes : NodesAt W a0 ns
  inits : PairsAt W a1 is
  nexts : PairsAt W a2 xs
  bads : IntsAt W a3 bs
  holds : IntsAt W a4 hs
  n3 : a3 = none → c3 = 0
  n4 : a4 = none → c4 = 0
  ln : small → ns.length ≤ 2932031007402
  li : small → is.length ≤ 8796093022208
  lx : small → xs.length ≤ 8796093022208
  lb : small → bs.length ≤ 17592186043904
  lh : small → hs.length ≤ 17592186043904

theorem five {α : Type} {cs : Array α} (h : cs.size = 5) : ∃ c0 c1 c2 c3 c4, cs = #[c0, c1, c2, c3, c4] := by
  obtain ⟨l⟩ := cs
  match l, h with
  | [a, b, c, d, e], _ => exact ⟨a, b, c, d, e, rfl⟩

set_option maxRecDepth 100000 in
theorem in_model {H : Type} {enc : TypeId × Value → H} {W : World} {r : Reach} {b0 base : Nat} {sp : Nat → Bool} {held : Bool} {v : Value} {d : DataW H} {p : List MemPlace}
    (hv : Value.okWide Tryz.prog W r b0 26 v) (h : DataW.Trod enc Tryz.prog W base sp held 26 v d p) : Nonempty (MIn W v ((d.weights Tryz.prog 26).all (· ≤ reachBytes) = true)) := by
  obtain ⟨cs, rfl, hsz⟩ := okWide_struct Tryz.underlying26 hv
  obtain ⟨v0, v1, v2, v3, v4, rfl⟩ := five (hsz.trans cells40)
  obtain ⟨fuel, hf⟩ := h
  simp only [Value.cells] at hf
  obtain ⟨y, m, _, hxy, _, hl, hx⟩ := DataW.trod_struct Tryz.underlying26 hf
  have hl5 : y.length = 5 := hl
  match y, hl5 with
  | [y0, y1, y2, y3, y4], _ =>
    have e0 := hx 0 _ rfl
    have e1 := hx 1 _ rfl
    have e2 := hx 2 _ rfl
    have e3 := hx 3 _ rfl
    have e4 := hx 4 _ rfl
    simp [cells37] at e0
    simp [cells38] at e1 e2
    simp [cells31] at e3 e4
    obtain ⟨a0, c0, ns, rfl, H0, L0⟩ := in_nodes e0
    obtain ⟨a1, c1, is, rfl, H1, L1⟩ := in_pairs e1
    obtain ⟨a2, c2, xs, rfl, H2, L2⟩ := in_pairs e2
    obtain ⟨a3, c3, bs, rfl, N3, H3, L3⟩ := in_ints e3
    obtain ⟨a4, c4, hs, rfl, N4, H4, L4⟩ := in_ints e4
    have hd : d = .agg [y0.1, y1.1, y2.1, y3.1, y4.1] := by simpa using congrArg Prod.fst hxy
    have hW : (d.weights Tryz.prog 26).all (· ≤ reachBytes) = true → (y0.1.weights Tryz.prog 22).all (· ≤ reachBytes) = true ∧ (y1.1.weights Tryz.prog 23).all (· ≤ reachBytes) = true ∧ (y2.1.weights Tryz.prog 23).all (· ≤ reachBytes) = true ∧ (y3.1.weights Tryz.prog 24).all (· ≤ reachBytes) = true ∧ (y4.1.weights Tryz.prog 24).all (· ≤ reachBytes) = true := by
      intro hs
      rw [hd] at hs
      simp only [DataW.weights, Tryz.underlying26, List.map_cons, List.map_nil, DataW.weightsEach, List.all_append, Bool.and_eq_true] at hs
      obtain ⟨s0, s1, s2, s3, s4, _⟩ := hs
      exact ⟨s0, s1, s2, s3, s4⟩
    exact ⟨⟨a0, a1, a2, a3, a4, c0, c1, c2, c3, c4, ns, is, xs, bs, hs, rfl, H0, H1, H2, H3, H4, N3, N4, fun s => L0 (hW s).1, fun s => L1 (hW s).2.1, fun s => L2 (hW s).2.2.1, fun s => L3 (hW s).2.2.2.1, fun s => L4 (hW s).2.2.2.2⟩⟩

end Go.Proofs.YtabnimgpednhjaaGreatDoor.Ev
