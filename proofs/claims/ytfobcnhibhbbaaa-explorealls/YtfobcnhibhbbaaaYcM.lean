/- What a model is that comes in. -/
import Derived.Test.YtfobcnhibhbbaaaRows
import Derived.Test.YtfobcnhibhbbaaaMn
import Derived.ProofKit
import Derived.SizedLaws
import Derived.OpenShut
import Derived.ChangeOld
import Derived.Below
import Derived.Deep.Slices
import Derived.Deep.SlicePairs
import Derived.Test.YtfobcnhibhbbaaaWa
namespace Go.Proofs.Ytfobcnhibhbbaaa
open Go.ChangeShapes Go.WideShapes Go.ChangeAt Go.RowKit Go.Deep
set_option maxRecDepth 100000

theorem own : ownKnob Try.prog.godebug = none := by kernel_rfl
theorem laidOut : laidOutB Try.prog = true := by kernel_rfl
theorem cells3 : Try.prog.cellsOf 3 = 1 := by kernel_rfl
theorem cells31 : Try.prog.cellsOf 24 = 1 := by kernel_rfl
theorem cells37 : Try.prog.cellsOf 22 = 1 := by kernel_rfl
theorem cells38 : Try.prog.cellsOf 23 = 1 := by kernel_rfl
theorem cells40 : Try.prog.cellsOf 26 = 5 := by kernel_rfl
theorem cells85 : Try.prog.cellsOf 62 = 2 := by kernel_rfl
theorem cells87 : Try.prog.cellsOf 65 = 6 := by kernel_rfl
theorem bytes3 : Try.prog.bytesOf 3 = 8 := by kernel_rfl
theorem bytes85 : Try.prog.bytesOf 62 = 16 := by kernel_rfl
theorem bytes87 : Try.prog.bytesOf 65 = 48 := by kernel_rfl

section
variable {H : Type} {enc : TypeId × Value → H} {W : World} {base : Nat} {sp : Nat → Bool} {held : Bool} {fuel : Nat} {v : Value} {x : DataW H × List MemPlace}

theorem weigh {t e : TypeId} {es ss : List (DataW H)} (hu : Try.prog.underlying t = some (.slice e)) (h : ((DataW.slice es ss).weights Try.prog t).all (· ≤ reachBytes) = true) : es.length * Try.prog.bytesOf e ≤ reachBytes := by
  have h1 := List.all_eq_true.1 h ((es.length + ss.length) * Try.prog.bytesOf e) (by simp [DataW.weights, hu])
  have h2 : (es.length + ss.length) * Try.prog.bytesOf e ≤ reachBytes := by simpa using h1
  exact Nat.le_trans (Nat.mul_le_mul_right _ (Nat.le_add_right _ _)) h2

theorem in_ints (h : DataW.trod enc Try.prog W base sp held fuel 24 [v] = some x) :
    ∃ p c l, v = .slice p (List.length l) c ∧ (p = none → c = 0) ∧ IntsAt W p l ∧ ((x.1.weights Try.prog 24).all (· ≤ reachBytes) = true → l.length ≤ 17592186043904) := by
  rcases open_ints Try.underlying24 Try.underlying3 cells3 h with ⟨hcs, hx⟩ | ⟨a, len, cap, zs, hcs, _, hl, hm, hz, hx, hcell, _⟩
  · simp at hcs
    exact ⟨none, 0, [], hcs, fun _ => rfl, fun h => by simp at h, fun _ => by simp⟩
  · simp at hcs
    have hlz : len ≤ zs.length := by rw [hz]; split <;> omega
    refine ⟨some a, cap, zs.take len, by rw [hcs, List.length_take, Nat.min_eq_left hlz], (fun h => by cases h), ?_, ?_⟩
    · intro h0
      rw [List.length_take, Nat.min_eq_left hlz] at h0
      obtain ⟨b, off, spot⟩ := a
      have hspot : spot = none := by simpa [Addr.add] using World.cell?_spot (hcell 0 (by omega))
      subst hspot
      refine ⟨b, off, rfl, fun i hi => ?_⟩
      have hi' : i < zs.length := by rw [List.length_take] at hi; omega
      have := hcell i hi'
      rw [Addr.add_lit] at this
      rw [this]
      simp [List.getD, List.getElem?_eq_getElem hi']
    · intro hw
      subst hx
      have := weigh Try.underlying24 hw
      rw [bytes3] at this
      simp only [lits, List.length_map, reachBytes] at this
      omega

theorem in_pairs (h : DataW.trod enc Try.prog W base sp held fuel 23 [v] = some x) :
    ∃ p c l, v = .slice p (List.length l) c ∧ PairsAt W p l ∧ ((x.1.weights Try.prog 23).all (· ≤ reachBytes) = true → l.length ≤ 8796093022208) := by
  rcases open_slice_pairs Try.underlying23 Try.underlying62 cells85 rfl rfl cells3 cells3 h with ⟨hcs, hx⟩ | ⟨a, len, cap, m, n, V0, V1, D0, D1, P0, P1, hcs, _, hl, hm, hmm, hx, hcell⟩
  · simp at hcs
    exact ⟨none, 0, [], hcs, fun h => by simp at h, fun _ => by simp⟩
  · simp at hcs
    have hlm : len ≤ m := by rw [hmm]; split <;> omega
    have key : ∀ i, i < len → ∃ q : Int × Int, W.cell? (a.add (i * 2)) = some (.int .i64 q.1) ∧ W.cell? (a.add (i * 2 + 1)) = some (.int .i64 q.2) := by
      intro i hi
      obtain ⟨e0, e1, t0, t1⟩ := hcell i (by omega)
      obtain ⟨n0, h0, _⟩ := DataW.trod_int Try.underlying3 t0
      obtain ⟨n1, h1, _⟩ := DataW.trod_int Try.underlying3 t1
      simp at h0 h1
      exact ⟨(n0, n1), by rw [e0, h0], by rw [e1, h1]⟩
    obtain ⟨F, hF⟩ := choose_lt key
    have hlen : ((List.range len).map F).length = len := by simp
    refine ⟨some a, cap, (List.range len).map F, by rw [hcs, hlen], ?_, ?_⟩
    · intro h0
      rw [hlen] at h0
      obtain ⟨b, off, spot⟩ := a
      have hspot : spot = none := by simpa [Addr.add] using World.cell?_spot (hF 0 (by omega)).1
      subst hspot
      refine ⟨b, off, rfl, fun i hi => ?_⟩
      have hi' : i < len := by rw [hlen] at hi; exact hi
      obtain ⟨e0, e1⟩ := hF i hi'
      rw [Addr.add_lit] at e0 e1
      rw [List.getElem_map, List.getElem_range]
      exact ⟨e0, by rw [Nat.add_assoc]; exact e1⟩
    · intro hw
      subst hx
      have := weigh Try.underlying23 hw
      rw [bytes85] at this
      simp only [List.length_map, List.length_range, reachBytes] at this
      rw [hlen]
      omega

set_option maxRecDepth 100000 in
theorem in_nodes (h : DataW.trod enc Try.prog W base sp held fuel 22 [v] = some x) :
    ∃ p c l, v = .slice p (List.length l) c ∧ NodesAt W p l ∧ ((x.1.weights Try.prog 22).all (· ≤ reachBytes) = true → l.length ≤ 2932031007402) := by
  have _inh : Inhabited Nd := ⟨⟨0, 0, 0, 0, 0, 0⟩⟩
  rcases open_slice Try.underlying22 h with ⟨hcs, hx⟩ | ⟨a, len, cap, m, n, D, Pl, hcs, _, hl, hm, hmm, hx, hcell⟩
  · simp at hcs
    exact ⟨none, 0, [], hcs, fun h => by simp at h, fun _ => by simp⟩
  · simp at hcs
    have hlm : len ≤ m := by rw [hmm]; split <;> omega
    have key : ∀ i, i < len → ∃ q : Nd, W.cell? (a.add (i * 6 + 0)) = some (.int .i64 q.kind) ∧ W.cell? (a.add (i * 6 + 1)) = some (.int .i64 q.width) ∧ W.cell? (a.add (i * 6 + 2)) = some (.int .i64 q.a) ∧
        W.cell? (a.add (i * 6 + 3)) = some (.int .i64 q.b) ∧ W.cell? (a.add (i * 6 + 4)) = some (.int .i64 q.c) ∧ W.cell? (a.add (i * 6 + 5)) = some (.int .i64 q.n) := by
      intro i hi
      obtain ⟨cs, hc, ht⟩ := hcell i (by omega)
      rw [cells87] at hc
      obtain ⟨_, hlen, hat⟩ := World.cells?_some hc
      obtain ⟨y, q, _, _, _, hl6, hx6⟩ := DataW.trod_struct Try.underlying65 ht
      have hl6' : y.length = 6 := hl6
      match cs, hlen with
      | [w0, w1, w2, w3, w4, w5], _ =>
        have e0 := hx6 0 _ rfl
        have e1 := hx6 1 _ rfl
        have e2 := hx6 2 _ rfl
        have e3 := hx6 3 _ rfl
        have e4 := hx6 4 _ rfl
        have e5 := hx6 5 _ rfl
        rw [List.getElem?_eq_getElem (by omega)] at e0 e1 e2 e3 e4 e5
        obtain ⟨n0, h0, _⟩ := DataW.trod_int Try.underlying3 e0
        obtain ⟨n1, h1, _⟩ := DataW.trod_int Try.underlying3 e1
        obtain ⟨n2, h2, _⟩ := DataW.trod_int Try.underlying3 e2
        obtain ⟨n3, h3, _⟩ := DataW.trod_int Try.underlying3 e3
        obtain ⟨n4, h4, _⟩ := DataW.trod_int Try.underlying3 e4
        obtain ⟨n5, h5, _⟩ := DataW.trod_int Try.underlying3 e5
        simp [cells3] at h0 h1 h2 h3 h4 h5
        subst h0 h1 h2 h3 h4 h5
        have g : ∀ j, (a.add (i * 6)).add j = a.add (i * 6 + j) := fun j => Go.Deep.add_add _ _ _
        refine ⟨⟨n0, n1, n2, n3, n4, n5⟩, ?_, ?_, ?_, ?_, ?_, ?_⟩
        · have := hat 0 (by omega); rw [g] at this; exact this
        · have := hat 1 (by omega); rw [g] at this; exact this
        · have := hat 2 (by omega); rw [g] at this; exact this
        · have := hat 3 (by omega); rw [g] at this; exact this
        · have := hat 4 (by omega); rw [g] at this; exact this
        · have := hat 5 (by omega); rw [g] at this; exact this
    obtain ⟨F, hF⟩ := choose_lt key
    have hlen : ((List.range len).map F).length = len := by simp
    refine ⟨some a, cap, (List.range len).map F, by rw [hcs, hlen], ?_, ?_⟩
    · intro h0
      rw [hlen] at h0
      obtain ⟨b, off, spot⟩ := a
      have hspot : spot = none := by simpa [Addr.add] using World.cell?_spot (hF 0 (by omega)).1
      subst hspot
      refine ⟨b, off, rfl, fun i hi => ?_⟩
      have hi' : i < len := by rw [hlen] at hi; exact hi
      obtain ⟨e0, e1, e2, e3, e4, e5⟩ := hF i hi'
      rw [Addr.add_lit] at e0 e1 e2 e3 e4 e5
      rw [List.getElem_map, List.getElem_range]
      refine ⟨e0, ?_, ?_, ?_, ?_, ?_⟩ <;> rw [Nat.add_assoc] <;> assumption
    · intro hw
      subst hx
      have := weigh Try.underlying22 hw
      rw [bytes87] at this
      simp only [List.length_map, List.length_range, reachBytes] at this
      rw [hlen]
      omega

end

/-- A model that came in, and how long its lists may be. -/
structure MIn (W : World) (v : Value) (small : Prop) where
  a0 : Option Addr
  a1 : Option Addr
  a2 : Option Addr
  a3 : Option Addr
  a4 : Option Addr
  c0 : Nat
  c1 : Nat
  c2 : Nat
  c3 : Nat
  c4 : Nat
  ns : List Nd
  is : List (Int × Int)
  xs : List (Int × Int)
  bs : List Int
  hs : List Int
  val : v = Mv.val ⟨a0, c0, a1, is.length, c1, a2, xs.length, c2, a3, bs.length, c3, a4, hs.length, c4⟩ ns.length
  nodes : NodesAt W a0 ns
  inits : PairsAt W a1 is
  nexts : PairsAt W a2 xs
  bads : IntsAt W a3 bs
  holds : IntsAt W a4 hs
  n3 : a3 = none → c3 = 0
  n4 : a4 = none → c4 = 0
  ln : small → ns.length ≤ 2932031007402
  li : small → is.length ≤ 8796093022208
  lx : small → xs.length ≤ 8796093022208
  lb : small → bs.length ≤ 17592186043904
  lh : small → hs.length ≤ 17592186043904

theorem five {α : Type} {cs : Array α} (h : cs.size = 5) : ∃ c0 c1 c2 c3 c4, cs = #[c0, c1, c2, c3, c4] := by
  obtain ⟨l⟩ := cs
  match l, h with
  | [a, b, c, d, e], _ => exact ⟨a, b, c, d, e, rfl⟩

set_option maxRecDepth 100000 in
theorem in_model {H : Type} {enc : TypeId × Value → H} {W : World} {r : Reach} {b0 base : Nat} {sp : Nat → Bool} {held : Bool} {v : Value} {d : DataW H} {p : List MemPlace}
    (hv : Value.okWide Try.prog W r b0 26 v) (h : DataW.Trod enc Try.prog W base sp held 26 v d p) : Nonempty (MIn W v ((d.weights Try.prog 26).all (· ≤ reachBytes) = true)) := by
  obtain ⟨cs, rfl, hsz⟩ := okWide_struct Try.underlying26 hv
  obtain ⟨v0, v1, v2, v3, v4, rfl⟩ := five (hsz.trans cells40)
  obtain ⟨fuel, hf⟩ := h
  simp only [Value.cells] at hf
  obtain ⟨y, m, _, hxy, _, hl, hx⟩ := DataW.trod_struct Try.underlying26 hf
  have hl5 : y.length = 5 := hl
  match y, hl5 with
  | [y0, y1, y2, y3, y4], _ =>
    have e0 := hx 0 _ rfl
    have e1 := hx 1 _ rfl
    have e2 := hx 2 _ rfl
    have e3 := hx 3 _ rfl
    have e4 := hx 4 _ rfl
    simp [cells37] at e0
    simp [cells38] at e1 e2
    simp [cells31] at e3 e4
    obtain ⟨a0, c0, ns, rfl, H0, L0⟩ := in_nodes e0
    obtain ⟨a1, c1, is, rfl, H1, L1⟩ := in_pairs e1
    obtain ⟨a2, c2, xs, rfl, H2, L2⟩ := in_pairs e2
    obtain ⟨a3, c3, bs, rfl, N3, H3, L3⟩ := in_ints e3
    obtain ⟨a4, c4, hs, rfl, N4, H4, L4⟩ := in_ints e4
    have hd : d = .agg [y0.1, y1.1, y2.1, y3.1, y4.1] := by simpa using congrArg Prod.fst hxy
    have hW : (d.weights Try.prog 26).all (· ≤ reachBytes) = true → (y0.1.weights Try.prog 22).all (· ≤ reachBytes) = true ∧ (y1.1.weights Try.prog 23).all (· ≤ reachBytes) = true ∧ (y2.1.weights Try.prog 23).all (· ≤ reachBytes) = true ∧ (y3.1.weights Try.prog 24).all (· ≤ reachBytes) = true ∧ (y4.1.weights Try.prog 24).all (· ≤ reachBytes) = true := by
      intro hs
      rw [hd] at hs
      simp only [DataW.weights, Try.underlying26, List.map_cons, List.map_nil, DataW.weightsEach, List.all_append, Bool.and_eq_true] at hs
      obtain ⟨s0, s1, s2, s3, s4, _⟩ := hs
      exact ⟨s0, s1, s2, s3, s4⟩
    exact ⟨⟨a0, a1, a2, a3, a4, c0, c1, c2, c3, c4, ns, is, xs, bs, hs, rfl, H0, H1, H2, H3, H4, N3, N4, fun s => L0 (hW s).1, fun s => L1 (hW s).2.1, fun s => L2 (hW s).2.2.1, fun s => L3 (hW s).2.2.2.1, fun s => L4 (hW s).2.2.2.2⟩⟩

end Go.Proofs.Ytfobcnhibhbbaaa

namespace Go.Proofs.Ytfobcnhibhbbaaa
open Go.ChangeShapes Go.WideShapes Go.ChangeAt Go.RowKit Go.Deep
set_option maxRecDepth 100000

section
variable {H : Type} {enc : TypeId × Value → H} {W : World} {base : Nat} {sp : Nat → Bool} {held : Bool} {fuel : Nat} {v : Value} {x : DataW H × List MemPlace}

theorem in_intsC (h : DataW.trod enc Try.prog W base sp held fuel 24 [v] = some x) :
    ∃ p c l, v = .slice p (List.length l) c ∧ (p = none → c = 0) ∧ IntsAt W p l ∧ ((x.1.weights Try.prog 24).all (· ≤ reachBytes) = true → l.length ≤ 17592186043904) ∧ l.length ≤ c ∧ c ≤ maxLen := by
  rcases open_ints Try.underlying24 Try.underlying3 cells3 h with ⟨hcs, hx⟩ | ⟨a, len, cap, zs, hcs, _, hl, hm, hz, hx, hcell, _⟩
  · simp at hcs
    exact ⟨none, 0, [], hcs, fun _ => rfl, (fun h => by simp at h), (fun _ => by simp), by simp, by simp⟩
  · simp at hcs
    have hlz : len ≤ zs.length := by rw [hz]; split <;> omega
    refine ⟨some a, cap, zs.take len, by rw [hcs, List.length_take, Nat.min_eq_left hlz], (fun h => by cases h), ?_, ?_, by rw [List.length_take]; omega, hm⟩
    · intro h0
      rw [List.length_take, Nat.min_eq_left hlz] at h0
      obtain ⟨b, off, spot⟩ := a
      have hspot : spot = none := by simpa [Addr.add] using World.cell?_spot (hcell 0 (by omega))
      subst hspot
      refine ⟨b, off, rfl, fun i hi => ?_⟩
      have hi' : i < zs.length := by rw [List.length_take] at hi; omega
      have := hcell i hi'
      rw [Addr.add_lit] at this
      rw [this]
      simp [List.getD, List.getElem?_eq_getElem hi']
    · intro hw
      subst hx
      have := weigh Try.underlying24 hw
      rw [bytes3] at this
      simp only [lits, List.length_map, reachBytes] at this
      omega

end

end Go.Proofs.Ytfobcnhibhbbaaa

namespace Go.Proofs.Ytfobcnhibhbbaaa.Xp

/-- A state: its words. -/
abbrev Sg : Type := List Int
/-- By so many steps: from where it begins, by moves that may be taken. -/
def Reach (ini : List Sg) (mv : Sg → List (Bool × Bool × Sg)) : Nat → Sg → Prop
 | 0, s => s ∈ ini
 | k + 1, t => ∃ s b, Reach ini mv k s ∧ (true, b, t) ∈ mv s
theorem Reach.zero {ini : List Sg} {mv : Sg → List (Bool × Bool × Sg)} {s : Sg} (h : s ∈ ini) : Reach ini mv 0 s := h
theorem Reach.step {ini : List Sg} {mv : Sg → List (Bool × Bool × Sg)} {k : Nat} {s t : Sg} {b : Bool} (h : Reach ini mv k s) (hm : (true, b, t) ∈ mv s) : Reach ini mv (k + 1) t := ⟨s, b, h, hm⟩
theorem Reach.ind {ini : List Sg} {mv : Sg → List (Bool × Bool × Sg)} {motive : ∀ (k : Nat) (s : Sg), Reach ini mv k s → Prop} (zero : ∀ {s : Sg} (h : s ∈ ini), motive 0 s (Reach.zero h)) (step : ∀ {k : Nat} {s t : Sg} {b : Bool} (hr : Reach ini mv k s) (hm : (true, b, t) ∈ mv s), motive k s hr → motive (k + 1) t (Reach.step hr hm)) : ∀ {k : Nat} {s : Sg} (h : Reach ini mv k s), motive k s h
 | 0, _, h => zero h
 | _ + 1, _, ⟨_, _, hr, hm⟩ => step hr hm (Reach.ind zero step hr)
/-- By so many, and no fewer. -/
def Dist (ini : List Sg) (mv : Sg → List (Bool × Bool × Sg)) (k : Nat) (s : Sg) : Prop := Reach ini mv k s ∧ ∀ j, Reach ini mv j s → k ≤ j
theorem Dist.uniq {ini : List Sg} {mv : Sg → List (Bool × Bool × Sg)} {k l : Nat} {s : Sg} (h : Dist ini mv k s) (h2 : Dist ini mv l s) : k = l := by
  have := h.2 l h2.1
  have := h2.2 k h.1
  omega
theorem reach_dist {ini : List Sg} {mv : Sg → List (Bool × Bool × Sg)} : ∀ (k : Nat) {s : Sg}, Reach ini mv k s → ∃ d, d ≤ k ∧ Dist ini mv d s := by
  intro k
  induction k using Nat.strongRecOn with
  | _ k ih =>
    intro s h
    by_cases hl : ∃ j, j < k ∧ Reach ini mv j s
    · obtain ⟨j, hj, hr⟩ := hl
      obtain ⟨d, hd, hD⟩ := ih j hj hr
      exact ⟨d, by omega, hD⟩
    · exact ⟨k, Nat.le_refl _, h, fun j hj => Nat.le_of_not_lt fun hlt => hl ⟨j, hlt, hj⟩⟩
/-- A state is met, by so many steps, if it was not. -/
def meetE (m : List (Sg × Nat)) (s : Sg) (k : Nat) : List (Sg × Nat) := if s ∈ m.map (·.1) then m else m ++ [(s, k)]
theorem meet_mem {m : List (Sg × Nat)} {s : Sg} {k : Nat} : s ∈ (meetE m s k).map (·.1) := by
  unfold meetE
  split
  · assumption
  · simp
theorem meet_pre (m : List (Sg × Nat)) (s : Sg) (k : Nat) : m <+: meetE m s k := by
  unfold meetE
  split
  · exact List.prefix_refl _
  · exact List.prefix_append _ _
theorem pre_in {m m' : List (Sg × Nat)} (h : m <+: m') {s : Sg} (hs : s ∈ m.map (·.1)) : s ∈ m'.map (·.1) := by
  obtain ⟨t, rfl⟩ := h
  rw [List.map_append]
  exact List.mem_append.2 (.inl hs)
theorem pre_at {m m' : List (Sg × Nat)} (h : m <+: m') {i : Nat} {x : Sg × Nat} (hx : m[i]? = some x) : m'[i]? = some x := by
  obtain ⟨t, rfl⟩ := h
  rw [List.getElem?_append_left (List.getElem?_eq_some_iff.1 hx).1]
  exact hx
/-- What is so while states are left: q of those that were met have been. -/
structure Jb (ini : List Sg) (mv : Sg → List (Bool × Bool × Sg)) (m : List (Sg × Nat)) (q : Nat) : Prop where
  nd : (m.map (·.1)).Nodup
  ds : ∀ x ∈ m, Dist ini mv x.2 x.1
  st : ∀ (i j : Nat) (a b : Sg × Nat), i ≤ j → m[i]? = some a → m[j]? = some b → a.2 ≤ b.2
  cl : ∀ (i : Nat) (a : Sg × Nat), i < q → m[i]? = some a → ∀ b t, (true, b, t) ∈ mv a.1 → t ∈ m.map (·.1)
  it : ∀ s ∈ ini, s ∈ m.map (·.1)
  up : ∀ a : Sg × Nat, m[q]? = some a → ∀ x ∈ m, x.2 ≤ a.2 + 1
  ql : q ≤ m.length
section
variable {ini : List Sg} {mv : Sg → List (Bool × Bool × Sg)} {m : List (Sg × Nat)} {q : Nat}
/-- What is nearer than the one that is left has been met. -/
theorem Jb.near (h : Jb ini mv m q) {a : Sg × Nat} (ha : m[q]? = some a) : ∀ (k : Nat) {t : Sg}, k ≤ a.2 → Reach ini mv k t → t ∈ m.map (·.1) := by
  intro k
  induction k with
  | zero =>
    intro t _ hr
    exact h.it t hr
  | succ k ih =>
    intro t hk hr
    obtain ⟨s, b, hr, hm⟩ := hr
    focus
      obtain ⟨⟨s', d⟩, hx, rfl⟩ := List.mem_map.1 (ih (by omega) hr)
      have hd := (h.ds _ hx).2 _ hr
      obtain ⟨i, hi, e⟩ := List.getElem_of_mem hx
      have hi' : m[i]? = some (s', d) := by rw [List.getElem?_eq_getElem hi, e]
      refine h.cl i (s', d) (Nat.lt_of_not_le fun hle => ?_) hi' b t hm
      have := h.st q i a (s', d) hle ha hi'
      simp only at this hd
      omega
/-- While the q-th is left, by some of its moves. -/
theorem Jb.meet (h : Jb ini mv m q) {a : Sg × Nat} (ha : m[q]? = some a) {b : Bool} {t : Sg} (hm : (true, b, t) ∈ mv a.1) : Jb ini mv (meetE m t (a.2 + 1)) q := by
  unfold meetE
  split
  · exact h
  · rename_i hn
    have haD := h.ds a (List.mem_of_getElem? ha)
    have hap : ∀ {i : Nat} {x : Sg × Nat}, (m ++ [(t, a.2 + 1)])[i]? = some x → m[i]? = some x ∨ (i = m.length ∧ x = (t, a.2 + 1)) := fun {i x} hx => by
      by_cases hi : i < m.length
      · rw [List.getElem?_append_left hi] at hx; exact .inl hx
      · have hil := (List.getElem?_eq_some_iff.1 hx).1
        rw [List.length_append, List.length_singleton] at hil
        obtain rfl : i = m.length := by omega
        simp at hx
        exact .inr ⟨rfl, hx.symm⟩
    have hql : q < m.length := (List.getElem?_eq_some_iff.1 ha).1
    refine ⟨?_, fun x hx => ?_, fun i j x y hij hx hy => ?_, fun i x hi hx b' t' hm' => ?_, fun s hs => ?_, fun x hx y hy => ?_, ?_⟩
    · rw [List.map_append, List.nodup_append]
      refine ⟨h.nd, by simp, fun x hx y hy e => ?_⟩
      simp at hy
      subst hy e
      exact hn hx
    · rcases List.mem_append.1 hx with hx | hx
      · exact h.ds x hx
      · obtain rfl : x = (t, a.2 + 1) := by simpa using hx
        refine ⟨.step haD.1 hm, fun j hj => Nat.lt_of_not_le fun hle => hn (h.near ha j hle hj)⟩
    · rcases hap hx with hx' | ⟨rfl, rfl⟩
      · rcases hap hy with hy' | ⟨rfl, rfl⟩
        · exact h.st i j x y hij hx' hy'
        · exact h.up a ha x (List.mem_of_getElem? hx')
      · rcases hap hy with hy' | ⟨rfl, rfl⟩
        · have := (List.getElem?_eq_some_iff.1 hy').1; omega
        · exact Nat.le_refl _
    · rcases hap hx with hx' | ⟨rfl, rfl⟩
      · rw [List.map_append]; exact List.mem_append.2 (.inl (h.cl i x hi hx' b' t' hm'))
      · omega
    · rw [List.map_append]; exact List.mem_append.2 (.inl (h.it s hs))
    · rw [List.getElem?_append_left hql] at hx
      rw [ha] at hx
      injection hx with hx
      subst hx
      rcases List.mem_append.1 hy with hy | hy
      · exact h.up _ ha y hy
      · obtain rfl : y = (t, a.2 + 1) := by simpa using hy
        exact Nat.le_refl _
    · have := h.ql; simp; omega
/-- When all its moves were taken. -/
theorem Jb.left (h : Jb ini mv m q) {a : Sg × Nat} (ha : m[q]? = some a) (hall : ∀ b t, (true, b, t) ∈ mv a.1 → t ∈ m.map (·.1)) : Jb ini mv m (q + 1) := by
  have hql : q < m.length := (List.getElem?_eq_some_iff.1 ha).1
  refine ⟨h.nd, h.ds, h.st, fun i x hi hx b t hm => ?_, h.it, fun x hx y hy => ?_, hql⟩
  · by_cases e : i = q
    · subst e
      rw [ha] at hx
      injection hx with hx
      subst hx
      exact hall b t hm
    · exact h.cl i x (by omega) hx b t hm
  · have h1 := h.up a ha y hy
    have h2 := h.st q (q + 1) a x (by omega) ha hx
    omega
/-- When all were left, all that can be was met. -/
theorem Jb.all (h : Jb ini mv m q) (hq : m.length ≤ q) : ∀ (k : Nat) {t : Sg}, Reach ini mv k t → t ∈ m.map (·.1) := by
  intro k t hr
  induction hr using Reach.ind with
  | zero hi => exact h.it _ hi
  | step hr hm ih =>
    obtain ⟨⟨s', d⟩, hx, rfl⟩ := List.mem_map.1 ih
    obtain ⟨i, hi, e⟩ := List.getElem_of_mem hx
    exact h.cl i (s', d) (by omega) (by rw [List.getElem?_eq_getElem hi, e]) _ _ hm
theorem Jb.dist (h : Jb ini mv m q) (hq : m.length ≤ q) {s : Sg} {k : Nat} : (s, k) ∈ m ↔ Dist ini mv k s := by
  constructor
  · intro hx; exact h.ds _ hx
  · intro hd
    obtain ⟨⟨s', d⟩, hx, e⟩ := List.mem_map.1 (h.all hq k hd.1)
    simp only at e
    subst e
    obtain rfl := hd.uniq (h.ds _ hx)
    exact hx
end
/-- Where it begins: all are met by no steps. -/
structure J0 (ini : List Sg) (mv : Sg → List (Bool × Bool × Sg)) (done : List Sg) (m : List (Sg × Nat)) : Prop where
  nd : (m.map (·.1)).Nodup
  z : ∀ x ∈ m, x.2 = 0 ∧ x.1 ∈ ini
  it : ∀ s ∈ done, s ∈ m.map (·.1)
theorem J0.zero (ini : List Sg) (mv : Sg → List (Bool × Bool × Sg)) : J0 ini mv [] [] := ⟨by simp, fun x hx => by simp at hx, fun s hs => by simp at hs⟩
theorem J0.more {ini : List Sg} {mv : Sg → List (Bool × Bool × Sg)} {done : List Sg} {m : List (Sg × Nat)} (h : J0 ini mv done m) {s : Sg} (hs : s ∈ ini) : J0 ini mv (done ++ [s]) (meetE m s 0) := by
  unfold meetE
  split
  · rename_i hin
    refine ⟨h.nd, h.z, fun t ht => ?_⟩
    rcases List.mem_append.1 ht with ht | ht
    · exact h.it t ht
    · obtain rfl : t = s := by simpa using ht
      exact hin
  · rename_i hn
    refine ⟨?_, fun x hx => ?_, fun t ht => ?_⟩
    · rw [List.map_append, List.nodup_append]
      refine ⟨h.nd, by simp, fun x hx y hy e => ?_⟩
      simp at hy
      subst hy e
      exact hn hx
    · rcases List.mem_append.1 hx with hx | hx
      · exact h.z x hx
      · obtain rfl : x = (s, 0) := by simpa using hx
        exact ⟨rfl, hs⟩
    · rw [List.map_append]
      rcases List.mem_append.1 ht with ht | ht
      · exact List.mem_append.2 (.inl (h.it t ht))
      · obtain rfl : t = s := by simpa using ht
        simp
theorem J0.done {ini : List Sg} {mv : Sg → List (Bool × Bool × Sg)} {m : List (Sg × Nat)} (h : J0 ini mv ini m) : Jb ini mv m 0 := by
  refine ⟨h.nd, fun x hx => ?_, fun i j a b _ ha hb => ?_, fun i a hi => by omega, h.it, fun a ha x hx => ?_, Nat.zero_le _⟩
  · obtain ⟨h1, h2⟩ := h.z x hx
    rw [h1]
    exact ⟨.zero h2, fun j _ => Nat.zero_le _⟩
  · rw [(h.z a (List.mem_of_getElem? ha)).1]; exact Nat.zero_le _
  · rw [(h.z x hx).1]; exact Nat.zero_le _
/-- What is bad, as far as states have been left: by how few steps. -/
structure Bb (mv : Sg → List (Bool × Bool × Sg)) (m : List (Sg × Nat)) (q : Nat) (bad : Option Nat) : Prop where
  no : bad = none → ∀ (i : Nat) (a : Sg × Nat), i < q → m[i]? = some a → ∀ t, (true, true, t) ∉ mv a.1
  yes : ∀ k, bad = some k → (∃ (i : Nat) (a : Sg × Nat), i < q ∧ m[i]? = some a ∧ a.2 = k ∧ ∃ t, (true, true, t) ∈ mv a.1) ∧ ∀ (i : Nat) (a : Sg × Nat), i < q → m[i]? = some a → (∃ t, (true, true, t) ∈ mv a.1) → k ≤ a.2
theorem Bb.zero (mv : Sg → List (Bool × Bool × Sg)) (m : List (Sg × Nat)) : Bb mv m 0 none := ⟨fun _ i a hi => by omega, fun k e => by cases e⟩
theorem Bb.grow {mv : Sg → List (Bool × Bool × Sg)} {m m' : List (Sg × Nat)} {q : Nat} {bad : Option Nat} (h : Bb mv m q bad) (hp : m <+: m') (hq : q ≤ m.length) : Bb mv m' q bad := by
  have hb : ∀ {i a}, i < q → m'[i]? = some a → m[i]? = some a := fun {i a} hi ha => by
    have h1 : m[i]? = some m[i] := List.getElem?_eq_getElem (by omega)
    rw [pre_at hp h1] at ha
    rw [h1, ha]
  refine ⟨fun e i a hi ha => h.no e i a hi (hb hi ha), fun k e => ?_⟩
  obtain ⟨⟨i, a, h1, h2, h3⟩, h4⟩ := h.yes k e
  exact ⟨⟨i, a, h1, pre_at hp h2, h3⟩, fun i a hi ha => h4 i a hi (hb hi ha)⟩
theorem Bb.next {ini : List Sg} {mv : Sg → List (Bool × Bool × Sg)} {m : List (Sg × Nat)} {q : Nat} {bad : Option Nat} (h : Bb mv m q bad) (hj : Jb ini mv m q) {a : Sg × Nat} (ha : m[q]? = some a) :
    ((∀ t, (true, true, t) ∉ mv a.1) → Bb mv m (q + 1) bad) ∧ ((∃ t, (true, true, t) ∈ mv a.1) → Bb mv m (q + 1) (if bad.isNone then some a.2 else bad)) := by
  refine ⟨fun hno => ⟨fun e i x hi hx t => ?_, fun k e => ?_⟩, fun hyes => ⟨fun e => ?_, fun k e => ?_⟩⟩
  · by_cases hiq : i = q
    · subst hiq
      rw [ha] at hx
      injection hx with hx
      subst hx
      exact hno t
    · exact h.no e i x (by omega) hx t
  · obtain ⟨⟨i, x, h1, h2, h3⟩, h4⟩ := h.yes k e
    refine ⟨⟨i, x, by omega, h2, h3⟩, fun i x hi hx hb => ?_⟩
    by_cases hiq : i = q
    · subst hiq
      rw [ha] at hx
      injection hx with hx
      subst hx
      obtain ⟨t, ht⟩ := hb
      exact absurd ht (hno t)
    · exact h4 i x (by omega) hx hb
  · cases bad with
    | none => simp at e
    | some k => simp at e
  · cases hb : bad with
    | none =>
      rw [hb] at e
      simp at e
      subst e
      refine ⟨⟨q, a, by omega, ha, rfl, hyes⟩, fun i x hi hx hbx => ?_⟩
      by_cases hiq : i = q
      · subst hiq
        rw [ha] at hx
        injection hx with hx
        subst hx
        exact Nat.le_refl _
      · obtain ⟨t, ht⟩ := hbx
        exact absurd ht (h.no hb i x (by omega) hx t)
    | some k' =>
      rw [hb] at e
      simp at e
      subst e
      obtain ⟨⟨i, x, h1, h2, h3, h5⟩, h4⟩ := h.yes k' hb
      refine ⟨⟨i, x, by omega, h2, h3, h5⟩, fun i' x' hi hx hbx => ?_⟩
      by_cases hiq : i' = q
      · subst hiq
        rw [ha] at hx
        injection hx with hx
        subst hx
        rw [← h3]
        exact hj.st i _ x _ (by omega) h2 ha
      · exact h4 i' x' (by omega) hx hbx
end Go.Proofs.Ytfobcnhibhbbaaa.Xp

namespace Go.Proofs.Ytfobcnhibhbbaaa.Xp

theorem getD_set {d : List Int} {i j : Nat} {v : Int} (hi : i < d.length) : (d.set i v).getD j 0 = if j = i then v else d.getD j 0 := by
  simp only [List.getD, List.getElem?_set]
  by_cases e : i = j
  · subst e; simp [hi]
  · have e' : ¬ j = i := fun h => e h.symm
    simp [e, e']
/-- Where one comes to by a state's moves is as far as that and one. -/
def tosN (n : Int) (d : List Int) : List Int → List Int
  | [] => d
  | to :: r => tosN n (if 0 ≤ to ∧ d.getD to.toNat 0 < 0 then d.set to.toNat (n + 1) else d) r
/-- One layer, of the first k states. -/
def rowN (nx : Nat → List Int) (n : Int) (d : List Int) : Nat → List Int
  | 0 => d
  | k + 1 => if (rowN nx n d k).getD k 0 ≠ n then rowN nx n d k else tosN n (rowN nx n d k) (nx k)
/-- The first k layers. -/
def layN (N : Nat) (nx : Nat → List Int) (d : List Int) : Nat → List Int
  | 0 => d
  | k + 1 => rowN nx k (layN N nx d k) N
/-- Where it begins: by the first k wishes. -/
def iniN (bs : Nat → Nat) (d : List Int) : Nat → List Int
  | 0 => d
  | k + 1 => (iniN bs d k).set (bs k) 0
/-- The numbers tell the states, and their moves. -/
structure Tells (N : Nat) (W : Nat → Sg) (bs : Nat → Nat) (nx : Nat → List Int) (ini : List Sg) (mv : Sg → List (Bool × Bool × Sg)) : Prop where
  inj : ∀ a b, a < N → b < N → W a = W b → a = b
  i0 : ∀ t, t ∈ ini ↔ ∃ s, s < N ∧ t = W (bs s)
  b0 : ∀ s, s < N → bs s < N
  n0 : ∀ s, s < N → ∀ t, t < N → ((t : Int) ∈ nx s ↔ ∃ b, (true, b, W t) ∈ mv (W s))
  cl : ∀ s, s < N → ∀ b t, (true, b, t) ∈ mv (W s) → ∃ u, u < N ∧ t = W u
  rg : ∀ s, s < N → ∀ x ∈ nx s, x < N
/-- What is known of the layers up to the n-th. -/
structure Ly (N : Nat) (W : Nat → Sg) (ini : List Sg) (mv : Sg → List (Bool × Bool × Sg)) (n : Nat) (d : List Int) : Prop where
  len : d.length = N
  at' : ∀ x, x < N → (d.getD x 0 = -1 ∧ ∀ k, k ≤ n → ¬ Reach ini mv k (W x)) ∨ ∃ k : Nat, k ≤ n ∧ d.getD x 0 = k ∧ Dist ini mv k (W x)
section
variable {N : Nat} {W : Nat → Sg} {bs : Nat → Nat} {nx : Nat → List Int} {ini : List Sg} {mv : Sg → List (Bool × Bool × Sg)}
theorem Tells.num (h : Tells N W bs nx ini mv) {k : Nat} {t : Sg} (hr : Reach ini mv k t) : ∃ u, u < N ∧ t = W u := by
  induction hr using Reach.ind with
  | zero hi =>
    obtain ⟨s, hs, rfl⟩ := (h.i0 _).1 hi
    exact ⟨_, h.b0 s hs, rfl⟩
  | step _ hm ih =>
    obtain ⟨u, hu, rfl⟩ := ih
    exact h.cl u hu _ _ hm
theorem ini_ly (h : Tells N W bs nx ini mv) : Ly N W ini mv 0 (iniN bs (List.replicate N (-1)) N) := by
  have hk : ∀ k, k ≤ N → (iniN bs (List.replicate N (-1)) k).length = N ∧ ∀ x, x < N → ((∃ s, s < k ∧ bs s = x) ∧ (iniN bs (List.replicate N (-1)) k).getD x 0 = 0) ∨ ((∀ s, s < k → bs s ≠ x) ∧ (iniN bs (List.replicate N (-1)) k).getD x 0 = -1) := by
    intro k
    induction k with
    | zero => exact fun _ => ⟨by simp [iniN], fun x hx => .inr ⟨fun s hs => by omega, by simp [iniN, List.getD, hx]⟩⟩
    | succ k ih =>
      intro hk
      obtain ⟨h1, h2⟩ := ih (by omega)
      have hb := h.b0 k (by omega)
      refine ⟨by simp [iniN, h1], fun x hx => ?_⟩
      rw [iniN, getD_set (by rw [h1]; exact hb)]
      by_cases e : x = bs k
      · exact .inl ⟨⟨k, by omega, e.symm⟩, by rw [if_pos e]⟩
      · rw [if_neg e]
        rcases h2 x hx with ⟨⟨s, hs, hsx⟩, hd⟩ | ⟨hs, hd⟩
        · exact .inl ⟨⟨s, by omega, hsx⟩, hd⟩
        · refine .inr ⟨fun s hsk => ?_, hd⟩
          by_cases e2 : s = k
          · subst e2; exact fun e3 => e e3.symm
          · exact hs s (by omega)
  obtain ⟨h1, h2⟩ := hk N (Nat.le_refl _)
  refine ⟨h1, fun x hx => ?_⟩
  rcases h2 x hx with ⟨⟨s, hs, hsx⟩, hd⟩ | ⟨hs, hd⟩
  · exact .inr ⟨0, Nat.le_refl _, hd, .zero ((h.i0 _).2 ⟨s, hs, by rw [hsx]⟩), fun _ _ => Nat.zero_le _⟩
  · refine .inl ⟨hd, fun k hk hr => ?_⟩
    obtain rfl : k = 0 := by omega
    have hi : _ ∈ ini := hr
    focus
      obtain ⟨s, hs', e⟩ := (h.i0 _).1 hi
      exact hs s hs' (h.inj _ _ hx (h.b0 s hs') e).symm
/-- While a layer is made: what was before, and what is new. -/
structure Lm (N : Nat) (W : Nat → Sg) (ini : List Sg) (mv : Sg → List (Bool × Bool × Sg)) (n : Nat) (d0 d : List Int) : Prop where
  len : d.length = N
  at' : ∀ x, x < N → d.getD x 0 = d0.getD x 0 ∨ (d0.getD x 0 = -1 ∧ d.getD x 0 = ((n + 1 : Nat) : Int) ∧ Reach ini mv (n + 1) (W x))
theorem tos_lm (h : Tells N W bs nx ini mv) {n s : Nat} (hs : s < N) (hr : Reach ini mv n (W s)) {d0 : List Int} (hl : Ly N W ini mv n d0) (l : List Int) : ∀ {d : List Int}, Lm N W ini mv n d0 d → (∀ x ∈ l, x ∈ nx s) → Lm N W ini mv n d0 (tosN n d l) ∧ (∀ x, x < N → d.getD x 0 ≠ -1 → (tosN n d l).getD x 0 ≠ -1) ∧ ∀ t : Nat, t < N → (t : Int) ∈ l → (tosN n d l).getD t 0 ≠ -1 := by
  induction l with
  | nil => intro d hd _; exact ⟨hd, fun x _ hx => hx, fun t _ ht => by simp at ht⟩
  | cons to r ih =>
    intro d hd hin
    have hto := hin to (by simp)
    have hnr : ∀ y, y < N → d.getD y 0 = -1 → d0.getD y 0 = -1 := fun y hy e => by
      rcases hd.at' y hy with h1 | ⟨h1, _, _⟩
      · rw [← h1]; exact e
      · exact h1
    unfold tosN
    by_cases hc : 0 ≤ to ∧ d.getD to.toNat 0 < 0
    · rw [if_pos hc]
      have htn : to.toNat < N := by have := h.rg s hs to hto; omega
      have htl : to.toNat < d.length := by rw [hd.len]; exact htn
      have hte : ((to.toNat : Nat) : Int) = to := by omega
      have hneg : d.getD to.toNat 0 = -1 := by
        rcases hd.at' _ htn with h1 | ⟨_, h2, _⟩
        · rcases hl.at' _ htn with ⟨h3, _⟩ | ⟨k, _, h3, _⟩
          · rw [h1, h3]
          · rw [h1, h3] at hc; omega
        · rw [h2] at hc; omega
      have hd2 : Lm N W ini mv n d0 (d.set to.toNat ((n : Int) + 1)) := by
        refine ⟨by rw [List.length_set]; exact hd.len, fun x hx => ?_⟩
        rw [getD_set htl]
        by_cases e : x = to.toNat
        · rw [if_pos e]
          refine .inr ⟨by rw [e]; exact hnr _ htn hneg, by omega, ?_⟩
          obtain ⟨b, hb⟩ := (h.n0 s hs x hx).1 (by rw [e, hte]; exact hto)
          exact .step hr hb
        · rw [if_neg e]; exact hd.at' x hx
      obtain ⟨a1, a2, a3⟩ := ih hd2 (fun x hx => hin x (by simp [hx]))
      refine ⟨a1, fun x hx hne => a2 x hx ?_, fun t ht hm => ?_⟩
      · rw [getD_set htl]; split
        · omega
        · exact hne
      · rcases List.mem_cons.1 hm with e | hm
        · refine a2 t ht ?_
          rw [getD_set htl, if_pos (by omega)]
          omega
        · exact a3 t ht hm
    · rw [if_neg hc]
      obtain ⟨a1, a2, a3⟩ := ih hd (fun x hx => hin x (by simp [hx]))
      refine ⟨a1, a2, fun t ht hm => ?_⟩
      rcases List.mem_cons.1 hm with e | hm
      · refine a2 t ht fun e2 => hc ⟨by omega, ?_⟩
        rw [← e, Int.toNat_natCast, e2]; omega
      · exact a3 t ht hm
theorem row_lm (h : Tells N W bs nx ini mv) {n : Nat} {d0 : List Int} (hl : Ly N W ini mv n d0) : ∀ k, k ≤ N → Lm N W ini mv n d0 (rowN nx n d0 k) ∧ ∀ s, s < k → d0.getD s 0 = n → ∀ t : Nat, t < N → (t : Int) ∈ nx s → (rowN nx n d0 k).getD t 0 ≠ -1 := by
  intro k
  induction k with
  | zero => exact fun _ => ⟨⟨hl.len, fun x _ => .inl rfl⟩, fun s hs => by omega⟩
  | succ k ih =>
    intro hk
    obtain ⟨h1, h2⟩ := ih (by omega)
    unfold rowN
    have hkn : k < N := by omega
    by_cases hc : (rowN nx n d0 k).getD k 0 ≠ n
    · rw [if_pos hc]
      refine ⟨h1, fun s hs e t ht hm => ?_⟩
      by_cases esk : s = k
      · subst esk
        exfalso
        rcases h1.at' s hkn with h3 | ⟨h3, _⟩
        · exact hc (h3.trans e)
        · omega
      · exact h2 s (by omega) e t ht hm
    · rw [if_neg hc]
      have hc' : (rowN nx n d0 k).getD k 0 = n := Classical.not_not.1 hc
      have hd0 : d0.getD k 0 = n := by
        rcases h1.at' k hkn with h3 | ⟨_, h3, _⟩
        · rw [← h3]; exact hc'
        · omega
      have hr : Reach ini mv n (W k) := by
        rcases hl.at' k hkn with ⟨h3, _⟩ | ⟨j, _, h3, h4⟩
        · omega
        · obtain rfl : j = n := by omega
          exact h4.1
      obtain ⟨a1, a2, a3⟩ := tos_lm h hkn hr hl (nx k) h1 (fun _ hx => hx)
      refine ⟨a1, fun s hs e t ht hm => ?_⟩
      by_cases esk : s = k
      · subst esk; exact a3 t ht hm
      · exact a2 t ht (h2 s (by omega) e t ht hm)
theorem row_ly (h : Tells N W bs nx ini mv) {n : Nat} {d0 : List Int} (hl : Ly N W ini mv n d0) : Ly N W ini mv (n + 1) (rowN nx n d0 N) := by
  obtain ⟨h1, h2⟩ := row_lm h hl N (Nat.le_refl _)
  refine ⟨h1.len, fun x hx => ?_⟩
  rcases h1.at' x hx with h3 | ⟨h3, h4, h5⟩
  · rcases hl.at' x hx with ⟨h6, h7⟩ | ⟨k, hk, h6, h7⟩
    · refine .inl ⟨h3.trans h6, fun k hk hr => ?_⟩
      by_cases hkn : k ≤ n
      · exact h7 k hkn hr
      · obtain rfl : k = n + 1 := by omega
        generalize hWx : W x = wx at hr
        obtain ⟨s, b, hr, hm⟩ := hr
        focus
          obtain ⟨u, hu, rfl⟩ := h.num hr
          obtain ⟨j, hj, hD⟩ := reach_dist n hr
          have hmem : (x : Int) ∈ nx u := (h.n0 u hu x hx).2 ⟨b, by rw [hWx]; exact hm⟩
          by_cases hjn : j = n
          · subst hjn
            rcases hl.at' u hu with ⟨_, h8⟩ | ⟨k, _, h8, h9⟩
            · exact h8 j (Nat.le_refl _) hD.1
            · obtain rfl := h9.uniq hD
              exact h2 u hu h8 x hx hmem (h3.trans h6)
          · exact h7 (j + 1) (by omega) (by rw [hWx]; exact .step hD.1 hm)
    · exact .inr ⟨k, by omega, h3.trans h6, h7⟩
  · refine .inr ⟨n + 1, Nat.le_refl _, h4, h5, fun j hj => Nat.lt_of_not_le fun hle => ?_⟩
    rcases hl.at' x hx with ⟨_, h7⟩ | ⟨k, _, h6, _⟩
    · exact h7 j hle hj
    · omega
theorem lay_ly (h : Tells N W bs nx ini mv) : ∀ k, Ly N W ini mv k (layN N nx (iniN bs (List.replicate N (-1)) N) k) := by
  intro k
  induction k with
  | zero => exact ini_ly h
  | succ k ih => exact row_ly h ih
theorem filter_both {α : Type} (p : α → Bool) (l : List α) : l.length = (l.filter p).length + (l.filter fun x => !p x).length := by
  induction l with
  | nil => rfl
  | cons a l ih => cases h : p a <;> simp [h] <;> omega
theorem nodup_nat : ∀ (n : Nat) (l : List Nat), l.Nodup → (∀ x ∈ l, x < n) → l.length ≤ n
  | 0, l, _, hx => by
    cases l with
    | nil => simp
    | cons a l => exact absurd (hx a (by simp)) (by omega)
  | n + 1, l, hn, hx => by
    have h1 := nodup_nat n (l.filter (fun x => x != n)) (hn.filter _) (fun x hxm => by
      obtain ⟨h1, h2⟩ := List.mem_filter.1 hxm
      have := hx x h1
      simp at h2
      omega)
    have h2 : l.length ≤ (l.filter (fun x => x != n)).length + 1 := by
      have h3 : (l.filter (fun x => x == n)).length ≤ 1 := by
        have hf := hn.filter (fun x => x == n)
        have ha : ∀ x ∈ l.filter (fun x => x == n), x = n := fun x hx => by simpa using (List.mem_filter.1 hx).2
        generalize l.filter (fun x => x == n) = m at hf ha
        match m, hf, ha with
        | [], _, _ => simp
        | [_], _, _ => simp
        | a :: b :: r, hf, ha =>
          have e1 := ha a (by simp)
          have e2 := ha b (by simp)
          simp [e1, e2] at hf
      have h4 := filter_both (fun x => x == n) l
      have h5 : (l.filter (fun x => !(x == n))).length = (l.filter (fun x => x != n)).length := rfl
      omega
    omega
/-- Each nearer layer has a state. -/
theorem dist_down {k : Nat} {s : Sg} (h : Dist ini mv k s) : ∀ j, j ≤ k → ∃ t, Dist ini mv j t := by
  induction k generalizing s with
  | zero =>
    intro j hj
    obtain rfl : j = 0 := by omega
    exact ⟨s, h⟩
  | succ k ih =>
    intro j hj
    by_cases e : j = k + 1
    · subst e; exact ⟨s, h⟩
    · obtain ⟨hr, hmin⟩ := h
      obtain ⟨u, b, hr, hm⟩ := hr
      focus
        have hu : Dist ini mv k u := ⟨hr, fun i hi => by have := hmin (i + 1) (.step hi hm); omega⟩
        exact ih hu j (by omega)
/-- All that can be is nearer than there are states. -/
theorem dist_lt (h : Tells N W bs nx ini mv) {k : Nat} {s : Sg} (hD : Dist ini mv k s) : k < N := by
  have hex : ∀ j, j ≤ k → ∃ u, u < N ∧ Dist ini mv j (W u) := fun j hj => by
    obtain ⟨t, ht⟩ := dist_down hD j hj
    obtain ⟨u, hu, rfl⟩ := h.num ht.1
    exact ⟨u, hu, ht⟩
  have hf : ∀ j, ∃ u, j ≤ k → u < N ∧ Dist ini mv j (W u) := fun j => by
    by_cases hj : j ≤ k
    · obtain ⟨u, hu⟩ := hex j hj; exact ⟨u, fun _ => hu⟩
    · exact ⟨0, fun h => absurd h hj⟩
  obtain ⟨f, hf⟩ : ∃ f : Nat → Nat, ∀ j, j ≤ k → f j < N ∧ Dist ini mv j (W (f j)) := ⟨fun j => Classical.choose (hf j), fun j hj => Classical.choose_spec (hf j) hj⟩
  have hinj : ((List.range (k + 1)).map f).Nodup := by
    rw [List.nodup_iff_pairwise_ne, List.pairwise_map]
    refine List.Pairwise.imp_of_mem ?_ List.nodup_range
    intro a b ha hb hne e
    have h1 := hf a (by have := List.mem_range.1 ha; omega)
    have h2 := hf b (by have := List.mem_range.1 hb; omega)
    rw [← e] at h2
    exact hne (h1.2.uniq h2.2)
  have := nodup_nat N _ hinj (fun x hx => by
    obtain ⟨j, hj, rfl⟩ := List.mem_map.1 hx
    exact (hf j (by have := List.mem_range.1 hj; omega)).1)
  simp at this
  omega
/-- How far each state is, when all layers were made. -/
theorem lay_all (h : Tells N W bs nx ini mv) {x : Nat} (hx : x < N) : ((layN N nx (iniN bs (List.replicate N (-1)) N) N).getD x 0 = -1 ∧ ∀ k, ¬ Reach ini mv k (W x)) ∨ ∃ k : Nat, (layN N nx (iniN bs (List.replicate N (-1)) N) N).getD x 0 = k ∧ Dist ini mv k (W x) := by
  rcases (lay_ly h N).at' x hx with ⟨h1, h2⟩ | ⟨k, _, h1, h2⟩
  · refine .inl ⟨h1, fun k hr => ?_⟩
    obtain ⟨d, _, hD⟩ := reach_dist k hr
    exact h2 d (Nat.le_of_lt (dist_lt h hD)) hD.1
  · exact .inr ⟨k, h1, h2⟩
end
end Go.Proofs.Ytfobcnhibhbbaaa.Xp

namespace Go.Proofs.Ytfobcnhibhbbaaa.Xp

/-- What is found: how many can be, how far, whether one is bad, and how far that is. -/
structure Fd where
  r : Int
  dp : Int
  bad : Bool
  bdd : Int
theorem Fd.ext {a b : Fd} (h1 : a.r = b.r) (h2 : a.dp = b.dp) (h3 : a.bad = b.bad) (h4 : a.bdd = b.bdd) : a = b := by
  cases a; cases b; simp_all
def Fd.zero : Fd := ⟨0, 0, false, 0⟩
/-- One of a state's moves is looked at. -/
def badN (d : Int) (f : Fd) : List Bool → Fd
  | [] => f
  | b :: r => badN d (if b && (!f.bad || decide (d < f.bdd)) then { f with bad := true, bdd := d } else f) r
/-- The first k states are looked at. -/
def foundN (d : List Int) (bd : Nat → List Bool) : Nat → Fd
  | 0 => .zero
  | k + 1 => if d.getD k 0 < 0 then foundN d bd k else badN (d.getD k 0) { foundN d bd k with r := (foundN d bd k).r + 1, dp := if d.getD k 0 > (foundN d bd k).dp then d.getD k 0 else (foundN d bd k).dp } (bd k)
theorem badN_same (d : Int) (l : List Bool) : ∀ f : Fd, (badN d f l).r = f.r ∧ (badN d f l).dp = f.dp := by
  induction l with
  | nil => intro f; exact ⟨rfl, rfl⟩
  | cons b r ih =>
    intro f
    rw [badN]
    obtain ⟨h1, h2⟩ := ih (if b && (!f.bad || decide (d < f.bdd)) then { f with bad := true, bdd := d } else f)
    rw [h1, h2]
    split <;> exact ⟨rfl, rfl⟩
theorem badN_no (d : Int) (l : List Bool) (h : true ∉ l) : ∀ f : Fd, badN d f l = f := by
  induction l with
  | nil => intro f; rfl
  | cons b r ih =>
    intro f
    cases b with
    | true => simp at h
    | false => rw [badN]; simp; exact ih (fun e => h (by simp [e])) f
theorem badN_yes (d : Int) (l : List Bool) : ∀ f : Fd, (true ∈ l ∨ (f.bad = true ∧ f.bdd ≤ d)) → (badN d f l).bad = true ∧ (badN d f l).bdd = if f.bad = true ∧ f.bdd ≤ d then f.bdd else d := by
  induction l with
  | nil =>
    intro f h
    rcases h with h | h
    · simp at h
    · exact ⟨h.1, by rw [if_pos h]; rfl⟩
  | cons b r ih =>
    intro f h
    rw [badN]
    by_cases hf : f.bad = true ∧ f.bdd ≤ d
    · have hc : (b && (!f.bad || decide (d < f.bdd))) = false := by
        rw [hf.1]; simp; intro _; omega
      rw [hc]
      simp only [Bool.false_eq_true, if_false]
      obtain ⟨h1, h2⟩ := ih f (.inr hf)
      exact ⟨h1, h2⟩
    · have hor : (!f.bad || decide (d < f.bdd)) = true := by
        cases hb : f.bad
        · simp
        · simp; rw [hb] at hf; simp at hf; exact hf
      rw [hor, Bool.and_true]
      cases b with
      | false =>
        simp only [Bool.false_eq_true, if_false]
        have : true ∈ r := by
          rcases h with h | h
          · simpa using h
          · exact absurd h hf
        exact ih f (.inl this)
      | true =>
        simp only [if_true]
        obtain ⟨h1, h2⟩ := ih { f with bad := true, bdd := d } (.inr ⟨rfl, Int.le_refl _⟩)
        refine ⟨h1, ?_⟩
        rw [h2, if_pos ⟨rfl, Int.le_refl _⟩, if_neg hf]
/-- What is known of it. -/
structure Fk (d : List Int) (bd : Nat → List Bool) (k : Nat) (f : Fd) : Prop where
  r : f.r = ((List.range k).filter (fun s => decide (0 ≤ d.getD s 0))).length
  up : ∀ s, s < k → d.getD s 0 ≤ f.dp
  dp : (f.dp = 0) ∨ ∃ s, s < k ∧ d.getD s 0 = f.dp ∧ 0 ≤ f.dp
  d0 : 0 ≤ f.dp
  no : f.bad = false → f.bdd = 0 ∧ ∀ s, s < k → 0 ≤ d.getD s 0 → true ∉ bd s
  yes : f.bad = true → (∃ s, s < k ∧ d.getD s 0 = f.bdd ∧ 0 ≤ f.bdd ∧ true ∈ bd s) ∧ ∀ s, s < k → 0 ≤ d.getD s 0 → true ∈ bd s → f.bdd ≤ d.getD s 0
theorem found_fk (d : List Int) (bd : Nat → List Bool) : ∀ k, Fk d bd k (foundN d bd k) := by
  intro k
  induction k with
  | zero => exact ⟨rfl, fun s hs => by omega, .inl rfl, Int.le_refl _, fun _ => ⟨rfl, fun s hs => by omega⟩, fun e => by cases e⟩
  | succ k ih =>
    have hlt : ∀ {s}, s < k + 1 → s < k ∨ s = k := fun {s} h => by omega
    rw [foundN]
    generalize foundN d bd k = f at ih
    by_cases hn : d.getD k 0 < 0
    · rw [if_pos hn]
      refine ⟨?_, fun s hs => ?_, ?_, ih.d0, fun e => ⟨(ih.no e).1, fun s hs h0 => ?_⟩, fun e => ?_⟩
      · rw [List.range_succ, List.filter_append, ih.r]
        have : decide (0 ≤ d.getD k 0) = false := decide_eq_false (by omega)
        simp only [List.filter_cons, List.filter_nil, this, Bool.false_eq_true, if_false, List.append_nil]
      · rcases hlt hs with hs | rfl
        · exact ih.up s hs
        · have := ih.d0; omega
      · rcases ih.dp with h | ⟨s, h1, h2⟩
        · exact .inl h
        · exact .inr ⟨s, by omega, h2⟩
      · rcases hlt hs with hs | rfl
        · exact (ih.no e).2 s hs h0
        · omega
      · obtain ⟨⟨s, h1, h2⟩, h3⟩ := ih.yes e
        refine ⟨⟨s, by omega, h2⟩, fun s hs h0 => ?_⟩
        rcases hlt hs with hs | rfl
        · exact h3 s hs h0
        · omega
    · rw [if_neg hn]
      have h0 : 0 ≤ d.getD k 0 := by omega
      generalize hdk : d.getD k 0 = dk at *
      obtain ⟨s1, s2⟩ := badN_same dk (bd k) { f with r := f.r + 1, dp := if dk > f.dp then dk else f.dp }
      have hr : (badN dk { f with r := f.r + 1, dp := if dk > f.dp then dk else f.dp } (bd k)).r = ((List.range (k + 1)).filter (fun s => decide (0 ≤ d.getD s 0))).length := by
        rw [s1, List.range_succ, List.filter_append]
        have : decide (0 ≤ d.getD k 0) = true := decide_eq_true (by rw [hdk]; exact h0)
        simp only [ih.r, List.filter_cons, List.filter_nil, this, if_true, List.length_append, List.length_singleton]
        omega
      have hdp : ∀ s, s < k + 1 → d.getD s 0 ≤ if dk > f.dp then dk else f.dp := fun s hs => by
        rcases hlt hs with hs | rfl
        · have := ih.up s hs; split <;> omega
        · rw [hdk]; split <;> omega
      have hdx : (if dk > f.dp then dk else f.dp) = 0 ∨ ∃ s, s < k + 1 ∧ d.getD s 0 = (if dk > f.dp then dk else f.dp) ∧ 0 ≤ (if dk > f.dp then dk else f.dp) := by
        split
        · exact .inr ⟨k, by omega, hdk, h0⟩
        · rcases ih.dp with h | ⟨s, h1, h2⟩
          · exact .inl h
          · exact .inr ⟨s, by omega, h2⟩
      have hd0 : 0 ≤ (if dk > f.dp then dk else f.dp) := by have := ih.d0; split <;> omega
      by_cases hb : true ∈ bd k
      · obtain ⟨b1, b2⟩ := badN_yes dk (bd k) { f with r := f.r + 1, dp := if dk > f.dp then dk else f.dp } (.inl hb)
        simp only at b2
        refine ⟨hr, fun s hs => by rw [s2]; exact hdp s hs, by rw [s2]; exact hdx, by rw [s2]; exact hd0, fun e => (by rw [b1] at e; cases e), fun _ => ?_⟩
        rw [b2]
        by_cases hf : f.bad = true ∧ f.bdd ≤ dk
        · rw [if_pos hf]
          obtain ⟨⟨s, h1, h2⟩, h3⟩ := ih.yes hf.1
          refine ⟨⟨s, by omega, h2⟩, fun s hs h4 h5 => ?_⟩
          rcases hlt hs with hs | rfl
          · exact h3 s hs h4 h5
          · rw [hdk]; exact hf.2
        · rw [if_neg hf]
          refine ⟨⟨k, by omega, hdk, h0, hb⟩, fun s hs h4 h5 => ?_⟩
          rcases hlt hs with hs | rfl
          · cases hfb : f.bad
            · exact absurd h5 ((ih.no hfb).2 s hs h4)
            · have := (ih.yes hfb).2 s hs h4 h5
              have : ¬ f.bdd ≤ dk := fun e => hf ⟨hfb, e⟩
              omega
          · omega
      · rw [badN_no dk (bd k) hb] at hr s2 ⊢
        refine ⟨hr, hdp, hdx, hd0, fun e => ⟨(ih.no e).1, fun s hs h4 => ?_⟩, fun e => ?_⟩
        · rcases hlt hs with hs | rfl
          · exact (ih.no e).2 s hs h4
          · exact hb
        · obtain ⟨⟨s, h1, h2⟩, h3⟩ := ih.yes e
          refine ⟨⟨s, by omega, h2⟩, fun s hs h4 h5 => ?_⟩
          rcases hlt hs with hs | rfl
          · exact h3 s hs h4 h5
          · exact absurd h5 hb
/-- What the code finds. -/
def foundE (m : List (Sg × Nat)) (bad : Option Nat) : Fd := ⟨m.length, (match m.getLast? with | some x => (x.2 : Int) | none => 0), bad.isSome, (match bad with | some k => (k : Int) | none => 0)⟩
/-- Both find the same. -/
theorem found_same {N : Nat} {W : Nat → Sg} {bs : Nat → Nat} {nx : Nat → List Int} {ini : List Sg} {mv : Sg → List (Bool × Bool × Sg)} (h : Tells N W bs nx ini mv) {m : List (Sg × Nat)} {bad : Option Nat} {q : Nat} (hj : Jb ini mv m q) (hb : Bb mv m q bad) (hq : m.length ≤ q) (bd : Nat → List Bool) (hbd : ∀ s, s < N → (true ∈ bd s ↔ ∃ t, (true, true, t) ∈ mv (W s))) :
    foundN (layN N nx (iniN bs (List.replicate N (-1)) N) N) bd N = foundE m bad := by
  have hk := found_fk (layN N nx (iniN bs (List.replicate N (-1)) N) N) bd N
  have hall := fun {x} (hx : x < N) => lay_all h hx
  generalize layN N nx (iniN bs (List.replicate N (-1)) N) N = d at *
  have hin : ∀ {s k}, (s, k) ∈ m ↔ Dist ini mv k s := fun {s k} => hj.dist hq
  have hdw : ∀ {x}, x < N → ∀ k : Nat, d.getD x 0 = k ↔ (W x, k) ∈ m := fun {x} hx k => by
    rcases hall hx with ⟨h1, h2⟩ | ⟨l, h1, h2⟩
    · constructor
      · intro e; omega
      · intro e; exact absurd (hin.1 e).1 (h2 k)
    · constructor
      · intro e
        obtain rfl : l = k := by omega
        exact hin.2 h2
      · intro e
        obtain rfl := h2.uniq (hin.1 e)
        exact h1
  have hnum : ∀ {s k}, (s, k) ∈ m → ∃ x, x < N ∧ s = W x ∧ d.getD x 0 = k := fun {s k} hm => by
    obtain ⟨x, hx, rfl⟩ := h.num (hin.1 hm).1
    exact ⟨x, hx, rfl, (hdw hx k).2 hm⟩
  have hnn : ∀ {x}, x < N → 0 ≤ d.getD x 0 → ∃ k : Nat, d.getD x 0 = k ∧ (W x, k) ∈ m := fun {x} hx h0 => ⟨(d.getD x 0).toNat, by omega, (hdw hx _).1 (by omega)⟩
  have hsort : ∀ {i j : Nat} {a b : Sg × Nat}, i ≤ j → m[i]? = some a → m[j]? = some b → a.2 ≤ b.2 := fun {i j a b} => hj.st i j a b
  refine Fd.ext ?_ ?_ ?_ ?_
  · rw [hk.r]
    show _ = ((m.length : Nat) : Int)
    congr 1
    have hp : (((List.range N).filter (fun s => decide (0 ≤ d.getD s 0))).map W).Perm (m.map (·.1)) := by
      rw [List.perm_ext_iff_of_nodup ?_ hj.nd]
      · intro s
        constructor
        · intro hs
          obtain ⟨x, hx, rfl⟩ := List.mem_map.1 hs
          obtain ⟨h1, h2⟩ := List.mem_filter.1 hx
          obtain ⟨k, _, hm⟩ := hnn (List.mem_range.1 h1) (by simpa using h2)
          exact List.mem_map.2 ⟨_, hm, rfl⟩
        · intro hs
          obtain ⟨⟨s', k⟩, hm, rfl⟩ := List.mem_map.1 hs
          obtain ⟨x, hx, e, hd⟩ := hnum hm
          exact List.mem_map.2 ⟨x, List.mem_filter.2 ⟨List.mem_range.2 hx, by rw [hd]; simp⟩, e.symm⟩
      · rw [List.nodup_iff_pairwise_ne, List.pairwise_map]
        refine List.Pairwise.imp_of_mem ?_ (List.nodup_range.filter _)
        intro a b ha hb' hne e
        exact hne (h.inj a b (List.mem_range.1 (List.mem_filter.1 ha).1) (List.mem_range.1 (List.mem_filter.1 hb').1) e)
    have := hp.length_eq
    simpa using this
  · show _ = (match m.getLast? with | some x => (x.2 : Int) | none => 0)
    cases hm : m.getLast? with
    | none =>
      have hm0 : m = [] := List.getLast?_eq_none_iff.1 hm
      rcases hk.dp with h1 | ⟨s, h1, h2, h3⟩
      · exact h1
      · obtain ⟨k, _, hmm⟩ := hnn h1 (by omega)
        rw [hm0] at hmm
        simp at hmm
    | some x =>
      simp only
      have hl : m[m.length - 1]? = some x := by rw [← List.getLast?_eq_getElem?]; exact hm
      have hxm : x ∈ m := List.mem_of_getElem? hl
      obtain ⟨y, hy, e, hd⟩ := hnum (s := x.1) (k := x.2) hxm
      have h1 := hk.up y hy
      rw [hd] at h1
      rcases hk.dp with h2 | ⟨s, h2, h3, h4⟩
      · omega
      · obtain ⟨k, hk', hmm⟩ := hnn h2 (by omega)
        obtain ⟨i, hi, ei⟩ := List.getElem_of_mem hmm
        have := hsort (i := i) (j := m.length - 1) (by omega) (by rw [List.getElem?_eq_getElem hi, ei]) hl
        simp only at this
        omega
  · show _ = bad.isSome
    cases hbd' : bad with
    | none =>
      cases hfb : (foundN d bd N).bad
      · rfl
      · obtain ⟨⟨s, h1, h2, h3, h4⟩, _⟩ := hk.yes hfb
        obtain ⟨k, _, hmm⟩ := hnn h1 (by omega)
        obtain ⟨i, hi, ei⟩ := List.getElem_of_mem hmm
        obtain ⟨t, ht⟩ := (hbd s h1).1 h4
        exact absurd ht (hb.no hbd' i (W s, k) (by omega) (by rw [List.getElem?_eq_getElem hi, ei]) t)
    | some k =>
      obtain ⟨⟨i, a, h1, h2, h3, t, ht⟩, _⟩ := hb.yes k hbd'
      obtain ⟨x, hx, e, hd⟩ := hnum (s := a.1) (k := a.2) (List.mem_of_getElem? h2)
      cases hfb : (foundN d bd N).bad
      · exfalso
        refine (hk.no hfb).2 x hx (by rw [hd]; omega) ((hbd x hx).2 ⟨t, by rw [← e]; exact ht⟩)
      · rfl
  · show _ = (match bad with | some k => (k : Int) | none => 0)
    cases hbd' : bad with
    | none =>
      cases hfb : (foundN d bd N).bad
      · exact (hk.no hfb).1
      · obtain ⟨⟨s, h1, h2, h3, h4⟩, _⟩ := hk.yes hfb
        obtain ⟨k, _, hmm⟩ := hnn h1 (by omega)
        obtain ⟨i, hi, ei⟩ := List.getElem_of_mem hmm
        obtain ⟨t, ht⟩ := (hbd s h1).1 h4
        exact absurd ht (hb.no hbd' i (W s, k) (by omega) (by rw [List.getElem?_eq_getElem hi, ei]) t)
    | some k =>
      simp only
      obtain ⟨⟨i, a, h1, h2, h3, t, ht⟩, hmin⟩ := hb.yes k hbd'
      obtain ⟨x, hx, e, hd⟩ := hnum (s := a.1) (k := a.2) (List.mem_of_getElem? h2)
      have hbx : true ∈ bd x := (hbd x hx).2 ⟨t, by rw [← e]; exact ht⟩
      cases hfb : (foundN d bd N).bad
      · exact absurd hbx ((hk.no hfb).2 x hx (by rw [hd]; omega))
      · obtain ⟨⟨s, g1, g2, g3, g4⟩, g5⟩ := hk.yes hfb
        have l1 := g5 x hx (by rw [hd]; omega) hbx
        obtain ⟨k', g6, hmm⟩ := hnn g1 (by omega)
        obtain ⟨j, hj', ej⟩ := List.getElem_of_mem hmm
        have l2 := hmin j (W s, k') (by omega) (by rw [List.getElem?_eq_getElem hj', ej]) ((hbd s g1).1 g4)
        simp only at l2
        omega
end Go.Proofs.Ytfobcnhibhbbaaa.Xp
