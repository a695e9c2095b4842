import Derived.Test.YtabnimgpednhjabGreatRows
import Derived.Test.YtabnimgpednhjabGreatMnM
import Derived.ProofKit
import Derived.SizedLaws
import Derived.OpenShut
import Derived.ChangeOld
import Derived.Below
import Derived.Deep.Slices
import Derived.Deep.SlicePairs
import Derived.Test.YtabnimgpednhjabGreatProg
import Derived.WalkKit
import Derived.WalkSpells
import Derived.WalkLawsBesides
import Derived.Deep.QuietTactic
import Derived.BigQuiet
import Derived.Deep.RegionHeld3
import Derived.WideKeyPair
import Derived.Maps.OwnOps
import Derived.Maps.OwnSet
namespace Go.Proofs.YtabnimgpednhjabGreat
open Go.ChangeShapes Go.WideShapes Go.ChangeAt Go.RowKit Go.Deep
set_option maxRecDepth 100000
theorem own : ownKnob Tryz.prog.godebug = none := by kernel_rfl
theorem laidOut : laidOutB Tryz.prog = true := by kernel_rfl
theorem cells3 : Tryz.prog.cellsOf 3 = 1 := by kernel_rfl
theorem cells31 : Tryz.prog.cellsOf 25 = 1 := by kernel_rfl
theorem cells37 : Tryz.prog.cellsOf 32 = 1 := by kernel_rfl
theorem cells38 : Tryz.prog.cellsOf 33 = 1 := by kernel_rfl
theorem cells40 : Tryz.prog.cellsOf 35 = 5 := by kernel_rfl
theorem cells85 : Tryz.prog.cellsOf 79 = 2 := by kernel_rfl
theorem cells87 : Tryz.prog.cellsOf 53 = 6 := by kernel_rfl
theorem bytes3 : Tryz.prog.bytesOf 3 = 8 := by kernel_rfl
theorem bytes85 : Tryz.prog.bytesOf 79 = 16 := by kernel_rfl
theorem bytes87 : Tryz.prog.bytesOf 53 = 48 := by kernel_rfl
section
variable {H : Type} {enc : TypeId × Value → H} {W : World} {base : Nat} {sp : Nat → Bool} {held : Bool} {fuel : Nat} {v : Value} {x : DataW H × List MemPlace}
theorem weigh {t e : TypeId} {es ss : List (DataW H)} (hu : Tryz.prog.underlying t = some (.slice e)) (h : ((DataW.slice es ss).weights Tryz.prog t).all (· ≤ reachBytes) = true) : es.length * Tryz.prog.bytesOf e ≤ reachBytes := by
 have h1 := List.all_eq_true.1 h ((es.length + ss.length) * Tryz.prog.bytesOf e) (by simp [DataW.weights, hu])
 have h2 : (es.length + ss.length) * Tryz.prog.bytesOf e ≤ reachBytes := by simpa using h1
 exact Nat.le_trans (Nat.mul_le_mul_right _ (Nat.le_add_right _ _)) h2
theorem in_ints (h : DataW.trod enc Tryz.prog W base sp held fuel 25 [v] = some x) :
   ∃ p c l, v = .slice p (List.length l) c ∧ (p = none → c = 0) ∧ IntsAt W p l ∧ ((x.1.weights Tryz.prog 25).all (· ≤ reachBytes) = true → l.length ≤ 17592186043904) := by
 rcases open_ints Tryz.underlying25 Tryz.underlying3 cells3 h with ⟨hcs, hx⟩ | ⟨a, len, cap, zs, hcs, _, hl, hm, hz, hx, hcell, _⟩
 · simp at hcs
   exact ⟨none, 0, [], hcs, fun _ => rfl, fun h => by simp at h, fun _ => by simp⟩
 · simp at hcs
   have hlz : len ≤ zs.length := by rw [hz]; split <;> omega
   refine ⟨some a, cap, zs.take len, by rw [hcs, List.length_take, Nat.min_eq_left hlz], (fun h => by cases h), ?_, ?_⟩
   · intro h0
     rw [List.length_take, Nat.min_eq_left hlz] at h0
     obtain ⟨b, off, spot⟩ := a
     have hspot : spot = none := by simpa [Addr.add] using World.cell?_spot (hcell 0 (by omega))
     subst hspot
     refine ⟨b, off, rfl, fun i hi => ?_⟩
     have hi' : i < zs.length := by rw [List.length_take] at hi; omega
     have := hcell i hi'
     rw [Addr.add_lit] at this
     rw [this]
     simp [List.getD, List.getElem?_eq_getElem hi']
   · intro hw
     subst hx
     have := weigh Tryz.underlying25 hw
     rw [bytes3] at this
     simp only [lits, List.length_map, reachBytes] at this
     omega
theorem in_pairs (h : DataW.trod enc Tryz.prog W base sp held fuel 33 [v] = some x) :
   ∃ p c l, v = .slice p (List.length l) c ∧ PairsAt W p l ∧ ((x.1.weights Tryz.prog 33).all (· ≤ reachBytes) = true → l.length ≤ 8796093022208) := by
 rcases open_slice_pairs Tryz.underlying33 Tryz.underlying79 cells85 rfl rfl cells3 cells3 h with ⟨hcs, hx⟩ | ⟨a, len, cap, m, n, V0, V1, D0, D1, P0, P1, hcs, _, hl, hm, hmm, hx, hcell⟩
 · simp at hcs
   exact ⟨none, 0, [], hcs, fun h => by simp at h, fun _ => by simp⟩
 · simp at hcs
   have hlm : len ≤ m := by rw [hmm]; split <;> omega
   have key : ∀ i, i < len → ∃ q : Int × Int, W.cell? (a.add (i * 2)) = some (.int .i64 q.1) ∧ W.cell? (a.add (i * 2 + 1)) = some (.int .i64 q.2) := by
     intro i hi
     obtain ⟨e0, e1, t0, t1⟩ := hcell i (by omega)
     obtain ⟨n0, h0, _⟩ := DataW.trod_int Tryz.underlying3 t0
     obtain ⟨n1, h1, _⟩ := DataW.trod_int Tryz.underlying3 t1
     simp at h0 h1
     exact ⟨(n0, n1), by rw [e0, h0], by rw [e1, h1]⟩
   obtain ⟨F, hF⟩ := choose_lt key
   have hlen : ((List.range len).map F).length = len := by simp
   refine ⟨some a, cap, (List.range len).map F, by rw [hcs, hlen], ?_, ?_⟩
   · intro h0
     rw [hlen] at h0
     obtain ⟨b, off, spot⟩ := a
     have hspot : spot = none := by simpa [Addr.add] using World.cell?_spot (hF 0 (by omega)).1
     subst hspot
     refine ⟨b, off, rfl, fun i hi => ?_⟩
     have hi' : i < len := by rw [hlen] at hi; exact hi
     obtain ⟨e0, e1⟩ := hF i hi'
     rw [Addr.add_lit] at e0 e1
     rw [List.getElem_map, List.getElem_range]
     exact ⟨e0, by rw [Nat.add_assoc]; exact e1⟩
   · intro hw
     subst hx
     have := weigh Tryz.underlying33 hw
     rw [bytes85] at this
     simp only [List.length_map, List.length_range, reachBytes] at this
     rw [hlen]
     omega
theorem in_nodes (h : DataW.trod enc Tryz.prog W base sp held fuel 32 [v] = some x) :
   ∃ p c l, v = .slice p (List.length l) c ∧ NodesAt W p l ∧ ((x.1.weights Tryz.prog 32).all (· ≤ reachBytes) = true → l.length ≤ 2932031007402) := by
 have _inh : Inhabited Nd := ⟨⟨0, 0, 0, 0, 0, 0⟩⟩
 rcases open_slice Tryz.underlying32 h with ⟨hcs, hx⟩ | ⟨a, len, cap, m, n, D, Pl, hcs, _, hl, hm, hmm, hx, hcell⟩
 · simp at hcs
   exact ⟨none, 0, [], hcs, fun h => by simp at h, fun _ => by simp⟩
 · simp at hcs
   have hlm : len ≤ m := by rw [hmm]; split <;> omega
   have key : ∀ i, i < len → ∃ q : Nd, W.cell? (a.add (i * 6 + 0)) = some (.int .i64 q.kind) ∧ W.cell? (a.add (i * 6 + 1)) = some (.int .i64 q.width) ∧ W.cell? (a.add (i * 6 + 2)) = some (.int .i64 q.a) ∧
       W.cell? (a.add (i * 6 + 3)) = some (.int .i64 q.b) ∧ W.cell? (a.add (i * 6 + 4)) = some (.int .i64 q.c) ∧ W.cell? (a.add (i * 6 + 5)) = some (.int .i64 q.n) := by
     intro i hi
     obtain ⟨cs, hc, ht⟩ := hcell i (by omega)
     rw [cells87] at hc
     obtain ⟨_, hlen, hat⟩ := World.cells?_some hc
     obtain ⟨y, q, _, _, _, hl6, hx6⟩ := DataW.trod_struct Tryz.underlying53 ht
     have hl6' : y.length = 6 := hl6
     match cs, hlen with
     | [w0, w1, w2, w3, w4, w5], _ =>
       have e0 := hx6 0 _ rfl
       have e1 := hx6 1 _ rfl
       have e2 := hx6 2 _ rfl
       have e3 := hx6 3 _ rfl
       have e4 := hx6 4 _ rfl
       have e5 := hx6 5 _ rfl
       rw [List.getElem?_eq_getElem (by omega)] at e0 e1 e2 e3 e4 e5
       obtain ⟨n0, h0, _⟩ := DataW.trod_int Tryz.underlying3 e0
       obtain ⟨n1, h1, _⟩ := DataW.trod_int Tryz.underlying3 e1
       obtain ⟨n2, h2, _⟩ := DataW.trod_int Tryz.underlying3 e2
       obtain ⟨n3, h3, _⟩ := DataW.trod_int Tryz.underlying3 e3
       obtain ⟨n4, h4, _⟩ := DataW.trod_int Tryz.underlying3 e4
       obtain ⟨n5, h5, _⟩ := DataW.trod_int Tryz.underlying3 e5
       simp [cells3] at h0 h1 h2 h3 h4 h5
       subst h0 h1 h2 h3 h4 h5
       have g : ∀ j, (a.add (i * 6)).add j = a.add (i * 6 + j) := fun j => Go.Deep.add_add _ _ _
       refine ⟨⟨n0, n1, n2, n3, n4, n5⟩, ?_, ?_, ?_, ?_, ?_, ?_⟩
       · have := hat 0 (by omega); rw [g] at this; exact this
       · have := hat 1 (by omega); rw [g] at this; exact this
       · have := hat 2 (by omega); rw [g] at this; exact this
       · have := hat 3 (by omega); rw [g] at this; exact this
       · have := hat 4 (by omega); rw [g] at this; exact this
       · have := hat 5 (by omega); rw [g] at this; exact this
   obtain ⟨F, hF⟩ := choose_lt key
   have hlen : ((List.range len).map F).length = len := by simp
   refine ⟨some a, cap, (List.range len).map F, by rw [hcs, hlen], ?_, ?_⟩
   · intro h0
     rw [hlen] at h0
     obtain ⟨b, off, spot⟩ := a
     have hspot : spot = none := by simpa [Addr.add] using World.cell?_spot (hF 0 (by omega)).1
     subst hspot
     refine ⟨b, off, rfl, fun i hi => ?_⟩
     have hi' : i < len := by rw [hlen] at hi; exact hi
     obtain ⟨e0, e1, e2, e3, e4, e5⟩ := hF i hi'
     rw [Addr.add_lit] at e0 e1 e2 e3 e4 e5
     rw [List.getElem_map, List.getElem_range]
     refine ⟨e0, ?_, ?_, ?_, ?_, ?_⟩ <;> rw [Nat.add_assoc] <;> assumption
   · intro hw
     subst hx
     have := weigh Tryz.underlying32 hw
     rw [bytes87] at this
     simp only [List.length_map, List.length_range, reachBytes] at this
     rw [hlen]
     omega
end
structure MIn (W : World) (v : Value) (small : Prop) where
 a0 : Option Addr
 a1 : Option Addr
 a2 : Option Addr
 a3 : Option Addr
 a4 : Option Addr
 c0 : Nat
 c1 : Nat
 c2 : Nat
 c3 : Nat
 c4 : Nat
 ns : List Nd
 is : List (Int × Int)
 xs : List (Int × Int)
 bs : List Int
 hs : List Int
 val : v = Mv.val ⟨a0, c0, a1, is.length, c1, a2, xs.length, c2, a3, bs.length, c3, a4, hs.length, c4⟩ ns.length
 nodes : NodesAt W a0 ns
 inits : PairsAt W a1 is
 nexts : PairsAt W a2 xs
 bads : IntsAt W a3 bs
 holds : IntsAt W a4 hs
 n3 : a3 = none → c3 = 0
 n4 : a4 = none → c4 = 0
 ln : small → ns.length ≤ 2932031007402
 li : small → is.length ≤ 8796093022208
 lx : small → xs.length ≤ 8796093022208
 lb : small → bs.length ≤ 17592186043904
 lh : small → hs.length ≤ 17592186043904
theorem five {α : Type} {cs : Array α} (h : cs.size = 5) : ∃ c0 c1 c2 c3 c4, cs = #[c0, c1, c2, c3, c4] := by
 obtain ⟨l⟩ := cs
 match l, h with
 | [a, b, c, d, e], _ => exact ⟨a, b, c, d, e, rfl⟩
theorem in_model {H : Type} {enc : TypeId × Value → H} {W : World} {r : Reach} {b0 base : Nat} {sp : Nat → Bool} {held : Bool} {v : Value} {d : DataW H} {p : List MemPlace}
   (hv : Value.okWide Tryz.prog W r b0 35 v) (h : DataW.Trod enc Tryz.prog W base sp held 35 v d p) : Nonempty (MIn W v ((d.weights Tryz.prog 35).all (· ≤ reachBytes) = true)) := by
 obtain ⟨cs, rfl, hsz⟩ := okWide_struct Tryz.underlying35 hv
 obtain ⟨v0, v1, v2, v3, v4, rfl⟩ := five (hsz.trans cells40)
 obtain ⟨fuel, hf⟩ := h
 simp only [Value.cells] at hf
 obtain ⟨y, m, _, hxy, _, hl, hx⟩ := DataW.trod_struct Tryz.underlying35 hf
 have hl5 : y.length = 5 := hl
 match y, hl5 with
 | [y0, y1, y2, y3, y4], _ =>
   have e0 := hx 0 _ rfl
   have e1 := hx 1 _ rfl
   have e2 := hx 2 _ rfl
   have e3 := hx 3 _ rfl
   have e4 := hx 4 _ rfl
   simp [cells37] at e0
   simp [cells38] at e1 e2
   simp [cells31] at e3 e4
   obtain ⟨a0, c0, ns, rfl, H0, L0⟩ := in_nodes e0
   obtain ⟨a1, c1, is, rfl, H1, L1⟩ := in_pairs e1
   obtain ⟨a2, c2, xs, rfl, H2, L2⟩ := in_pairs e2
   obtain ⟨a3, c3, bs, rfl, N3, H3, L3⟩ := in_ints e3
   obtain ⟨a4, c4, hs, rfl, N4, H4, L4⟩ := in_ints e4
   have hd : d = .agg [y0.1, y1.1, y2.1, y3.1, y4.1] := by simpa using congrArg Prod.fst hxy
   have hW : (d.weights Tryz.prog 35).all (· ≤ reachBytes) = true → (y0.1.weights Tryz.prog 32).all (· ≤ reachBytes) = true ∧ (y1.1.weights Tryz.prog 33).all (· ≤ reachBytes) = true ∧ (y2.1.weights Tryz.prog 33).all (· ≤ reachBytes) = true ∧ (y3.1.weights Tryz.prog 25).all (· ≤ reachBytes) = true ∧ (y4.1.weights Tryz.prog 25).all (· ≤ reachBytes) = true := by
     intro hs
     rw [hd] at hs
     simp only [DataW.weights, Tryz.underlying35, List.map_cons, List.map_nil, DataW.weightsEach, List.all_append, Bool.and_eq_true] at hs
     obtain ⟨s0, s1, s2, s3, s4, _⟩ := hs
     exact ⟨s0, s1, s2, s3, s4⟩
   exact ⟨⟨a0, a1, a2, a3, a4, c0, c1, c2, c3, c4, ns, is, xs, bs, hs, rfl, H0, H1, H2, H3, H4, N3, N4, fun s => L0 (hW s).1, fun s => L1 (hW s).2.1, fun s => L2 (hW s).2.2.1, fun s => L3 (hW s).2.2.2.1, fun s => L4 (hW s).2.2.2.2⟩⟩
end Go.Proofs.YtabnimgpednhjabGreat

namespace Go.Proofs.YtabnimgpednhjabGreat.Gg
open Go.RowKit
set_option maxRecDepth 100000
theorem ret_int {k : IntKind} {a b : Int} (h : a = b) : Ending.returned (.int k a) = .returned (.int k b) := by rw [h]
theorem ret_bool {a b : Bool} (h : a = b) : Ending.returned (.bool a) = .returned (.bool b) := by rw [h]
theorem hide {p : Prop} (h : p) : Hid p := h
def btw (n lo hi : Int) : Bool := decide (lo ≤ n) && decide (n ≤ hi)
theorem btw_true {n lo hi : Int} : btw n lo hi = true ↔ lo ≤ n ∧ n ≤ hi := by simp [btw]
theorem btw_false {n lo hi : Int} : btw n lo hi = false ↔ ¬ (lo ≤ n ∧ n ≤ hi) := by rw [← btw_true]; simp
theorem bal {w w1 : World} (h : Below w.heap.size w w1) (o : Obj) : Below w.heap.size w (w1.alloc o) := h.alloc h.size o
theorem bthen {w w1 w2 : World} (h : Below w.heap.size w w1) (k : Below w1.heap.size w1 w2) : Below w.heap.size w w2 := h.trans (k.mono h.size)
theorem past1 {w : World} {p : Addr} {v : Value} (h : w.cell? p = some v) (o : Obj) : (w.alloc o).cell? p = some v := cell_later (bal (Below.refl _ _) o) h
set_option maxHeartbeats 400000 in
theorem between_any (x lo hi : Int) (w : World) :
   Calls Tryz.prog 39 #[.int .i64 x, .int .i64 lo, .int .i64 hi] w fun e w' => e = .returned (.bool (btw x lo hi)) ∧ w' = w := by
 go_enter Tryz.func39, Tryz.ntmps39
 go_wp2
 all_goals
   go_ret
   exact ⟨ret_bool (by rw [Bool.eq_iff_iff, btw_true]; simp; try omega), rfl⟩
theorem literal_any (x : Int) (h : 0 ≤ x) (h2 : x ≤ 10000000) (w : World) :
   Calls Tryz.prog 44 #[.int .i64 x] w fun e w' => e = .returned (.int .i64 (2 * x)) ∧ w' = w := by
 go_enter Tryz.func44, Tryz.ntmps44
 go_wp2
 go_ret
 exact ⟨rfl, rfl⟩
theorem node_any (x : Int) (h : 0 ≤ x) (h2 : x ≤ 9223372036854775807) (w : World) :
   Calls Tryz.prog 87 #[.int .i64 x] w fun e w' => e = .returned (.int .i64 (x / 2)) ∧ w' = w := by
 go_enter Tryz.func87, Tryz.ntmps87
 go_wp2
 go_ret
 exact ⟨rfl, rfl⟩
def odd (x : Int) : Bool := x % 2 == 1
def turn (x : Int) : Int := if odd x then x - 1 else x + 1
theorem toNat64 (a : Nat) (ha : a < 9223372036854775808) : (BitVec.ofInt 64 (a : Int)).toNat = a := by
 rw [BitVec.ofInt_natCast, BitVec.toNat_ofNat]; exact Nat.mod_eq_of_lt (by omega)
theorem xor_one (A : Nat) : A ^^^ 1 = if A % 2 = 1 then A - 1 else A + 1 := by
 have h : A ^^^ 1 = 2 * (A / 2) + (1 - A % 2) := by
   apply Nat.eq_of_testBit_eq
   intro i
   rw [Nat.testBit_xor]
   cases i with
   | zero =>
     simp only [Nat.testBit_zero]
     rcases Nat.mod_two_eq_zero_or_one A with h | h <;> simp [h] <;> omega
   | succ i =>
     rw [Nat.testBit_succ, Nat.testBit_succ, Nat.testBit_succ]
     have e1 : 1 / 2 = 0 := rfl
     have e2 : (2 * (A / 2) + (1 - A % 2)) / 2 = A / 2 := by omega
     rw [e1, e2]
     simp
 rw [h]
 split <;> omega
theorem turn_bits (x : Int) (h : 0 ≤ x) (h2 : x ≤ 10000000) : bits .xor .i64 x 1 = turn x := by
 obtain ⟨A, rfl⟩ := Int.eq_ofNat_of_zero_le h
 show IntKind.i64.wrap ((BitVec.ofInt 64 (A : Int) ^^^ BitVec.ofInt 64 ((1 : Nat) : Int)).toNat : Int) = _
 rw [BitVec.toNat_xor, toNat64 A (by omega), toNat64 1 (by omega), xor_one, IntKind.wrap_i64]
 unfold turn odd
 by_cases hA : A % 2 = 1
 · have e : ((A : Int) % 2 == 1) = true := by simp; omega
   rw [if_pos hA, e, if_pos rfl]; omega
 · have e : ((A : Int) % 2 == 1) = false := by simp; omega
   rw [if_neg hA, e, if_neg (by decide)]; omega
theorem turn_any (x : Int) (h : 0 ≤ x) (h2 : x ≤ 10000000) (w : World) :
   Calls Tryz.prog 119 #[.int .i64 x] w fun e w' => e = .returned (.int .i64 (turn x)) ∧ w' = w := by
 have HE := hide (turn_bits x h h2)
 go_enter Tryz.func119, Tryz.ntmps119
 go_wp2
 go_ret
 exact ⟨ret_int HE.out, rfl⟩
abbrev gval (ins : Int) (p : Option Addr) (len cap : Nat) : Value := .agg #[.int .i64 ins, .slice p len cap]
theorem nodes_any (ins : Int) (p : Option Addr) (len cap : Nat) (h0 : 0 ≤ ins) (h1 : ins ≤ 1000) (h2 : len ≤ 1000001) (w : World) :
   Calls Tryz.prog 45 #[gval ins p len cap] w fun e w' => e = .returned (.int .i64 (1 + ins + len)) ∧ Below w.heap.size w w' := by
 go_enter Tryz.func45, Tryz.ntmps45
 go_wp2
 go_ret
 exact ⟨rfl, bal (Below.refl _ _) _⟩
def standB (a b n : Int) : Bool := decide (1 < a) && decide (a < b) && (a / 2 != b / 2) && decide (b / 2 < n)
abbrev arr2 (a b : Int) : Value := .agg #[.int .i64 a, .int .i64 b]
theorem bdn {B : Nat} {a w : World} (h : Below B a w) (n : Nat) : Below B a (w.drewN n) := ⟨h.os, h.tape, h.output, h.size, h.block⟩
set_option maxHeartbeats 1000000 in
theorem stands_any (a b n : Int) (hb : b ≤ 9223372036854775807) (w : World) :
   Calls Tryz.prog 66 #[arr2 a b, .int .i64 n] w fun e w' => e = .returned (.bool (standB a b n)) ∧ Below w.heap.size w w' := by
 have HE : Hid (standB a b n = (decide (1 < a) && decide (a < b) && (a / 2 != b / 2) && decide (b / 2 < n))) := rfl
 generalize standB a b n = R at *
 have hbl : Below w.heap.size w (w.alloc (.cells #[.int .i64 a, .int .i64 b] 81)) := bal (Below.refl _ _) _
 by_cases h1 : 1 < a
 · by_cases h2 : a < b
   · by_cases h3 : a / 2 = b / 2
     · have HX : Hid (R = false) := by rw [HE.out, h3]; simp [Hid]
       have h3' : (a / 2 != b / 2) = false := by simp [h3]
       go_enter Tryz.func66, Tryz.ntmps66
       go_wp2
       go_quiet (fail)
       go_wp2_with (go_at_call 87; refine (node_any _ (by omega) (by omega) _).mono ?_; rintro e w' ⟨rfl, rfl⟩)
       go_ret
       exact ⟨ret_bool HX.out.symm, bdn hbl _⟩
     · have HX : Hid (R = (a / 2 != b / 2 && decide (b / 2 < n))) := by rw [HE.out]; simp [h1, h2, Hid]
       go_enter Tryz.func66, Tryz.ntmps66
       go_wp2
       go_quiet (fail)
       go_wp2_with (go_at_call 87; refine (node_any _ (by omega) (by omega) _).mono ?_; rintro e w' ⟨rfl, rfl⟩)
       go_ret
       exact ⟨ret_bool HX.out.symm, bdn hbl _⟩
   · have HX : Hid (R = false) := by rw [HE.out]; simp [h2, Hid]
     go_enter Tryz.func66, Tryz.ntmps66
     go_wp2
     go_quiet (fail)
     go_wp2
     go_ret
     exact ⟨ret_bool HX.out.symm, bdn hbl _⟩
 · have HX : Hid (R = false) := by rw [HE.out]; simp [h1, Hid]
   go_enter Tryz.func66, Tryz.ntmps66
   go_wp2
   go_quiet (fail)
   go_wp2
   go_ret
   exact ⟨ret_bool HX.out.symm, bdn hbl _⟩
def IntsAt (w : World) (p : Option Addr) (l : List Int) : Prop :=
 0 < l.length → ∃ b off, p = some ⟨b, off, none⟩ ∧ ∀ (i : Nat) (h : i < l.length), w.cell? ⟨b, off + i, none⟩ = some (.int .i64 l[i])
theorem IntsAt.later {w w1 : World} {p : Option Addr} {l : List Int} (h : IntsAt w p l) (hb : Below w.heap.size w w1) : IntsAt w1 p l := by
 intro h0
 obtain ⟨b, off, hp, hc⟩ := h h0
 exact ⟨b, off, hp, fun i hi => cell_later hb (hc i hi)⟩
def BoolsAt (w : World) (p : Option Addr) (l : List Bool) : Prop :=
 0 < l.length → ∃ b off, p = some ⟨b, off, none⟩ ∧ ∀ (i : Nat) (h : i < l.length), w.cell? ⟨b, off + i, none⟩ = some (.bool l[i])
theorem BoolsAt.later {w w1 : World} {p : Option Addr} {l : List Bool} (h : BoolsAt w p l) (hb : Below w.heap.size w w1) : BoolsAt w1 p l := by
 intro h0
 obtain ⟨b, off, hp, hc⟩ := h h0
 exact ⟨b, off, hp, fun i hi => cell_later hb (hc i hi)⟩
def PairsAt (w : World) (p : Option Addr) (l : List (Int × Int)) : Prop :=
 0 < l.length → ∃ b off, p = some ⟨b, off, none⟩ ∧ ∀ (i : Nat) (h : i < l.length), w.cell? ⟨b, off + i * 2, none⟩ = some (.int .i64 l[i].1) ∧ w.cell? ⟨b, off + i * 2 + 1, none⟩ = some (.int .i64 l[i].2)
theorem PairsAt.later {w w1 : World} {p : Option Addr} {l : List (Int × Int)} (h : PairsAt w p l) (hb : Below w.heap.size w w1) : PairsAt w1 p l := by
 intro h0
 obtain ⟨b, off, hp, hc⟩ := h h0
 exact ⟨b, off, hp, fun i hi => ⟨cell_later hb (hc i hi).1, cell_later hb (hc i hi).2⟩⟩
end Go.Proofs.YtabnimgpednhjabGreat.Gg

namespace Go.Proofs.YtabnimgpednhjabGreat.Gg
open Go.RowKit
set_option maxRecDepth 100000
def findE (f : Int → Bool) (l : List Int) : Int := match l.findIdx? f with | some i => (i : Int) | none => -1
theorem findE_ge (f : Int → Bool) (l : List Int) : decide (0 ≤ findE f l) = l.any f := by
 unfold findE
 cases h : l.findIdx? f with
 | none =>
   rw [List.findIdx?_eq_none_iff] at h
   have : l.any f = false := by rw [List.any_eq_false]; intro x hx; simp [h x hx]
   rw [this]; rfl
 | some i =>
   have : l.any f = true := by
     rw [List.any_eq_true]
     rw [List.findIdx?_eq_some_iff_getElem] at h
     obtain ⟨h1, h2, _⟩ := h
     exact ⟨l[i], List.getElem_mem h1, h2⟩
   rw [this]
   simp
theorem findE_hit (f : Int → Bool) (l : List Int) (k : Nat) (hk : k < l.length) (h : ∀ i (hi : i < l.length), i < k → f l[i] = false) (hf : f l[k] = true) : findE f l = k := by
 have : l.findIdx? f = some k := by
   rw [List.findIdx?_eq_some_iff_getElem]
   exact ⟨hk, hf, fun j hj => by simp [h j (by omega) hj]⟩
 unfold findE
 rw [this]
theorem findE_miss (f : Int → Bool) (l : List Int) (h : ∀ i (hi : i < l.length), f l[i] = false) : findE f l = -1 := by
 have : l.findIdx? f = none := by
   rw [List.findIdx?_eq_none_iff]
   intro x hx
   obtain ⟨i, hi, rfl⟩ := List.getElem_of_mem hx
   exact h i hi
 unfold findE
 rw [this]
set_option maxHeartbeats 2000000 in
theorem indexFunc_any (fn : FuncId) (c : Value) (f : Int → Bool) (l : List Int) (p : Option Addr) (cap : Nat) (w : World) (hl : l.length ≤ maxLen) (hI : IntsAt w p l) (hent : ∀ (args : Array Value) (w : World), (callFunc fn args).run Tryz.prog w = .ok (.enter fn args) w)
   (hcl : ∀ wr, Below w.heap.size w wr → ∀ i (h : i < l.length), Calls Tryz.prog fn #[.int .i64 l[i], c] wr fun e w' => e = .returned (.bool (f l[i])) ∧ Below wr.heap.size wr w') :
   Calls Tryz.prog 47 #[.slice p l.length cap, .func (.func fn) #[] #[c]] w fun e w' => e = .returned (.int .i64 (findE f l)) ∧ Below w.heap.size w w' := by
 have HC : Hid _ := hcl
 unfold maxLen at hl
 clear hcl
 go_enter Tryz.func47, Tryz.ntmps47
 go_wp2
 go_loopw [8] (fun i wr => ∃ k : Nat, k ≤ l.length ∧ i = .int .i64 k ∧ Hid (∀ i (hi : i < l.length), i < k → f l[i] = false) ∧ Below w.heap.size w wr) (fun i _ => l.length - (intOf i).toNat)
 case atStart => exact ⟨0, Nat.zero_le _, rfl, fun i hi h => by omega, Below.refl _ _⟩
 case round =>
   obtain ⟨k, hk, rfl, hno, hbw⟩ := hrel
   by_cases hlt : k < l.length
   · obtain ⟨b, off, rfl, hc⟩ := (hI.later hbw) (by omega)
     have hck := hc k hlt
     have hcall := HC.out wr hbw k hlt
     have HH : Hid _ := findE_hit f l k hlt hno.out
     clear hc
     cases hf : f l[k]
     · have HN : Hid (∀ i (hi : i < l.length), i < k + 1 → f l[i] = false) := by
         intro i hi h
         rcases Nat.lt_succ_iff_lt_or_eq.1 h with h1 | rfl
         · exact hno.out i hi h1
         · exact hf
       rw [hf] at hcall
       have HCC : Hid (Unit → _) := fun _ => hcall
       clear hcall hf hno HH
       generalize l[k] = x at *
       go_wp2_with fail
       refine (HCC.out ()).mono ?_
       rintro e w' ⟨rfl, hb2⟩
       go_wp2
       go_roundw
       case rel => exact ⟨k + 1, by omega, by go_num, HN, bthen hbw hb2⟩
       case measure => simp [intOf]; omega
     · rw [hf] at hcall
       have HCC : Hid (Unit → _) := fun _ => hcall
       have HV : Hid (findE f l = k) := HH.out hf
       clear hcall hf hno HH
       generalize l[k] = x at *
       go_wp2_with fail
       refine (HCC.out ()).mono ?_
       rintro e w' ⟨rfl, hb2⟩
       go_wp2
       go_ret
       exact ⟨ret_int HV.out.symm, bthen hbw hb2⟩
   · have HV : Hid (findE f l = -1) := findE_miss f l (fun i hi => hno.out i hi (by omega))
     go_wp2
     go_ret
     exact ⟨ret_int HV.out.symm, hbw⟩
theorem containsFunc_any (fn : FuncId) (c : Value) (f : Int → Bool) (l : List Int) (p : Option Addr) (cap : Nat) (w : World) (hl : l.length ≤ maxLen) (hI : IntsAt w p l) (hent : ∀ (args : Array Value) (w : World), (callFunc fn args).run Tryz.prog w = .ok (.enter fn args) w)
   (hcl : ∀ wr, Below w.heap.size w wr → ∀ i (h : i < l.length), Calls Tryz.prog fn #[.int .i64 l[i], c] wr fun e w' => e = .returned (.bool (f l[i])) ∧ Below wr.heap.size wr w') :
   Calls Tryz.prog 27 #[.slice p l.length cap, .func (.func fn) #[] #[c]] w fun e w' => e = .returned (.bool (l.any f)) ∧ Below w.heap.size w w' := by
 have HC := fun _ : Unit => indexFunc_any fn c f l p cap w hl hI hent hcl
 have HG : Hid _ := findE_ge f l
 have HCC : Hid _ := HC
 clear HC hcl hent
 generalize findE f l = x at *
 go_enter Tryz.func27, Tryz.ntmps27
 go_wp2_with fail
 refine (HCC.out ()).mono ?_
 rintro e w' ⟨rfl, hb2⟩
 go_wp2
 go_ret
 exact ⟨ret_bool HG.out, hb2⟩
theorem enter30 (args : Array Value) (w : World) : (callFunc 46 args).run Tryz.prog w = .ok (.enter 46 args) w := by kernel_rfl
def noLit (e x : Int) : Bool := decide (x < 0) || decide (e ≤ x)
theorem has1_any (x e : Int) (B : Nat) (w : World) (hB : w.cell? ⟨B, 0, none⟩ = some (.int .i64 e)) :
   Calls Tryz.prog 46 #[.int .i64 x, .pointer (some ⟨B, 0, none⟩)] w fun r w' => r = .returned (.bool (noLit e x)) ∧ Below w.heap.size w w' := by
 have HE : Hid (noLit e x = (decide (x < 0) || decide (e ≤ x))) := rfl
 generalize noLit e x = R at *
 by_cases h : x < 0
 · have HX : Hid (R = true) := by rw [HE.out]; simp [h, Hid]
   go_enter Tryz.func46, Tryz.ntmps46
   go_wp2
   go_ret
   exact ⟨ret_bool HX.out.symm, Below.refl _ _⟩
 · have HX : Hid (R = decide (e ≤ x)) := by rw [HE.out]; simp [h, Hid]
   go_enter Tryz.func46, Tryz.ntmps46
   go_wp2
   go_ret
   exact ⟨ret_bool HX.out.symm, Below.refl _ _⟩
set_option maxHeartbeats 1000000 in
theorem has_any (ins : Int) (p : Option Addr) (len cap : Nat) (h0 : 0 ≤ ins) (h1 : ins ≤ 1000) (h2 : len ≤ 1000001) (l : List Int) (q : Option Addr) (qc : Nat) (hl : l.length ≤ maxLen) (w : World) (hI : IntsAt w q l) :
   Calls Tryz.prog 26 #[gval ins p len cap, .slice q l.length qc] w fun r w' => r = .returned (.bool (!l.any (noLit (2 * (1 + ins + len))))) ∧ Below w.heap.size w w' := by
 have hB0 : Below w.heap.size w (w.alloc (.cells #[.int .i64 ins, .slice p len cap] 24)) := bal (Below.refl _ _) _
 have HI := hide hI
 clear hI
 go_enter Tryz.func26, Tryz.ntmps26
 go_wp2_with (first | (go_at_call 44; refine (literal_any _ (by omega) (by omega) _).mono ?_; rintro e w' ⟨rfl, rfl⟩) | fail)
 refine (nodes_any _ _ _ _ h0 h1 h2 _).mono ?_
 rintro e w1 ⟨rfl, hb1⟩
 have HB1 := hide (bthen hB0 hb1)
 clear hb1 hB0
 go_wp2_with (first | (go_at_call 44; refine (literal_any _ (by omega) (by omega) _).mono ?_; rintro e w' ⟨rfl, rfl⟩) | fail)
 have hb2 : Below w'.heap.size w' (w'.alloc (.cells #[.int .i64 (2 * (1 + ins + ↑len))] 3)) := bal (Below.refl _ _) _
 refine (containsFunc_any 46 _ (noLit (2 * (1 + ins + ↑len))) l q qc _ hl ((HI.out.later HB1.out).later hb2) enter30 fun wr hb i hi => has1_any _ _ _ _ (cell_later hb (by simp [go_sem]))).mono ?_
 rintro e w2 ⟨rfl, hb3⟩
 have HB2 := hide (bthen (bthen HB1.out hb2) hb3)
 clear HB1 hb2 hb3
 go_wp2
 go_ret
 exact ⟨rfl, HB2.out⟩
end Go.Proofs.YtabnimgpednhjabGreat.Gg

namespace Go.Proofs.YtabnimgpednhjabGreat.Gg
open Go.RowKit Go.Maps Go.WideMaps
set_option maxRecDepth 100000
def Wf (x : Int) : Prop := -9223372036854775808 ≤ x ∧ x ≤ 9223372036854775807
theorem Wf.lit {x : Int} (h : Wf x) : (Lit.int .i64 x).wf = true := WalkArith.wf_i64 h
theorem arr : ArrKey Tryz.prog 81 3 2 := ⟨Tryz.underlying81, by kernel_rfl, by kernel_rfl, by kernel_rfl⟩
theorem law55 : Keyed Tryz.prog 81 := Keyed.of_law arr.law
theorem sized : ∃ m, Tryz.prog.types.size = m + 1 := ⟨170, by kernel_rfl⟩
def keyL (a b : Int) : Lit := .string (keyBytes [.int .i64 a, .int .i64 b])
theorem key55 {a b : Int} (ha : Wf a) (hb : Wf b) : keyOf Tryz.prog 81 (arr2 a b) = some (keyL a b) := keyOf_pair arr Tryz.underlying3 sized ha.lit hb.lit
theorem keyL_inj {a b c d : Int} (ha : Wf a) (hb : Wf b) (hc : Wf c) (hd : Wf d) : keyL a b = keyL c d ↔ (a, b) = (c, d) := by
 constructor
 · intro h
   have h1 := key55 ha hb
   rw [h] at h1
   have := law55.inj h1 (key55 hc hd)
   simp at this
   simp [this]
 · intro h
   cases h
   rfl
def eqP (a b c d : Int) : Bool := decide ((a, b) = (c, d))
theorem run_equal55 {a b c d : Int} (ha : Wf a) (hb : Wf b) (hc : Wf c) (hd : Wf d) (w : World) : (Op.equal 81 (arr2 a b) (arr2 c d)).run Tryz.prog w = .ok (eqP a b c d) w := by
 obtain ⟨r, h1, h2⟩ := run_equal_deep w (m := 2) (by omega) (arr.at 0) arr.wide (key55 ha hb) (key55 hc hd)
 rw [h1]
 congr 1
 rw [Bool.eq_iff_iff, h2, keyL_inj ha hb hc hd]
 simp [eqP]
theorem run_eql55 {a b c d : Int} (ha : Wf a) (hb : Wf b) (hc : Wf c) (hd : Wf d) (w : World) : (binOp .eql 81 (arr2 a b) (arr2 c d)).run Tryz.prog w = .ok (.bool (eqP a b c d)) w := by
 simp only [binOp]
 simp [run_equal55 ha hb hc hd w]
theorem run_neq55 {a b c d : Int} (ha : Wf a) (hb : Wf b) (hc : Wf c) (hd : Wf d) (w : World) : (binOp .neq 81 (arr2 a b) (arr2 c d)).run Tryz.prog w = .ok (.bool (!eqP a b c d)) w := by
 simp only [binOp]
 simp [run_equal55 ha hb hc hd w]
def WfP (ps : List (Int × Int)) : Prop := ∀ (i : Nat) (h : i < ps.length), Wf ps[i].1 ∧ Wf ps[i].2
def andAt (ps : List (Int × Int)) (k : Nat) (x : Int × Int) : Int := match (ps.take k).findIdx? (· == x) with | some i => (i : Int) | none => -1
theorem andAt_hit (ps : List (Int × Int)) (n k : Nat) (x : Int × Int) (hk : k < ps.length) (hn : k < n) (h : ∀ i (hi : i < ps.length), i < k → ps[i] ≠ x) (hx : ps[k] = x) : andAt ps n x = k := by
 have : (ps.take n).findIdx? (· == x) = some k := by
   rw [List.findIdx?_eq_some_iff_getElem]
   refine ⟨by rw [List.length_take]; omega, by simp [hx], fun j hj => ?_⟩
   simp only [List.getElem_take]
   simpa using h j (by omega) hj
 unfold andAt
 rw [this]
theorem andAt_miss (ps : List (Int × Int)) (n : Nat) (x : Int × Int) (h : ∀ i (hi : i < ps.length), i < n → ps[i] ≠ x) : andAt ps n x = -1 := by
 have : (ps.take n).findIdx? (· == x) = none := by
   rw [List.findIdx?_eq_none_iff]
   intro y hy
   obtain ⟨i, hi, rfl⟩ := List.getElem_of_mem hy
   simp only [List.getElem_take]
   rw [List.length_take] at hi
   simpa using h i (by omega) (by omega)
 unfold andAt
 rw [this]
set_option maxHeartbeats 2000000 in
theorem andAt_any (ins : Int) (p : Option Addr) (cap : Nat) (ps : List (Int × Int)) (hl : ps.length ≤ 1000001) (hwf : WfP ps) (n : Nat) (hn : n ≤ ps.length) (a b : Int) (ha : Wf a) (hb : Wf b) (w : World) (hP : PairsAt w p ps) :
   Calls Tryz.prog 48 #[gval ins p ps.length cap, .int .i64 n, arr2 a b] w fun e w' => e = .returned (.int .i64 (andAt ps n (a, b))) ∧ Below w.heap.size w w' := by
 have HWF := hide hwf
 have HAB := hide (And.intro ha hb)
 clear hwf ha hb
 have hB0 : Below w.heap.size w ((w.alloc (.cells #[.int .i64 ins, .slice p ps.length cap] 24)).alloc (.cells #[.int .i64 a, .int .i64 b] 81)) := bal (bal (Below.refl _ _) _) _
 go_enter Tryz.func48, Tryz.ntmps48
 go_wp2
 go_loopw [7] (fun i wr => ∃ k : Nat, k ≤ n ∧ i = .int .i64 k ∧ Hid (∀ i (hi : i < ps.length), i < k → ps[i] ≠ (a, b)) ∧ Below w.heap.size w wr ∧ wr.cell? ⟨w.heap.size, 1, none⟩ = some (.slice p ps.length cap) ∧ wr.cell? ⟨w.heap.size + 1, 0, none⟩ = some (.int .i64 a) ∧ wr.cell? ⟨w.heap.size + 1, 1, none⟩ = some (.int .i64 b)) (fun i _ => n - (intOf i).toNat)
 case atStart => exact ⟨0, Nat.zero_le _, rfl, fun i hi h => by omega, hB0, by simp [go_sem], by simp [go_sem], by simp [go_sem]⟩
 case round =>
   obtain ⟨k, hk, rfl, hno, hbw, q1, r0, r1⟩ := hrel
   by_cases hlt : k < n
   · have hkl : k < ps.length := by omega
     obtain ⟨bb, off, rfl, hc⟩ := (hP.later hbw) (by omega)
     obtain ⟨c0, c1⟩ := hc k hkl
     have HH := hide (andAt_hit ps n k (a, b) hkl hlt hno.out)
     have HN : Hid (ps[k] ≠ (a, b) → ∀ i (hi : i < ps.length), i < k + 1 → ps[i] ≠ (a, b)) := by
       intro hne i hi h
       rcases Nat.lt_succ_iff_lt_or_eq.1 h with h1 | rfl
       · exact hno.out i hi h1
       · exact hne
     have hki : (k : Int) < (ps.length : Int) := by omega
     have hwk := HWF.out k hkl
     have he := @run_eql55 ps[k].1 ps[k].2 a b hwk.1 hwk.2 HAB.out.1 HAB.out.2
     clear hc hno hwk
     generalize ps[k] = pr at *
     obtain ⟨s, y⟩ := pr
     simp only at *
     cases hx : eqP s y a b
     · rw [hx] at he
       have HNN := hide (HN.out (by simpa [eqP] using hx))
       clear hx HH HN
       go_wp2
       go_quiet (fail)
       go_wp2
       go_roundw
       case rel => exact ⟨k + 1, by omega, by go_num, HNN, bdn hbw _, q1, r0, r1⟩
       case measure => simp [intOf]; omega
     · rw [hx] at he
       have HV := hide (HH.out (by simpa [eqP] using hx))
       clear hx HH HN
       go_wp2
       go_quiet (fail)
       go_wp2
       go_ret
       exact ⟨ret_int HV.out.symm, bdn hbw _⟩
   · have HV : Hid (andAt ps n (a, b) = -1) := andAt_miss ps n (a, b) (fun i hi h => hno.out i hi (by omega))
     go_wp2
     go_ret
     exact ⟨ret_int HV.out.symm, hbw⟩
def isLit (e x : Int) : Bool := !noLit e x
theorem isLit_any (ins : Int) (p : Option Addr) (len cap : Nat) (x : Int) (h0 : 0 ≤ ins) (h1 : ins ≤ 1000) (h2 : len ≤ 1000001) (w : World) :
   Calls Tryz.prog 29 #[gval ins p len cap, .int .i64 x] w fun r w' => r = .returned (.bool (isLit (2 * (1 + ins + len)) x)) ∧ Below w.heap.size w w' := by
 have HE : Hid (btw x 0 (2 * (1 + ins + len) - 1) = isLit (2 * (1 + ins + len)) x) := by
   rw [Bool.eq_iff_iff, btw_true]; simp [isLit, noLit, Hid]; omega
 generalize isLit (2 * (1 + ins + len)) x = R at *
 go_enter Tryz.func29, Tryz.ntmps29
 go_wp2_with (go_at_call 39; refine (between_any _ _ _ _).mono ?_; rintro e w' ⟨rfl, rfl⟩)
 go_ret
 exact ⟨ret_bool HE.out, bal (Below.refl _ _) _⟩
set_option maxHeartbeats 2000000 in
theorem areLits_any (ins : Int) (p : Option Addr) (len cap : Nat) (h0 : 0 ≤ ins) (h1 : ins ≤ 1000) (h2 : len ≤ 1000001) (l : List Int) (q : Option Addr) (qc : Nat) (hl : l.length ≤ maxLen) (w : World) (hI : IntsAt w q l) :
   Calls Tryz.prog 30 #[gval ins p len cap, .slice q l.length qc] w fun r w' => r = .returned (.bool (l.all (isLit (2 * (1 + ins + len))))) ∧ Below w.heap.size w w' := by
 have hB0 : Below w.heap.size w (w.alloc (.cells #[.int .i64 ins, .slice p len cap] 24)) := bal (Below.refl _ _) _
 unfold maxLen at hl
 go_enter Tryz.func30, Tryz.ntmps30
 go_wp2
 go_loopw [5] (fun i wr => ∃ k : Nat, k ≤ l.length ∧ i = .int .i64 k ∧ Hid (∀ i (hi : i < l.length), i < k → isLit (2 * (1 + ins + len)) l[i] = true) ∧ Below w.heap.size w wr ∧ wr.cell? ⟨w.heap.size, 0, none⟩ = some (.int .i64 ins) ∧ wr.cell? ⟨w.heap.size, 1, none⟩ = some (.slice p len cap)) (fun i _ => l.length - (intOf i).toNat)
 case atStart => exact ⟨0, Nat.zero_le _, rfl, fun i hi h => by omega, hB0, by simp [go_sem], by simp [go_sem]⟩
 case round =>
   obtain ⟨k, hk, rfl, hno, hbw, q0, q1⟩ := hrel
   by_cases hlt : k < l.length
   · obtain ⟨bb, off, rfl, hc⟩ := (hI.later hbw) (by omega)
     have c0 := hc k hlt
     have hki : (k : Int) < (l.length : Int) := by omega
     have HB := hide hbw
     cases hx : isLit (2 * (1 + ins + len)) l[k]
     · have HX : Hid (l.all (isLit (2 * (1 + ins + len))) = false) := by
         rw [Bool.eq_false_iff]; intro h; rw [List.all_eq_true] at h; rw [h _ (List.getElem_mem hlt)] at hx; cases hx
       have HX2 := hide hx
       clear hc hx hno hbw hB0
       generalize l[k] = x at *
       go_wp2
       go_region_held3 (fun w' => w'.cell? ⟨w.heap.size, 0, none⟩ = some (.int .i64 ins) ∧ w'.cell? ⟨w.heap.size, 1, none⟩ = some (.slice p len cap) ∧ w'.cell? ⟨bb, off + k, none⟩ = some (.int .i64 x))
         (first | exact ⟨q0, q1, c0⟩ | exact ⟨cell_later hb1 q0, cell_later hb1 q1, cell_later hb1 c0⟩ | go_keep)
         ((go_at_call 29; refine (isLit_any _ _ _ _ _ h0 h1 h2 _).mono ?_; rintro e w1 ⟨rfl, hb1⟩; rw [HX2.out]))
       have HB2 := hide (bthen HB.out.drew hb1)
       clear hb1
       go_wp2
       go_ret
       exact ⟨ret_bool HX.out.symm, HB2.out⟩
     · have HN : Hid (∀ i (hi : i < l.length), i < k + 1 → isLit (2 * (1 + ins + len)) l[i] = true) := by
         intro i hi h
         rcases Nat.lt_succ_iff_lt_or_eq.1 h with h1 | rfl
         · exact hno.out i hi h1
         · exact hx
       have HX2 := hide hx
       clear hc hx hno hbw hB0
       generalize l[k] = x at *
       go_wp2
       go_region_held3 (fun w' => w'.cell? ⟨w.heap.size, 0, none⟩ = some (.int .i64 ins) ∧ w'.cell? ⟨w.heap.size, 1, none⟩ = some (.slice p len cap) ∧ w'.cell? ⟨bb, off + k, none⟩ = some (.int .i64 x))
         (first | exact ⟨q0, q1, c0⟩ | exact ⟨cell_later hb1 q0, cell_later hb1 q1, cell_later hb1 c0⟩ | go_keep)
         ((go_at_call 29; refine (isLit_any _ _ _ _ _ h0 h1 h2 _).mono ?_; rintro e w1 ⟨rfl, hb1⟩; rw [HX2.out]))
       have HB2 := hide (bthen HB.out.drew hb1)
       have q0' := cell_later hb1 (show wr.drew.cell? _ = _ from q0)
       have q1' := cell_later hb1 (show wr.drew.cell? _ = _ from q1)
       clear hb1
       go_wp2
       go_roundw
       case rel => exact ⟨k + 1, by omega, by go_num, HN, HB2.out, q0', q1'⟩
       case measure => simp [intOf]; omega
   · have HV : Hid (l.all (isLit (2 * (1 + ins + len))) = true) := by
       rw [List.all_eq_true]
       intro x hx
       obtain ⟨i, hi, rfl⟩ := List.getElem_of_mem hx
       exact hno.out i hi (by omega)
     go_wp2
     go_ret
     exact ⟨ret_bool HV.out.symm, hbw⟩
def litV (v : List Bool) (x : Int) : Bool := v.getD (x / 2).toNat false != odd x
theorem getD_bools {v : List Bool} {i : Nat} (h : i < v.length) : v.getD i false = v[i] := by simp [List.getD, List.getElem?_eq_getElem h]
set_option maxHeartbeats 1000000 in
theorem litOf_any (v : List Bool) (p : Option Addr) (cap : Nat) (x : Int) (h0 : 0 ≤ x) (hx : x < 2 * v.length) (hl : v.length ≤ 10000000) (w : World) (hV : BoolsAt w p v) :
   Calls Tryz.prog 20 #[.slice p v.length cap, .int .i64 x] w fun r w' => r = .returned (.bool (litV v x)) ∧ w' = w := by
 have hk : (x / 2).toNat < v.length := by omega
 have HE : Hid (litV v x = (v[(x / 2).toNat] != odd x)) := by unfold litV; rw [getD_bools hk]; rfl
 obtain ⟨b, off, rfl, hc⟩ := hV (by omega)
 have c0 := hc _ hk
 clear hc hV
 generalize v[(x / 2).toNat] = y at *
 generalize litV v x = R at *
 have h3 : 0 ≤ x / 2 := by omega
 have h4 : x / 2 < (v.length : Int) := by omega
 by_cases ho : x % 2 = 1
 · have HX : Hid (R = !y) := by rw [HE.out, show odd x = true from by simp [odd, ho]]; cases y <;> rfl
   go_enter Tryz.func20, Tryz.ntmps20
   go_wp2
   go_ret
   exact ⟨ret_bool HX.out.symm, rfl⟩
 · have HX : Hid (R = y) := by rw [HE.out, show odd x = false from by simp [odd, ho]]; cases y <;> rfl
   go_enter Tryz.func20, Tryz.ntmps20
   go_wp2
   go_ret
   exact ⟨ret_bool HX.out.symm, rfl⟩
end Go.Proofs.YtabnimgpednhjabGreat.Gg

namespace Go.Proofs.YtabnimgpednhjabGreat.Gg
open Go.RowKit Go.Maps Go.WideMaps
set_option maxRecDepth 100000
def sameG (i j : Int) (ps qs : List (Int × Int)) : Bool := decide (i = j) && decide (ps = qs)
set_option maxHeartbeats 2000000 in
theorem sameGraph_any (i j : Int) (ps qs : List (Int × Int)) (hwp : WfP ps) (hwq : WfP qs) (p q : Option Addr) (pc qc : Nat) (hl : ps.length ≤ 8796093022208) (w : World) (hU : PairsAt w p ps) (hV : PairsAt w q qs) :
   Calls Tryz.prog 10 #[gval i p ps.length pc, gval j q qs.length qc] w fun r w' => r = .returned (.bool (sameG i j ps qs)) ∧ Below w.heap.size w w' := by
 have hB0 : Below w.heap.size w ((w.alloc (.cells #[.int .i64 i, .slice p ps.length pc] 24)).alloc (.cells #[.int .i64 j, .slice q qs.length qc] 24)) := bal (bal (Below.refl _ _) _) _
 have HWP := hide hwp
 have HWQ := hide hwq
 clear hwp hwq
 by_cases hij : i = j
 · subst hij
   have HS : Hid (sameG i i ps qs = decide (ps = qs)) := by simp [sameG, Hid]
   generalize sameG i i ps qs = R at *
   by_cases hn : ps.length = qs.length
   · have HN := hide hn
     rw [show qs.length = ps.length from hn.symm] at hB0 ⊢
     clear hn
     go_enter Tryz.func10, Tryz.ntmps10
     go_wp2
     go_loopw [5] (fun i wr => ∃ k : Nat, k ≤ ps.length ∧ i = .int .i64 k ∧ Hid (∀ i (hi : i < ps.length) (hj : i < qs.length), i < k → ps[i] = qs[i]) ∧ Below w.heap.size w wr ∧ wr.cell? ⟨w.heap.size, 1, none⟩ = some (.slice p ps.length pc) ∧ wr.cell? ⟨w.heap.size + 1, 1, none⟩ = some (.slice q ps.length qc)) (fun i _ => ps.length - (intOf i).toNat)
     case atStart => exact ⟨0, Nat.zero_le _, rfl, fun i hi hj h => by omega, hB0, by simp [go_sem], by simp [go_sem]⟩
     case round =>
       obtain ⟨k, hk, rfl, hno, hbw, q0, q1⟩ := hrel
       by_cases hlt : k < ps.length
       · have hlt2 : k < qs.length := by rw [← HN.out]; exact hlt
         obtain ⟨b1, o1, rfl, hc1⟩ := (hU.later hbw) (by omega)
         obtain ⟨b2, o2, rfl, hc2⟩ := (hV.later hbw) (by omega)
         obtain ⟨c0, c1⟩ := hc1 k hlt
         obtain ⟨d0, d1⟩ := hc2 k hlt2
         have hki : (k : Int) < (ps.length : Int) := by omega
         have hw1 := HWP.out k hlt
         have hw2 := HWQ.out k hlt2
         have he := @run_neq55 ps[k].1 ps[k].2 qs[k].1 qs[k].2 hw1.1 hw1.2 hw2.1 hw2.2
         have HNN : Hid (ps[k] = qs[k] → ∀ i (hi : i < ps.length) (hj : i < qs.length), i < k + 1 → ps[i] = qs[i]) := by
           intro he i hi hj h
           rcases Nat.lt_succ_iff_lt_or_eq.1 h with h1 | rfl
           · exact hno.out i hi hj h1
           · exact he
         have HX : Hid (ps[k] ≠ qs[k] → R = false) := by
           intro hne
           rw [HS.out, decide_eq_false_iff_not]
           intro e
           subst e
           exact hne rfl
         clear hc1 hc2 hno hw1 hw2
         generalize ps[k] = x at *
         generalize qs[k] = y at *
         obtain ⟨x1, x2⟩ := x
         obtain ⟨y1, y2⟩ := y
         simp only at *
         cases hxy : eqP x1 x2 y1 y2
         · have HK := hide (HX.out (by simpa [eqP] using hxy))
           rw [hxy] at he
           clear HNN HX hxy
           go_wp2
           go_quiet (fail)
           go_wp2
           go_ret
           exact ⟨ret_bool HK.out.symm, bdn hbw _⟩
         · have HK := hide (HNN.out (by simpa [eqP] using hxy))
           rw [hxy] at he
           clear HNN HX hxy
           go_wp2
           go_quiet (fail)
           go_wp2
           go_roundw
           case rel => exact ⟨k + 1, by omega, by go_num, HK, bdn hbw _, q0, q1⟩
           case measure => simp [intOf]; omega
       · have HK : Hid (R = true) := by
           rw [Hid, HS.out, decide_eq_true_iff]
           exact List.ext_getElem HN.out fun i hi hj => hno.out i hi hj (by omega)
         go_wp2
         go_ret
         exact ⟨ret_bool HK.out.symm, hbw⟩
   · have hx : ((ps.length : Int) != (qs.length : Int)) = true := by simp; omega
     have HK : Hid (R = false) := by
       rw [Hid, HS.out, decide_eq_false_iff_not]; intro e; exact hn (by rw [e])
     clear hn
     go_enter Tryz.func10, Tryz.ntmps10
     go_wp2
     go_ret
     exact ⟨ret_bool HK.out.symm, hB0⟩
 · have HS : Hid (sameG i j ps qs = false) := by simp [sameG, hij, Hid]
   have hx : (i != j) = true := by simpa using hij
   clear hij
   go_enter Tryz.func10, Tryz.ntmps10
   go_wp2
   go_ret
   exact ⟨ret_bool HS.out.symm, hB0⟩
def stN (ins : Int) (ps : List (Int × Int)) : Nat → Bool
 | 0 => true
 | k + 1 => stN ins ps k && (match ps[k]? with | some p => standB p.1 p.2 (1 + ins + k) | none => true)
theorem stN_succ {ins : Int} {ps : List (Int × Int)} {k : Nat} (h : k < ps.length) : stN ins ps (k + 1) = (stN ins ps k && standB ps[k].1 ps[k].2 (1 + ins + k)) := by
 simp [stN, List.getElem?_eq_getElem h]
theorem stN_down {ins : Int} {ps : List (Int × Int)} {k n : Nat} (h : stN ins ps n = true) (hk : k ≤ n) : stN ins ps k = true := by
 induction n with
 | zero => obtain rfl : k = 0 := by omega
           exact h
 | succ n ih =>
   by_cases e : k = n + 1
   · rw [e]; exact h
   · simp only [stN, Bool.and_eq_true] at h
     exact ih h.1 (by omega)
def dupN (ps : List (Int × Int)) : Nat → Bool
 | 0 => false
 | k + 1 => dupN ps k || (match ps[k]? with | some p => decide (0 ≤ andAt ps k p) | none => false)
theorem dupN_succ {ps : List (Int × Int)} {k : Nat} (h : k < ps.length) : dupN ps (k + 1) = (dupN ps k || decide (0 ≤ andAt ps k ps[k])) := by
 simp [dupN, List.getElem?_eq_getElem h]
theorem dupN_up {ps : List (Int × Int)} {k n : Nat} (h : dupN ps k = true) (hk : k ≤ n) : dupN ps n = true := by
 induction n with
 | zero => obtain rfl : k = 0 := by omega
           exact h
 | succ n ih =>
   by_cases e : k = n + 1
   · rw [← e]; exact h
   · simp only [dupN, Bool.or_eq_true]
     exact Or.inl (ih (by omega))
def chkE (ins : Int) (ps : List (Int × Int)) : Int :=
 if btw ins 0 1000 = false then 3 else if 1000000 < ps.length then 2 else if stN ins ps ps.length = false then 4 else if dupN ps ps.length = true then 6 else 0
theorem chk_range {ins : Int} {ps : List (Int × Int)} (h : btw ins 0 1000 = false) : chkE ins ps = 3 := by unfold chkE; rw [if_pos h]
theorem chk_many {ins : Int} {ps : List (Int × Int)} (h : btw ins 0 1000 = true) (h2 : 1000000 < ps.length) : chkE ins ps = 2 := by unfold chkE; rw [if_neg (by simp [h]), if_pos h2]
theorem chk_state {ins : Int} {ps : List (Int × Int)} (h : btw ins 0 1000 = true) (h2 : ps.length ≤ 1000000) (h3 : stN ins ps ps.length = false) : chkE ins ps = 4 := by unfold chkE; rw [if_neg (by simp [h]), if_neg (by omega), if_pos h3]
theorem chk_twice {ins : Int} {ps : List (Int × Int)} (h : btw ins 0 1000 = true) (h2 : ps.length ≤ 1000000) (h3 : stN ins ps ps.length = true) (h4 : dupN ps ps.length = true) : chkE ins ps = 6 := by
 unfold chkE; rw [if_neg (by simp [h]), if_neg (by omega), if_neg (by simp [h3]), if_pos h4]
theorem chk_ok {ins : Int} {ps : List (Int × Int)} (h : btw ins 0 1000 = true) (h2 : ps.length ≤ 1000000) (h3 : stN ins ps ps.length = true) (h4 : dupN ps ps.length = false) : chkE ins ps = 0 := by
 unfold chkE; rw [if_neg (by simp [h]), if_neg (by omega), if_neg (by simp [h3]), if_neg (by simp [h4])]
theorem chk_zero {ins : Int} {ps : List (Int × Int)} (h : chkE ins ps = 0) : 0 ≤ ins ∧ ins ≤ 1000 ∧ ps.length ≤ 1000000 ∧ stN ins ps ps.length = true ∧ dupN ps ps.length = false := by
 unfold chkE at h
 split at h
 · cases h
 split at h
 · cases h
 split at h
 · cases h
 split at h
 · cases h
 rename_i h1 h2 h3 h4
 have h1' := btw_true.1 (by simpa using h1)
 exact ⟨h1'.1, h1'.2, by omega, by simpa using h3, by simpa using h4⟩
end Go.Proofs.YtabnimgpednhjabGreat.Gg
