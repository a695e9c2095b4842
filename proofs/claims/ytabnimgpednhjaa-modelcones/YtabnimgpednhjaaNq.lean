/- The plain cone. -/
import Derived.Test.YtabnimgpednhjaaNp
import Derived.Test.YtabnimgpednhjaaNi
namespace Go.Proofs.Ytabnimgpednhjaa
open Go.RowKit

/-- The roots that have been marked. -/
structure Marked (n : Nat) (rs : List Int) (k : Nat) (b : List Bool) : Prop where
  len : b.length = n
  up : ∀ i (hi : i < rs.length), i < k → b.getD rs[i].toNat false = true
  down : ∀ j, b.getD j false = true → ∃ r ∈ rs, r.toNat = j

theorem Marked.start (n : Nat) (rs : List Int) : Marked n rs 0 (List.replicate n false) :=
  ⟨by simp, fun i hi h => by omega, fun j h => (by rw [getD_rep] at h; cases h)⟩

theorem Marked.step {n : Nat} {rs : List Int} {k : Nat} {b : List Bool} (h : Marked n rs k b) (hk : k < rs.length) (hr : 0 ≤ rs[k] ∧ rs[k] < n) : Marked n rs (k + 1) (b.set rs[k].toNat true) := by
  have hlt : rs[k].toNat < b.length := by have := h.len; omega
  refine ⟨by simpa using h.len, ?_, ?_⟩
  · intro i hi hik
    rw [getD_set _ _ _ hlt]
    split
    · rfl
    · rename_i hne
      rcases Nat.lt_succ_iff_lt_or_eq.1 hik with h1 | rfl
      · exact h.up i hi h1
      · exact absurd rfl hne
  · intro j hj
    rw [getD_set _ _ _ hlt] at hj
    by_cases he : j = rs[k].toNat
    · exact ⟨rs[k], List.getElem_mem hk, he.symm⟩
    · rw [if_neg he] at hj; exact h.down j hj

theorem Marked.turn {ns : List Nd} {is xs : List (Int × Int)} {rs : List Int} {b : List Bool} (h : Marked ns.length rs rs.length b) : Turn ns is xs rs b b false :=
  ⟨h.len, fun r hr => by obtain ⟨i, hi, rfl⟩ := List.getElem_of_mem hr; exact h.up i hi hi, fun T hT _ j _ hj => by obtain ⟨r, hr, rfl⟩ := h.down j hj; exact hT r hr, fun _ => rfl, by simp⟩

theorem rg_of {L : List Int} {k n : Nat} (hk : k < n) (h : ∀ u ∈ L, 0 ≤ u ∧ u < (k : Int)) (u : Int) (hu : u ∈ L) : 0 ≤ u ∧ u < (n : Int) := by
  have := h u hu
  omega

theorem GoneN.step {ns : List Nd} {b : List Bool} {ch : Bool} {k : Nat} (h : GoneN ns b ch k) (h2 : ∀ y ∈ opsAt ns k, b.getD y.toNat false = true) : GoneN ns b ch (k + 1) := by
  intro hc i hik hb y hy
  rcases Nat.lt_succ_iff_lt_or_eq.1 hik with h1 | rfl
  · exact h hc i h1 hb y hy
  · exact h2 y hy
theorem GoneN.skip {ns : List Nd} {b : List Bool} {ch : Bool} {k : Nat} (h : GoneN ns b ch k) (h2 : b.getD k false = false) : GoneN ns b ch (k + 1) := by
  intro hc i hik hb y hy
  rcases Nat.lt_succ_iff_lt_or_eq.1 hik with h1 | rfl
  · exact h hc i h1 hb y hy
  · rw [h2] at hb; cases hb
theorem GoneN.put {ns : List Nd} {b : List Bool} {ch : Bool} {k : Nat} {y : Int} (h : GoneN ns b ch k) : GoneN ns (b.set y.toNat true) (ch || !b.getD y.toNat false) k := by
  intro hc
  obtain ⟨h1, h2⟩ := Turn.quiet hc
  rw [set_same b y.toNat h2]
  exact h h1
theorem Gone.step {l : List (Int × Int)} {b : List Bool} {ch : Bool} {k : Nat} (h : Gone l b ch k) (hk : k < l.length) (h2 : b.getD l[k].1.toNat false = true → b.getD l[k].2.toNat false = true) : Gone l b ch (k + 1) := by
  intro hc i hi hik hb
  rcases Nat.lt_succ_iff_lt_or_eq.1 hik with h1 | rfl
  · exact h hc i hi h1 hb
  · exact h2 hb
theorem Gone.put {l : List (Int × Int)} {b : List Bool} {ch : Bool} {k : Nat} {y : Int} (h : Gone l b ch k) : Gone l (b.set y.toNat true) (ch || !b.getD y.toNat false) k := by
  intro hc
  obtain ⟨h1, h2⟩ := Turn.quiet hc
  rw [set_same b y.toNat h2]
  exact h h1

theorem lean_ops {ns : List Nd} {is xs : List (Int × Int)} {k : Nat} (hk : k < ns.length) {u : Int} (hu : u ∈ opsAt ns k) : u ∈ leanL ns is xs k := by
  unfold leanL
  cases h3 : isK ns 3 k
  · rw [if_neg (by simp)]; exact hu
  · exfalso
    rw [isK_at hk] at h3
    rw [opsAt_at hk] at hu
    have e : ns[k].kind = 3 := by simpa using h3
    unfold opsL at hu
    rw [e, show takes 3 = 0 from by decide] at hu
    simp at hu
theorem lean_pair {ns : List Nd} {is xs : List (Int × Int)} {p : Int × Int} (s0 : 0 ≤ p.1) (s1 : p.1 < ns.length) (hkd : kdOf ns p.1 = 3) (h : p ∈ is ∨ p ∈ xs) : p.2 ∈ leanL ns is xs p.1.toNat := by
  unfold leanL
  rw [if_pos (by rw [isK_kdOf s0 s1, hkd]; rfl)]
  have key : ∀ l : List (Int × Int), p ∈ l → p.2 ∈ ofSt (p.1.toNat : Int) l := by
    intro l hl
    unfold ofSt
    exact List.mem_map.2 ⟨p, List.mem_filter.2 ⟨hl, by simp; omega⟩, rfl⟩
  rcases h with h | h
  · exact List.mem_append.2 (.inl (key is h))
  · exact List.mem_append.2 (.inr (key xs h))
theorem lean_pair1 {ns : List Nd} {is xs : List (Int × Int)} {p : Int × Int} (s0 : 0 ≤ p.1) (s1 : p.1 < ns.length) (hkd : kdOf ns p.1 = 3) (h : p ∈ is) : p.2 ∈ leanL ns is xs p.1.toNat := lean_pair s0 s1 hkd (.inl h)
theorem lean_pair2 {ns : List Nd} {is xs : List (Int × Int)} {p : Int × Int} (s0 : 0 ≤ p.1) (s1 : p.1 < ns.length) (hkd : kdOf ns p.1 = 3) (h : p ∈ xs) : p.2 ∈ leanL ns is xs p.1.toNat := lean_pair s0 s1 hkd (.inr h)

theorem CS.first {w wr : World} {m : Mv} {n G B6 : Nat} {b : List Bool} (c : Bool) (hb : Below w.heap.size w wr) (hx : Box wr w.heap.size m n) (hR : BRow wr G b) (h6 : wr.cell? ⟨B6, 0, none⟩ = some (.slice (some ⟨G, 0, none⟩) n n)) (hN : w.heap.size < G) (hG : G < B6) :
    CS w (wr.alloc (.cells #[.bool c] 4)) m n G B6 wr.heap.size b c := by
  have hl := bal (Below.refl _ wr) (.cells #[.bool c] 4)
  exact ⟨bthen hb hl, hx.later hl, hR.later hl, cell_later hl h6, by simp [go_sem], by simp [go_sem], hN, hG, World.block_lt_of_cell? _ _ h6⟩

theorem Box.set {w : World} {B g k : Nat} {m : Mv} {l0 : Nat} {u : Value} (h : Box w B m l0) (hne : ¬ B = g) : Box (w.setCell ⟨g, k, none⟩ u) B m l0 := by
  obtain ⟨q0, q1, q2, q3, q4⟩ := h
  exact ⟨keepOther hne q0, keepOther hne q1, keepOther hne q2, keepOther hne q3, keepOther hne q4⟩

/-- What the plain cone tells. -/
def ConeOk (ns : List Nd) (is xs : List (Int × Int)) (rs : List Int) (ok : Bool) (l : List Int) : Prop :=
  (ok = true → (∀ r ∈ rs, isN ns.length r = true) ∧ ∃ S, l = sel S ns.length ∧ IsCone ns is xs rs S) ∧ (ok = false → l = [] ∧ rs.any (fun x => !isN ns.length x) = true)

/-- Has it changed? -/
def chOf (w : World) : Value → Nat
  | .pointer (some a) => (match w.cell? a with | some (.bool true) => 1 | _ => 0)
  | _ => 0
theorem chOf_at {w : World} {a : Addr} {c : Bool} (h : w.cell? a = some (.bool c)) : chOf w (.pointer (some a)) = if c then 1 else 0 := by
  simp only [chOf, h]; cases c <;> rfl

set_option maxRecDepth 100000 in
set_option maxHeartbeats 8000000 in
theorem coneOf_any (a0 a1 a2 a3 a4 : Option Addr) (c0 c1 c2 c3 c4 : Nat) (ns : List Nd) (is xs : List (Int × Int)) (bs hs : List Int) (hck : checkE ns is xs bs hs = 0) (hli : is.length ≤ 8796093022208) (hlx : xs.length ≤ 8796093022208)
    (rs : List Int) (pr : Option Addr) (cr : Nat) (hlr : rs.length ≤ 17592186044000) (w : World)
    (hN : NodesAt w a0 ns) (hI : PairsAt w a1 is) (hX : PairsAt w a2 xs) (hRs : IntsAt w pr rs) :
    Calls Try.prog 27 #[Mv.val ⟨a0, c0, a1, is.length, c1, a2, xs.length, c2, a3, bs.length, c3, a4, hs.length, c4⟩ ns.length, .slice pr rs.length cr] w fun e w' =>
      ∃ p cap l ok, e = .returned (.tuple #[.slice p l.length cap, .bool ok]) ∧ ConeOk ns is xs rs ok l ∧ IntsAt w' p l ∧ Below w.heap.size w w' := by
  have hmf : ∀ (fn : Fn) (first cap : Array Value) (w : World), (Instr.makeFunc fn first cap).run Try.prog w = .ok (.func fn first cap) w := fun _ _ _ _ => rfl
  obtain ⟨i0, hi, hz0, hz1, hz2⟩ := info_parts info3
  obtain ⟨j0, hj, hy0, hy1, hy2⟩ := info_parts info4
  obtain ⟨⟨hl, _, _⟩, hfn, hps, _⟩ := check_zero hck
  obtain ⟨hpi, hpx, _, _⟩ := pairs_zero hps
  have HO := hide (nodes_ok hfn).2
  have HPI : Hid (∀ p ∈ is, pairE ns p.1 p.2 = 0) := fun p hp => init_zero (hpi p hp)
  have HPX := hide hpx
  have HN := hide hN
  have HI := hide hI
  have HX := hide hX
  have HRs := hide hRs
  have HB0 : Hid (Below w.heap.size w (w.alloc (.cells (Mv.cells ⟨a0, c0, a1, is.length, c1, a2, xs.length, c2, a3, bs.length, c3, a4, hs.length, c4⟩ ns.length) 40))) := bal (Below.refl _ _) _
  have HBx := hide (Box.new w ⟨a0, c0, a1, is.length, c1, a2, xs.length, c2, a3, bs.length, c3, a4, hs.length, c4⟩ ns.length)
  have hsz0 : (w.alloc (.cells (Mv.cells ⟨a0, c0, a1, is.length, c1, a2, xs.length, c2, a3, bs.length, c3, a4, hs.length, c4⟩ ns.length) 40)).heap.size = w.heap.size + 1 := by simp
  clear hck hfn hps hpi hpx hN hI hX hRs
  go_enter Try.func27, Try.ntmps27
  go_wp2_with (at_make; refine wpList_make_full _ rfl _ _ 82 rfl (w.heap.size + 1) 4 j0 (.bool false) 1 Try.underlying82 hj hy0 hy1 .i64 .i64 _ _ ns.length rfl rfl rfl rfl (by rw [hy2]; omega) (by unfold maxLen; omega) (by simp) ?_)
  intro w3 hownM hgrowM
  have hb3 := bal ((Below.refl _ _).grown hgrowM (Nat.le_refl _) (fun _ h => by cases h)) (.cells #[.slice (some ⟨w.heap.size + 1, 0, none⟩) ns.length ns.length] 82)
  have hR1 : BRow w3 (w.heap.size + 1) (List.replicate ns.length false) := by
    intro j hj
    have hj' : j < ns.length := by simpa using hj
    refine ⟨?_, hownM.frozenAt j⟩
    rw [hownM.cellAt j (by omega)]
    simp [toList_madeCells_one, hj']
  have HR5 := hide (hR1.later (bal (Below.refl _ w3) (.cells #[.slice (some ⟨w.heap.size + 1, 0, none⟩) ns.length ns.length] 82)))
  have h65 : (w3.alloc (.cells #[.slice (some ⟨w.heap.size + 1, 0, none⟩) ns.length ns.length] 82)).cell? ⟨w3.heap.size, 0, none⟩ = some (.slice (some ⟨w.heap.size + 1, 0, none⟩) ns.length ns.length) := by simp [go_sem]
  have hgw : w.heap.size + 1 < w3.heap.size := (hownM.lt (w.heap.size + 1) rfl).2
  have HBw5 := hide (bthen HB0.out hb3)
  have HBox5 := hide (HBx.out.later hb3)
  clear hownM hgrowM hR1 hb3 HB0 HBx hsz0
  go_wp2
  generalize (w3.alloc (.cells #[.slice (some ⟨w.heap.size + 1, 0, none⟩) ns.length ns.length] 82)) = w5 at *
  have hNG : w.heap.size < w.heap.size + 1 := by omega
  generalize w3.heap.size = B6 at *
  have Hw := hide hNG
  generalize hGG : w.heap.size + 1 = G at *
  clear hGG hNG
  go_loopw [7] (fun i wr => ∃ (k : Nat) (b : List Bool), k ≤ rs.length ∧ i = .int .i64 k ∧ Hid (Marked ns.length rs k b) ∧ Hid (∀ i (hi : i < rs.length), i < k → isN ns.length rs[i] = true) ∧ Below w.heap.size w wr ∧ Hid (Box wr w.heap.size ⟨a0, c0, a1, is.length, c1, a2, xs.length, c2, a3, bs.length, c3, a4, hs.length, c4⟩ ns.length) ∧ Hid (BRow wr G b) ∧ wr.cell? ⟨B6, 0, none⟩ = some (.slice (some ⟨G, 0, none⟩) ns.length ns.length)) (fun i _ => rs.length - (intOf i).toNat)
  case atStart => exact ⟨0, List.replicate ns.length false, Nat.zero_le _, rfl, Marked.start _ _, fun i hi h => by omega, HBw5.out, HBox5.out, HR5.out, h65⟩
  case round =>
    obtain ⟨k, b, hk, rfl, HM, HA, hbw, hbx, HR, h6⟩ := hrel
    have hbox := hbx.out
    simp only [Box] at hbox
    obtain ⟨q0, q1, q2, q3, q4⟩ := hbox
    by_cases hlt : k < rs.length
    · obtain ⟨rb, roff, rfl, hc⟩ := (HRs.out.later hbw) (by omega)
      have d0 := hc k hlt
      have hkl : (k : Int) < (rs.length : Int) := by omega
      have HMK := hide (fun h => HM.out.step hlt h)
      have HAK : Hid (isN ns.length rs[k] = true → ∀ i (hi : i < rs.length), i < k + 1 → isN ns.length rs[i] = true) := by
        intro h i hi hik
        rcases Nat.lt_succ_iff_lt_or_eq.1 hik with h1 | rfl
        · exact HA.out i hi h1
        · exact h
      have HANY : Hid (isN ns.length rs[k] = false → rs.any (fun x => !isN ns.length x) = true) := fun h => List.any_eq_true.2 ⟨rs[k], List.getElem_mem hlt, by rw [h]; rfl⟩
      have HBL := hide HM.out.len
      clear hc HA HM
      generalize rs[k] = x at *
      have HBT := hide (betweenN_any ns.length x)
      cases hxb : isN ns.length x
      · rw [hxb] at HBT
        have HY := hide (HANY.out hxb)
        clear HANY HAK HMK hxb
        go_wp2
        go_quiet (first | (go_at_call 46; exact Calls.quiet_of_same (HBT.out _)))
        go_wp2
        go_ret2
        exact ⟨none, 0, [], false, rfl, ⟨(fun h => by cases h), fun _ => ⟨rfl, HY.out⟩⟩, fun h => by simp at h, below_drewN hbw _⟩
      · obtain ⟨x0, x1⟩ := isN_true.1 hxb
        rw [hxb] at HBT
        obtain ⟨e1, e2⟩ := HR.out x.toNat (by rw [HBL.out]; omega)
        generalize b[x.toNat]'(by rw [HBL.out]; omega) = old at *
        have HM2 := hide (HMK.out ⟨x0, x1⟩)
        have HA2 := hide (HAK.out hxb)
        clear HANY HAK HMK hxb
        go_wp2
        go_quiet (first | (go_at_call 46; exact Calls.quiet_of_same (HBT.out _)))
        go_wp2
        generalize hwd : wr.drewN _ = wd
        have y6 : wd.cell? ⟨B6, 0, none⟩ = some (.slice (some ⟨G, 0, none⟩) ns.length ns.length) := by rw [← hwd]; exact h6
        have y0 : wd.cell? ⟨rb, roff + k, none⟩ = some (.int .i64 x) := by rw [← hwd]; exact d0
        have y1 : wd.cell? ⟨G, x.toNat, none⟩ = some (.bool old) := by rw [← hwd]; exact e1
        have y2 : wd.frozen? ⟨G, x.toNat, none⟩ = false := by rw [← hwd]; exact e2
        have hbd : Below w.heap.size w wd := by rw [← hwd]; exact below_drewN hbw _
        have HRd : Hid (BRow wd G b) := by rw [← hwd]; exact HR.out
        have HXd : Hid (Box wd w.heap.size ⟨a0, c0, a1, is.length, c1, a2, xs.length, c2, a3, bs.length, c3, a4, hs.length, c4⟩ ns.length) := by rw [← hwd]; exact hbx.out
        clear hwd h6 d0 e1 e2 hbw HR hbx q0 q1 q2 q3 q4 HBT
        go_region
        go_wp2
        go_roundw
        case rel => first | exact ⟨k + 1, b.set x.toNat true, by omega, by go_num, HM2, HA2, (hbd.setCell (show w.heap.size ≤ G from Nat.le_of_lt Hw.out) _).drew, HXd.out.set (by have := Hw.out; omega), HRd.out.set _ true, keepOther (by omega) y6⟩ | ((repeat apply Exists.intro); exact ⟨⟨k + 1, b.set x.toNat true, by omega, by go_num, HM2, HA2, (hbd.setCell (show w.heap.size ≤ G from Nat.le_of_lt Hw.out) _).drew, HXd.out.set (by have := Hw.out; omega), HRd.out.set _ true, keepOther (by omega) y6⟩, rfl⟩)
        case measure => simp [intOf]; omega
    · obtain rfl : k = rs.length := by omega
      have HAll : Hid (∀ r ∈ rs, isN ns.length r = true) := fun r hr => by
        obtain ⟨i, hi, rfl⟩ := List.getElem_of_mem hr
        exact HA.out i hi hi
      have HT0 := hide (HM.out.turn (is := is) (xs := xs))
      have HC0 := hide (CS.first true hbw hbx.out HR.out h6 Hw.out hgw)
      clear HA HM hbw hbx HR h6 q0 q1 q2 q3 q4
      go_wp2
      generalize wr.alloc (.cells #[.bool true] 4) = w8 at *
      generalize wr.heap.size = B80 at *
      go_loopw [8] (fun v wr => ∃ (B8 : Nat) (b : List Bool) (ch : Bool), v = .pointer (some ⟨B8, 0, none⟩) ∧ Hid (CS w wr ⟨a0, c0, a1, is.length, c1, a2, xs.length, c2, a3, bs.length, c3, a4, hs.length, c4⟩ ns.length G B6 B8 b ch) ∧ Hid (Turn ns is xs rs b b false) ∧ Hid (ch = false → GoneN ns b false ns.length ∧ Gone is b false is.length ∧ Gone xs b false xs.length)) (fun v wr => cntW wr G ns.length + chOf wr v)
      case atStart => exact ⟨B80, b, true, rfl, HC0, HT0, fun h => by cases h⟩
      case round =>
        clear HC0 HT0
        obtain ⟨B8, b, ch, rfl, HC, HTb, HD⟩ := hrel
        have y8 := HC.out.b8
        have f8 := HC.out.f8
        have y6 := HC.out.b6
        cases ch
        · obtain ⟨g1, g2, g3⟩ := HD.out rfl
          have HIC := hide (HTb.out.done g1 g2 g3)
          obtain ⟨base, hbs⟩ : ∃ base, base = wr.heap.size := ⟨_, rfl⟩
          have HL := hide (fun (w2 : World) (h : Below base wr w2) => hbs ▸ h)
          have HB := hide (Nat.le_of_eq hbs)
          clear g1 g2 g3 HD hbs
          go_wp2
          go_loopw [14, 15] (fun v i wq => ∃ k : Nat, k ≤ ns.length ∧ i = .int .i64 k ∧ wq.ownsRow base 3 1 v (sel (fun i => b.getD i false) k).length ((sel (fun i => b.getD i false) k).map (Value.int .i64)) ∧ Below base wr wq) (fun _ i _ => ns.length - (intOf i).toNat)
          case atStart => exact ⟨0, Nat.zero_le _, rfl, World.ownsRow_nil _ _ _ _, Below.refl _ _⟩
          case round =>
            obtain ⟨k, hk, rfl, hown, hnx⟩ := hrel
            have HCk := hide (HC.out.later (HL.out _ hnx))
            have y6 := HCk.out.b6
            have hsz : base ≤ wr.heap.size := Nat.le_trans HB.out hnx.size
            by_cases hlt : k < ns.length
            · obtain ⟨e1, _⟩ := HCk.out.row k (by rw [HTb.out.len]; omega)
              have HE : Hid (b.getD k false = b[k]'(by rw [HTb.out.len]; omega)) := by simp [List.getD, List.getElem?_eq_getElem (show k < b.length from by rw [HTb.out.len]; omega), Hid]
              generalize b[k]'(by rw [HTb.out.len]; omega) = bk at *
              have hkl : (k : Int) < (ns.length : Int) := by omega
              cases bk
              · have HS : Hid (sel (fun i => b.getD i false) (k + 1) = sel (fun i => b.getD i false) k) := sel_no HE.out
                go_wp2
                go_roundw
                case rel => first | exact ⟨k + 1, by omega, by go_num, by rw [HS.out]; exact hown, hnx⟩ | ((repeat apply Exists.intro); exact ⟨⟨k + 1, by omega, by go_num, by rw [HS.out]; exact hown, hnx⟩, rfl⟩)
                case measure => simp [intOf]; omega
              · have HS : Hid (sel (fun i => b.getD i false) (k + 1) = sel (fun i => b.getD i false) k ++ [(k : Int)]) := sel_yes HE.out
                have hsl := sel_len (fun i => b.getD i false) k
                generalize sel (fun i => b.getD i false) k = l at *
                go_wp2_with (at_builtin; refine wpList_append_own _ rfl _ _ 31 rfl base 3 i0 (.int .i64 0) 1 8 Try.underlying31 hi hz0 hz1 hz2 rfl (by decide) _ _ _ rfl (hown.alloc _) ⟨wr.heap.size, 0, none⟩ 1 1 [.int .i64 (k : Int)] rfl rfl ?c1 ?c2 ?c3 ?c4 ?c5 ?_)
                case c1 =>
                  intro j u hj
                  match j, hj with
                  | 0, hj => simp at hj; subst hj; simp [Addr.add]
                case c2 => intro u hu; simp at hu; subst hu; rfl
                case c3 => unfold maxLen; omega
                case c4 => omega
                case c5 => simp; omega
                intro v' w1 hown' hgrow _
                have R := owns_later hown hown' hgrow hnx hsz
                rw [← HS.out] at R
                clear hown' hgrow hown
                go_wp2
                go_roundw
                case rel => first | exact ⟨k + 1, by omega, by go_num, R.1, R.2⟩ | ((repeat apply Exists.intro); exact ⟨⟨k + 1, by omega, by go_num, R.1, R.2⟩, rfl⟩)
                case measure => simp [intOf]; omega
            · obtain rfl : k = ns.length := by omega
              obtain ⟨p, cap, rfl, hJ⟩ := owns_ints hown
              go_wp2
              go_ret2
              exact ⟨p, cap, sel (fun i => b.getD i false) ns.length, true, rfl, ⟨fun _ => ⟨HAll.out, _, rfl, HIC.out⟩, (fun h => by cases h)⟩, hJ, HCk.out.below⟩
        · have HCx := hide (HC.out.flag false)
          have HCnt : Hid (cntW wr G ns.length + chOf wr (.pointer (some ⟨B8, 0, none⟩)) = b.count false + 1) := by rw [cntW_eq HC.out.row HTb.out.len, chOf_at HC.out.b8]; rfl
          clear HD
          go_wp2
          generalize wr.setCell ⟨B8, 0, none⟩ (.bool false) = wx at *
          go_loopw [10] (fun i wq => ∃ (k : Nat) (b' : List Bool) (ch' : Bool), k ≤ ns.length ∧ i = .int .i64 k ∧ Hid (CS w wq ⟨a0, c0, a1, is.length, c1, a2, xs.length, c2, a3, bs.length, c3, a4, hs.length, c4⟩ ns.length G B6 B8 b' ch') ∧ Hid (Turn ns is xs rs b b' ch') ∧ Hid (GoneN ns b' ch' k)) (fun i _ => ns.length - (intOf i).toNat)
          case atStart => exact ⟨0, b, false, Nat.zero_le _, rfl, HCx, HTb, fun _ i h => by omega⟩
          case round =>
          obtain ⟨k, b', ch', hk, rfl, HC, HTu, HGN⟩ := hrel
          clear y8 f8 y6
          have q0 := HC.out.box.1
          have y6 := HC.out.b6
          by_cases hlt : k < ns.length
          · obtain ⟨nb, noff, rfl, hc⟩ := (HN.out.later HC.out.below) (by omega)
            obtain ⟨d0, d1, d2, d3, d4, d5⟩ := hc k hlt
            have hkl : (k : Int) < (ns.length : Int) := by omega
            have HOA := hide (opsAt_at hlt)
            have HOO : Hid (∀ u ∈ opsAt ns k, 0 ≤ u ∧ u < k) := by rw [HOA.out]; exact HO.out k hlt
            obtain ⟨e1, e2⟩ := HC.out.row k (by rw [HTu.out.len]; omega)
            have HK0 : Hid (b'.getD k false = b'[k]'(by rw [HTu.out.len]; omega)) := by simp [List.getD, List.getElem?_eq_getElem (show k < b'.length from by rw [HTu.out.len]; omega), Hid]
            generalize b'[k]'(by rw [HTu.out.len]; omega) = bk at *
            clear hc e2
            generalize ns[k] = nd at *
            obtain ⟨kd, v, x, y, z, n⟩ := nd
            simp only at *
            cases bk
            · have HG2 : Hid (GoneN ns b' ch' (k + 1)) := HGN.out.skip HK0.out
              clear HOA HOO
              go_wp2
              go_roundw
              case rel => first | exact ⟨k + 1, b', ch', by omega, by go_num, HC, HTu, HG2⟩ | ((repeat apply Exists.intro); exact ⟨⟨k + 1, b', ch', by omega, by go_num, HC, HTu, HG2⟩, rfl⟩)
              case measure => simp [intOf]; omega
            · have hba : Below wr.heap.size wr (wr.alloc (.cells #[.int .i64 kd, .int .i64 v, .int .i64 x, .int .i64 y, .int .i64 z, .int .i64 n] 87)) := bal (Below.refl _ _) _
              have n0 : (wr.alloc (.cells #[.int .i64 kd, .int .i64 v, .int .i64 x, .int .i64 y, .int .i64 z, .int .i64 n] 87)).cell? ⟨wr.heap.size, 0, none⟩ = some (.int .i64 kd) := by simp [go_sem]
              have n2 : (wr.alloc (.cells #[.int .i64 kd, .int .i64 v, .int .i64 x, .int .i64 y, .int .i64 z, .int .i64 n] 87)).cell? ⟨wr.heap.size, 2, none⟩ = some (.int .i64 x) := by simp [go_sem]
              have n3 : (wr.alloc (.cells #[.int .i64 kd, .int .i64 v, .int .i64 x, .int .i64 y, .int .i64 z, .int .i64 n] 87)).cell? ⟨wr.heap.size, 3, none⟩ = some (.int .i64 y) := by simp [go_sem]
              have n4 : (wr.alloc (.cells #[.int .i64 kd, .int .i64 v, .int .i64 x, .int .i64 y, .int .i64 z, .int .i64 n] 87)).cell? ⟨wr.heap.size, 4, none⟩ = some (.int .i64 z) := by simp [go_sem]
              have HCa := hide (HC.out.later hba)
              have hB8 : B8 < wr.heap.size := World.block_lt_of_cell? _ _ HC.out.b8
              have hG8 : G < B8 := Nat.lt_trans HC.out.g6 HC.out.g8
              clear hba
              have h4 := takes_four kd
              rcases h4 with ht | ht | ht | ht
              · have HTK := hide (takes_any kd)
                rw [ht] at HTK
                have HOps : Hid (opsAt ns k = []) := by rw [HOA.out]; unfold opsL; rw [ht]; rfl
                have HGo := hide HOO.out
                rw [HOps.out] at HGo
                have HG2 : Hid (GoneN ns b' ch' (k + 1)) := HGN.out.step (by rw [HOps.out]; simp)
                go_wp2_with (first | (go_at_call 15; refine (HTK.out _).mono ?_; rintro e w' ⟨rfl, rfl⟩))
                generalize wr.alloc (.cells #[.int .i64 kd, .int .i64 v, .int .i64 x, .int .i64 y, .int .i64 z, .int .i64 n] 87) = wa at *
                go_wp2
                go_roundw
                case rel => first | exact ⟨k + 1, b', ch', by omega, by go_num, HCa, HTu, HG2⟩ | ((repeat apply Exists.intro); exact ⟨⟨k + 1, b', ch', by omega, by go_num, HCa, HTu, HG2⟩, rfl⟩)
                case measure => simp [intOf]; omega
              · have HTK := hide (takes_any kd)
                rw [ht] at HTK
                have HOps : Hid (opsAt ns k = [x]) := by rw [HOA.out]; unfold opsL; rw [ht]; rfl
                have HGo := hide HOO.out
                rw [HOps.out] at HGo
                have HME : Hid (∀ u ∈ opsAt ns k, u ∈ leanL ns is xs k) := fun u hu => lean_ops hlt hu
                rw [HOps.out] at HME
                go_wp2_with (first | (go_at_call 15; refine (HTK.out _).mono ?_; rintro e w' ⟨rfl, rfl⟩))
                generalize wr.alloc (.cells #[.int .i64 kd, .int .i64 v, .int .i64 x, .int .i64 y, .int .i64 z, .int .i64 n] 87) = wa at *
                refine (put_any HCa.out HTu.out.len hl x (HGo.out x (by simp)).1 (by have := (HGo.out x (by simp)).2; omega)).mono ?_
                rintro e wb0 ⟨⟨vv0, rfl⟩, hC0, hkp0⟩
                have HC0 := hide hC0
                have HT0 := hide (HTu.out.put hlt HK0.out (HME.out x (by simp)) (rg_of hlt HGo.out x (by simp)))
                have HK1 := hide (HTu.out.keeps (y := x) HK0.out (rg_of hlt HGo.out x (by simp)))
                have HG0 := hide (HGN.out.put (y := x))
                have HY0 : Hid ((b'.set x.toNat true).getD x.toNat false = true) := by rw [getD_set _ _ _ (by rw [HTu.out.len]; have := rg_of hlt HGo.out x (by simp); omega), if_pos rfl]; rfl
                have n00 := hkp0 _ _ (by simp only; omega) (by simp only; omega) n0
                have n20 := hkp0 _ _ (by simp only; omega) (by simp only; omega) n2
                have n30 := hkp0 _ _ (by simp only; omega) (by simp only; omega) n3
                have n40 := hkp0 _ _ (by simp only; omega) (by simp only; omega) n4
                clear hC0 hkp0 n0 n2 n3 n4
                clear HCa
                generalize b'.set x.toNat true = b0 at *
                generalize (ch' || !b'.getD x.toNat false) = ch0 at *
                have HG9 : Hid (GoneN ns b0 ch0 (k + 1)) := HG0.out.step (by rw [HOps.out]; intro u hu; simp only [List.mem_cons, List.not_mem_nil, or_false] at hu; rcases hu with rfl <;> first | exact HY0.out)
                go_wp2_with (first | (go_at_call 15; refine (HTK.out _).mono ?_; rintro e w' ⟨rfl, rfl⟩))
                go_roundw
                case rel => first | exact ⟨k + 1, b0, ch0, by omega, by go_num, HC0, HT0, HG9⟩ | ((repeat apply Exists.intro); exact ⟨⟨k + 1, b0, ch0, by omega, by go_num, HC0, HT0, HG9⟩, rfl⟩)
                case measure => simp [intOf]; omega
              · have HTK := hide (takes_any kd)
                rw [ht] at HTK
                have HOps : Hid (opsAt ns k = [x, y]) := by rw [HOA.out]; unfold opsL; rw [ht]; rfl
                have HGo := hide HOO.out
                rw [HOps.out] at HGo
                have HME : Hid (∀ u ∈ opsAt ns k, u ∈ leanL ns is xs k) := fun u hu => lean_ops hlt hu
                rw [HOps.out] at HME
                go_wp2_with (first | (go_at_call 15; refine (HTK.out _).mono ?_; rintro e w' ⟨rfl, rfl⟩))
                generalize wr.alloc (.cells #[.int .i64 kd, .int .i64 v, .int .i64 x, .int .i64 y, .int .i64 z, .int .i64 n] 87) = wa at *
                refine (put_any HCa.out HTu.out.len hl x (HGo.out x (by simp)).1 (by have := (HGo.out x (by simp)).2; omega)).mono ?_
                rintro e wb0 ⟨⟨vv0, rfl⟩, hC0, hkp0⟩
                have HC0 := hide hC0
                have HT0 := hide (HTu.out.put hlt HK0.out (HME.out x (by simp)) (rg_of hlt HGo.out x (by simp)))
                have HK1 := hide (HTu.out.keeps (y := x) HK0.out (rg_of hlt HGo.out x (by simp)))
                have HG0 := hide (HGN.out.put (y := x))
                have HY0 : Hid ((b'.set x.toNat true).getD x.toNat false = true) := by rw [getD_set _ _ _ (by rw [HTu.out.len]; have := rg_of hlt HGo.out x (by simp); omega), if_pos rfl]; rfl
                have n00 := hkp0 _ _ (by simp only; omega) (by simp only; omega) n0
                have n20 := hkp0 _ _ (by simp only; omega) (by simp only; omega) n2
                have n30 := hkp0 _ _ (by simp only; omega) (by simp only; omega) n3
                have n40 := hkp0 _ _ (by simp only; omega) (by simp only; omega) n4
                clear hC0 hkp0 n0 n2 n3 n4
                clear HCa
                generalize b'.set x.toNat true = b0 at *
                generalize (ch' || !b'.getD x.toNat false) = ch0 at *
                go_wp2_with (first | (go_at_call 15; refine (HTK.out _).mono ?_; rintro e w' ⟨rfl, rfl⟩))
                refine (put_any HC0.out HT0.out.len hl y (HGo.out y (by simp)).1 (by have := (HGo.out y (by simp)).2; omega)).mono ?_
                rintro e wb1 ⟨⟨vv1, rfl⟩, hC1, hkp1⟩
                have HC1 := hide hC1
                have HT1 := hide (HT0.out.put hlt HK1.out (HME.out y (by simp)) (rg_of hlt HGo.out y (by simp)))
                have HK2 := hide (HT0.out.keeps (y := y) HK1.out (rg_of hlt HGo.out y (by simp)))
                have HG1 := hide (HG0.out.put (y := y))
                have HY1 : Hid ((b0.set y.toNat true).getD y.toNat false = true) := by rw [getD_set _ _ _ (by rw [HT0.out.len]; have := rg_of hlt HGo.out y (by simp); omega), if_pos rfl]; rfl
                have HY0x := hide (HT0.out.keeps (y := y) HY0.out (rg_of hlt HGo.out y (by simp)))
                have n001 := hkp1 _ _ (by simp only; omega) (by simp only; omega) n00
                have n201 := hkp1 _ _ (by simp only; omega) (by simp only; omega) n20
                have n301 := hkp1 _ _ (by simp only; omega) (by simp only; omega) n30
                have n401 := hkp1 _ _ (by simp only; omega) (by simp only; omega) n40
                clear hC1 hkp1 n00 n20 n30 n40
                clear HC0
                generalize b0.set y.toNat true = b1 at *
                generalize (ch0 || !b0.getD y.toNat false) = ch1 at *
                have HG9 : Hid (GoneN ns b1 ch1 (k + 1)) := HG1.out.step (by rw [HOps.out]; intro u hu; simp only [List.mem_cons, List.not_mem_nil, or_false] at hu; rcases hu with rfl | rfl <;> first | exact HY0x.out | exact HY1.out)
                go_wp2_with (first | (go_at_call 15; refine (HTK.out _).mono ?_; rintro e w' ⟨rfl, rfl⟩))
                go_roundw
                case rel => first | exact ⟨k + 1, b1, ch1, by omega, by go_num, HC1, HT1, HG9⟩ | ((repeat apply Exists.intro); exact ⟨⟨k + 1, b1, ch1, by omega, by go_num, HC1, HT1, HG9⟩, rfl⟩)
                case measure => simp [intOf]; omega
              · have HTK := hide (takes_any kd)
                rw [ht] at HTK
                have HOps : Hid (opsAt ns k = [x, y, z]) := by rw [HOA.out]; unfold opsL; rw [ht]; rfl
                have HGo := hide HOO.out
                rw [HOps.out] at HGo
                have HME : Hid (∀ u ∈ opsAt ns k, u ∈ leanL ns is xs k) := fun u hu => lean_ops hlt hu
                rw [HOps.out] at HME
                go_wp2_with (first | (go_at_call 15; refine (HTK.out _).mono ?_; rintro e w' ⟨rfl, rfl⟩))
                generalize wr.alloc (.cells #[.int .i64 kd, .int .i64 v, .int .i64 x, .int .i64 y, .int .i64 z, .int .i64 n] 87) = wa at *
                refine (put_any HCa.out HTu.out.len hl x (HGo.out x (by simp)).1 (by have := (HGo.out x (by simp)).2; omega)).mono ?_
                rintro e wb0 ⟨⟨vv0, rfl⟩, hC0, hkp0⟩
                have HC0 := hide hC0
                have HT0 := hide (HTu.out.put hlt HK0.out (HME.out x (by simp)) (rg_of hlt HGo.out x (by simp)))
                have HK1 := hide (HTu.out.keeps (y := x) HK0.out (rg_of hlt HGo.out x (by simp)))
                have HG0 := hide (HGN.out.put (y := x))
                have HY0 : Hid ((b'.set x.toNat true).getD x.toNat false = true) := by rw [getD_set _ _ _ (by rw [HTu.out.len]; have := rg_of hlt HGo.out x (by simp); omega), if_pos rfl]; rfl
                have n00 := hkp0 _ _ (by simp only; omega) (by simp only; omega) n0
                have n20 := hkp0 _ _ (by simp only; omega) (by simp only; omega) n2
                have n30 := hkp0 _ _ (by simp only; omega) (by simp only; omega) n3
                have n40 := hkp0 _ _ (by simp only; omega) (by simp only; omega) n4
                clear hC0 hkp0 n0 n2 n3 n4
                clear HCa
                generalize b'.set x.toNat true = b0 at *
                generalize (ch' || !b'.getD x.toNat false) = ch0 at *
                go_wp2_with (first | (go_at_call 15; refine (HTK.out _).mono ?_; rintro e w' ⟨rfl, rfl⟩))
                refine (put_any HC0.out HT0.out.len hl y (HGo.out y (by simp)).1 (by have := (HGo.out y (by simp)).2; omega)).mono ?_
                rintro e wb1 ⟨⟨vv1, rfl⟩, hC1, hkp1⟩
                have HC1 := hide hC1
                have HT1 := hide (HT0.out.put hlt HK1.out (HME.out y (by simp)) (rg_of hlt HGo.out y (by simp)))
                have HK2 := hide (HT0.out.keeps (y := y) HK1.out (rg_of hlt HGo.out y (by simp)))
                have HG1 := hide (HG0.out.put (y := y))
                have HY1 : Hid ((b0.set y.toNat true).getD y.toNat false = true) := by rw [getD_set _ _ _ (by rw [HT0.out.len]; have := rg_of hlt HGo.out y (by simp); omega), if_pos rfl]; rfl
                have HY0x := hide (HT0.out.keeps (y := y) HY0.out (rg_of hlt HGo.out y (by simp)))
                have n001 := hkp1 _ _ (by simp only; omega) (by simp only; omega) n00
                have n201 := hkp1 _ _ (by simp only; omega) (by simp only; omega) n20
                have n301 := hkp1 _ _ (by simp only; omega) (by simp only; omega) n30
                have n401 := hkp1 _ _ (by simp only; omega) (by simp only; omega) n40
                clear hC1 hkp1 n00 n20 n30 n40
                clear HC0
                generalize b0.set y.toNat true = b1 at *
                generalize (ch0 || !b0.getD y.toNat false) = ch1 at *
                go_wp2_with (first | (go_at_call 15; refine (HTK.out _).mono ?_; rintro e w' ⟨rfl, rfl⟩))
                refine (put_any HC1.out HT1.out.len hl z (HGo.out z (by simp)).1 (by have := (HGo.out z (by simp)).2; omega)).mono ?_
                rintro e wb2 ⟨⟨vv2, rfl⟩, hC2, hkp2⟩
                have HC2 := hide hC2
                have HT2 := hide (HT1.out.put hlt HK2.out (HME.out z (by simp)) (rg_of hlt HGo.out z (by simp)))
                have HK3 := hide (HT1.out.keeps (y := z) HK2.out (rg_of hlt HGo.out z (by simp)))
                have HG2 := hide (HG1.out.put (y := z))
                have HY2 : Hid ((b1.set z.toNat true).getD z.toNat false = true) := by rw [getD_set _ _ _ (by rw [HT1.out.len]; have := rg_of hlt HGo.out z (by simp); omega), if_pos rfl]; rfl
                have HY0xx := hide (HT1.out.keeps (y := z) HY0x.out (rg_of hlt HGo.out z (by simp)))
                have HY1x := hide (HT1.out.keeps (y := z) HY1.out (rg_of hlt HGo.out z (by simp)))
                have n0012 := hkp2 _ _ (by simp only; omega) (by simp only; omega) n001
                have n2012 := hkp2 _ _ (by simp only; omega) (by simp only; omega) n201
                have n3012 := hkp2 _ _ (by simp only; omega) (by simp only; omega) n301
                have n4012 := hkp2 _ _ (by simp only; omega) (by simp only; omega) n401
                clear hC2 hkp2 n001 n201 n301 n401
                clear HC1
                generalize b1.set z.toNat true = b2 at *
                generalize (ch1 || !b1.getD z.toNat false) = ch2 at *
                have HG9 : Hid (GoneN ns b2 ch2 (k + 1)) := HG2.out.step (by rw [HOps.out]; intro u hu; simp only [List.mem_cons, List.not_mem_nil, or_false] at hu; rcases hu with rfl | rfl | rfl <;> first | exact HY0xx.out | exact HY1x.out | exact HY2.out)
                go_wp2_with (first | (go_at_call 15; refine (HTK.out _).mono ?_; rintro e w' ⟨rfl, rfl⟩))
                go_roundw
                case rel => first | exact ⟨k + 1, b2, ch2, by omega, by go_num, HC2, HT2, HG9⟩ | ((repeat apply Exists.intro); exact ⟨⟨k + 1, b2, ch2, by omega, by go_num, HC2, HT2, HG9⟩, rfl⟩)
                case measure => simp [intOf]; omega
          · obtain rfl : k = ns.length := by omega
            go_wp2
            go_loopw [12] (fun i wr => ∃ (k : Nat) (b' : List Bool) (ch' : Bool), k ≤ is.length ∧ i = .int .i64 k ∧ Hid (CS w wr ⟨a0, c0, a1, is.length, c1, a2, xs.length, c2, a3, bs.length, c3, a4, hs.length, c4⟩ ns.length G B6 B8 b' ch') ∧ Hid (Turn ns is xs rs b b' ch') ∧ Hid (GoneN ns b' ch' ns.length) ∧ Hid (Gone is b' ch' k)) (fun i _ => is.length - (intOf i).toNat)
            case atStart => exact ⟨0, b', ch', Nat.zero_le _, rfl, HC, HTu, HGN, fun _ i hi h => by omega⟩
            case round =>
              obtain ⟨k, b', ch', hk, rfl, HC, HTu, HGN, HGP⟩ := hrel
              have q1 := HC.out.box.2.1
              have y6 := HC.out.b6
              by_cases hlt : k < is.length
              · obtain ⟨pb, poff, rfl, hc⟩ := (HI.out.later HC.out.below) (by omega)
                obtain ⟨d0, d1⟩ := hc k hlt
                have hkl : (k : Int) < (is.length : Int) := by omega
                obtain ⟨⟨s0, s1⟩, ⟨x0, x1⟩, hkd, _⟩ := pairE_zero (HPI.out _ (List.getElem_mem hlt))
                have HME : Hid (is[k].2 ∈ leanL ns is xs is[k].1.toNat) := lean_pair1 s0 s1 hkd (List.getElem_mem hlt)
                have HGn := hide (fun (h : b'.getD is[k].1.toNat false = true → b'.getD is[k].2.toNat false = true) => HGP.out.step hlt h)
                have HGm := hide (fun (_ : Unit) => HGP.out.put (y := is[k].2))
                have HGs := hide (fun (b2 : List Bool) (c2 : Bool) (h : Gone is b2 c2 k) (h2 : b2.getD is[k].1.toNat false = true → b2.getD is[k].2.toNat false = true) => h.step hlt h2)
                obtain ⟨e1, e2⟩ := HC.out.row is[k].1.toNat (by rw [HTu.out.len]; omega)
                have HE : Hid (b'.getD is[k].1.toNat false = b'[is[k].1.toNat]'(by rw [HTu.out.len]; omega)) := by simp [List.getD, List.getElem?_eq_getElem (show is[k].1.toNat < b'.length from by rw [HTu.out.len]; omega), Hid]
                generalize b'[is[k].1.toNat]'(by rw [HTu.out.len]; omega) = bs' at *
                clear hc HGP hkd e2
                generalize is[k] = pr at *
                obtain ⟨s, x⟩ := pr
                simp only at *
                cases bs'
                · have HG2 := hide (HGn.out (fun h => by rw [HE.out] at h; cases h))
                  clear HGn HGm HGs HME
                  go_wp2
                  go_quiet (fail)
                  go_wp2
                  go_roundw
                  case rel => first | exact ⟨k + 1, b', ch', by omega, by go_num, HC.out.later (below_drewN (Below.refl _ _) _), HTu, HGN, HG2⟩ | ((repeat apply Exists.intro); exact ⟨⟨k + 1, b', ch', by omega, by go_num, HC.out.later (below_drewN (Below.refl _ _) _), HTu, HGN, HG2⟩, rfl⟩)
                  case measure => simp [intOf]; omega
                · go_wp2
                  go_quiet (fail)
                  go_wp2_with fail
                  refine (put_any (HC.out.later (below_drewN (Below.refl _ _) _)) HTu.out.len hl x x0 x1).mono ?_
                  rintro e wb ⟨⟨vv, rfl⟩, hC2, _⟩
                  have HC2 := hide hC2
                  have HT2 := hide (HTu.out.put (by omega) HE.out HME.out ⟨x0, x1⟩)
                  have HG2 := hide (HGN.out.put (y := x))
                  have HGk := hide (HGs.out _ _ (HGm.out ()) (fun _ => by rw [getD_set _ _ _ (by rw [HTu.out.len]; omega), if_pos rfl]))
                  clear hC2 HGn HGm HGs HME
                  generalize b'.set x.toNat true = b2 at *
                  generalize (ch' || !b'.getD x.toNat false) = ch2 at *
                  go_wp2
                  go_roundw
                  case rel => first | exact ⟨k + 1, b2, ch2, by omega, by go_num, HC2, HT2, HG2, HGk⟩ | ((repeat apply Exists.intro); exact ⟨⟨k + 1, b2, ch2, by omega, by go_num, HC2, HT2, HG2, HGk⟩, rfl⟩)
                  case measure => simp [intOf]; omega
              · obtain rfl : k = is.length := by omega
                have HGI := HGP
                clear HGP
                go_wp2
                go_loopw [13] (fun i wr => ∃ (k : Nat) (b' : List Bool) (ch' : Bool), k ≤ xs.length ∧ i = .int .i64 k ∧ Hid (CS w wr ⟨a0, c0, a1, is.length, c1, a2, xs.length, c2, a3, bs.length, c3, a4, hs.length, c4⟩ ns.length G B6 B8 b' ch') ∧ Hid (Turn ns is xs rs b b' ch') ∧ Hid (GoneN ns b' ch' ns.length) ∧ Hid (Gone is b' ch' is.length) ∧ Hid (Gone xs b' ch' k)) (fun i _ => xs.length - (intOf i).toNat)
                case atStart => exact ⟨0, b', ch', Nat.zero_le _, rfl, HC, HTu, HGN, HGI, fun _ i hi h => by omega⟩
                case round =>
                  obtain ⟨k, b', ch', hk, rfl, HC, HTu, HGN, HGI, HGP⟩ := hrel
                  have q2 := HC.out.box.2.2.1
                  have y6 := HC.out.b6
                  by_cases hlt : k < xs.length
                  · obtain ⟨pb, poff, rfl, hc⟩ := (HX.out.later HC.out.below) (by omega)
                    obtain ⟨d0, d1⟩ := hc k hlt
                    have hkl : (k : Int) < (xs.length : Int) := by omega
                    obtain ⟨⟨s0, s1⟩, ⟨x0, x1⟩, hkd, _⟩ := pairE_zero (HPX.out _ (List.getElem_mem hlt))
                    have HME : Hid (xs[k].2 ∈ leanL ns is xs xs[k].1.toNat) := lean_pair2 s0 s1 hkd (List.getElem_mem hlt)
                    have HGn := hide (fun (h : b'.getD xs[k].1.toNat false = true → b'.getD xs[k].2.toNat false = true) => HGP.out.step hlt h)
                    have HGm := hide (fun (_ : Unit) => HGP.out.put (y := xs[k].2))
                    have HGs := hide (fun (b2 : List Bool) (c2 : Bool) (h : Gone xs b2 c2 k) (h2 : b2.getD xs[k].1.toNat false = true → b2.getD xs[k].2.toNat false = true) => h.step hlt h2)
                    obtain ⟨e1, e2⟩ := HC.out.row xs[k].1.toNat (by rw [HTu.out.len]; omega)
                    have HE : Hid (b'.getD xs[k].1.toNat false = b'[xs[k].1.toNat]'(by rw [HTu.out.len]; omega)) := by simp [List.getD, List.getElem?_eq_getElem (show xs[k].1.toNat < b'.length from by rw [HTu.out.len]; omega), Hid]
                    generalize b'[xs[k].1.toNat]'(by rw [HTu.out.len]; omega) = bs' at *
                    clear hc HGP hkd e2
                    generalize xs[k] = pr at *
                    obtain ⟨s, x⟩ := pr
                    simp only at *
                    cases bs'
                    · have HG2 := hide (HGn.out (fun h => by rw [HE.out] at h; cases h))
                      clear HGn HGm HGs HME
                      go_wp2
                      go_quiet (fail)
                      go_wp2
                      go_roundw
                      case rel => first | exact ⟨k + 1, b', ch', by omega, by go_num, HC.out.later (below_drewN (Below.refl _ _) _), HTu, HGN, HGI, HG2⟩ | ((repeat apply Exists.intro); exact ⟨⟨k + 1, b', ch', by omega, by go_num, HC.out.later (below_drewN (Below.refl _ _) _), HTu, HGN, HGI, HG2⟩, rfl⟩)
                      case measure => simp [intOf]; omega
                    · go_wp2
                      go_quiet (fail)
                      go_wp2_with fail
                      refine (put_any (HC.out.later (below_drewN (Below.refl _ _) _)) HTu.out.len hl x x0 x1).mono ?_
                      rintro e wb ⟨⟨vv, rfl⟩, hC2, _⟩
                      have HC2 := hide hC2
                      have HT2 := hide (HTu.out.put (by omega) HE.out HME.out ⟨x0, x1⟩)
                      have HG2 := hide (HGN.out.put (y := x))
                      have HGI2 := hide (HGI.out.put (y := x))
                      have HGk := hide (HGs.out _ _ (HGm.out ()) (fun _ => by rw [getD_set _ _ _ (by rw [HTu.out.len]; omega), if_pos rfl]))
                      clear hC2 HGn HGm HGs HME
                      generalize b'.set x.toNat true = b2 at *
                      generalize (ch' || !b'.getD x.toNat false) = ch2 at *
                      go_wp2
                      go_roundw
                      case rel => first | exact ⟨k + 1, b2, ch2, by omega, by go_num, HC2, HT2, HG2, HGI2, HGk⟩ | ((repeat apply Exists.intro); exact ⟨⟨k + 1, b2, ch2, by omega, by go_num, HC2, HT2, HG2, HGI2, HGk⟩, rfl⟩)
                      case measure => simp [intOf]; omega
                  · obtain rfl : k = xs.length := by omega
                    have HGX := HGP
                    clear HGP
                    have HCf := hide (HC.out.later (bal (Below.refl _ _) (.cells #[.bool ch'] 4)))
                    have HCn := hide (CS.first ch' HC.out.below HC.out.box HC.out.row HC.out.b6 HC.out.gN HC.out.g6)
                    have y8 := HC.out.b8
                    have HMs : Hid (cntW (wr.alloc (.cells #[.bool ch'] 4)) G ns.length + chOf (wr.alloc (.cells #[.bool ch'] 4)) (.pointer (some ⟨wr.heap.size, 0, none⟩)) < b.count false + 1) := by
                      rw [cntW_eq HCn.out.row HTu.out.len, chOf_at HCn.out.b8]
                      have := HTu.out.cnt
                      simp only [Hid]
                      omega
                    have HGs : Hid (ch' = false → GoneN ns b' false ns.length ∧ Gone is b' false is.length ∧ Gone xs b' false xs.length) := fun h => by
                      have e1 := HGN.out
                      have e2 := HGI.out
                      have e3 := HGX.out
                      rw [h] at e1 e2 e3
                      exact ⟨e1, e2, e3⟩
                    have HTn := hide HTu.out.begin
                    clear HCf HGN HGI HGX
                    go_wp2
                    go_roundw
                    case rel => first | exact ⟨_, b', ch', rfl, HCn, HTn, HGs⟩ | ((repeat apply Exists.intro); exact ⟨⟨_, b', ch', rfl, HCn, HTn, HGs⟩, rfl⟩)
                    case measure => rw [HCnt.out]; exact HMs.out

end Go.Proofs.Ytabnimgpednhjaa
