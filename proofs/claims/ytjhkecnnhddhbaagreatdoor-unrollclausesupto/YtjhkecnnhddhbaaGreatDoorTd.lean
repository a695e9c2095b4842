/- The plain texts of steps: three clauses at a time, laid behind a row that grows. -/
import Derived.Test.YtjhkecnnhddhbaaGreatDoorTc
namespace Go.Proofs.YtjhkecnnhddhbaaGreatDoor
open Go.RowKit Go.Maps Go.WideMaps
set_option maxRecDepth 100000
set_option autoImplicit false

/-- A row of lists that grows. -/
structure Gr (w : World) (base : Nat) (v : Value) (rs : List Row) : Prop where
  row : w.ownsRow base 25 1 v rs.length (rs.map Row.v)
  inn : InAt w rs
  far : ∀ r ∈ rs, ∀ a, r.at' = some a → v.ownBlock ≠ some a.block ∧ a.block < w.heap.size ∧ base ≤ a.block
theorem gr_nil (w : World) (base : Nat) : Gr w base (.slice none 0 0) [] :=
  ⟨World.ownsRow_nil _ _ _ _, (fun r hr => by cases hr), (fun r hr => by cases hr)⟩
theorem gr_many {w w2 : World} {base g cap : Nat} {v : Value} {rs rs2 : List Row} (h : Gr w base v rs) (hr : InAt w rs2)
    (hrf : ∀ r ∈ rs2, ∀ a, r.at' = some a → v.ownBlock ≠ some a.block ∧ a.block < w.heap.size ∧ base ≤ a.block) (hg : w.grownBy w2 v.ownBlock)
    (hrow : w2.ownsRow base 25 1 (.slice (some ⟨g, 0, none⟩) (rs.length + rs2.length) cap) (rs.length + rs2.length) (rs.map Row.v ++ rs2.map Row.v)) (hat : v.ownBlock = some g ∨ w.heap.size ≤ g) :
    Gr w2 base (.slice (some ⟨g, 0, none⟩) (rs.length + rs2.length) cap) (rs ++ rs2) := by
  have hIn : ∀ q : Row, IntsAt w q.at' q.ns → (∀ a, q.at' = some a → v.ownBlock ≠ some a.block) → IntsAt w2 q.at' q.ns := fun q h1 h2 =>
    h1.grownBy hg (fun a ha e => h2 a ha e.symm)
  have hsz2 : w.heap.size ≤ w2.heap.size := hg.size
  have hFar : ∀ q : Row, (∀ a, q.at' = some a → v.ownBlock ≠ some a.block ∧ a.block < w.heap.size ∧ base ≤ a.block) → ∀ a, q.at' = some a → Value.ownBlock (.slice (some ⟨g, 0, none⟩) (rs.length + rs2.length) cap) ≠ some a.block ∧ a.block < w2.heap.size ∧ base ≤ a.block := fun q h a ha => by
    obtain ⟨h2, h3, h5⟩ := h a ha
    refine ⟨?_, by omega, h5⟩
    intro e
    have e' : g = a.block := by simpa [Value.ownBlock] using e
    rcases hat with h4 | h4
    · exact h2 (by rw [h4, e'])
    · omega
  refine ⟨?_, ?_, ?_⟩
  · rw [List.length_append, List.map_append]; exact hrow
  · intro q hq
    rcases List.mem_append.1 hq with k | k
    · exact hIn q (h.inn q k) (fun a ha => (h.far q k a ha).1)
    · exact hIn q (hr q k) (fun a ha => (hrf q k a ha).1)
  · intro q hq
    rcases List.mem_append.1 hq with k | k
    · exact hFar q (h.far q k)
    · exact hFar q (hrf q k)
theorem Gr.alloc {w : World} {base : Nat} {v : Value} {rs : List Row} (h : Gr w base v rs) (o : Obj) : Gr (w.alloc o) base v rs :=
  ⟨h.row.alloc o, h.inn.later (bal (Below.refl _ _) o), fun r hr a ha => by
    obtain ⟨h1, h2, h3⟩ := h.far r hr a ha
    exact ⟨h1, by simp; omega, h3⟩⟩
/-- The three clauses of an and. -/
def andOne (n a b : Int) : List (List Int) := [[-n, a], [-n, b], [n, -a, -b]]
def andP (ins off : Int) (ps : List (Int × Int)) : Nat → List (List Int)
  | 0 => []
  | k + 1 => andP ins off ps k ++ match ps[k]? with
    | some q => andOne (1 + ins + k + off) (numP q.1 off) (numP q.2 off)
    | none => []
def lay3 (w : World) (n a b : Int) : World :=
  (((w.alloc (.cells #[.int .i64 (-n), .int .i64 a] 3)).alloc (.cells #[.int .i64 (-n), .int .i64 b] 3)).alloc (.cells #[.int .i64 n, .int .i64 (-a), .int .i64 (-b)] 3)).alloc
    (.cells #[.slice (some ⟨w.heap.size, 0, none⟩) 2 2, .slice (some ⟨w.heap.size + 1, 0, none⟩) 2 2, .slice (some ⟨w.heap.size + 1 + 1, 0, none⟩) 3 3] 25)
def rows3 (H : Nat) (n a b : Int) : List Row := [⟨some ⟨H, 0, none⟩, [-n, a], 2⟩, ⟨some ⟨H + 1, 0, none⟩, [-n, b], 2⟩, ⟨some ⟨H + 1 + 1, 0, none⟩, [n, -a, -b], 3⟩]
theorem rows3_ns (H : Nat) (n a b : Int) : (rows3 H n a b).map Row.ns = andOne n a b := rfl
theorem lay3_size (w : World) (n a b : Int) : (lay3 w n a b).heap.size = w.heap.size + 4 := by simp [lay3]
theorem lay3_below (w : World) (n a b : Int) : Below w.heap.size w (lay3 w n a b) := bal (bal (bal (bal (Below.refl _ _) _) _) _) _
theorem lay3_inn (w : World) (n a b : Int) : InAt (lay3 w n a b) (rows3 w.heap.size n a b) := by
  intro r hr
  simp only [rows3, List.mem_cons, List.mem_nil_iff, or_false] at hr
  rcases hr with rfl | rfl | rfl
  · refine fun _ => ⟨_, _, rfl, fun i hi => ?_⟩
    match i, hi with
    | 0, _ => simp [lay3, go_sem]
    | 1, _ => simp [lay3, go_sem]
  · refine fun _ => ⟨_, _, rfl, fun i hi => ?_⟩
    match i, hi with
    | 0, _ => simp [lay3, go_sem]
    | 1, _ => simp [lay3, go_sem]
  · refine fun _ => ⟨_, _, rfl, fun i hi => ?_⟩
    match i, hi with
    | 0, _ => simp [lay3, go_sem]
    | 1, _ => simp [lay3, go_sem]
    | 2, _ => simp [lay3, go_sem]
theorem lay3_far (w : World) (n a b : Int) : ∀ r ∈ rows3 w.heap.size n a b, ∀ q, r.at' = some q → w.heap.size ≤ q.block ∧ q.block < w.heap.size + 3 := by
  intro r hr q hq
  simp only [rows3, List.mem_cons, List.mem_nil_iff, or_false] at hr
  rcases hr with rfl | rfl | rfl <;> cases hq <;> simp <;> omega
theorem lay3_news (w : World) (n a b : Int) : ∀ j u, ((rows3 w.heap.size n a b).map Row.v)[j]? = some u → (lay3 w n a b).cell? ((⟨w.heap.size + 1 + 1 + 1, 0, none⟩ : Addr).add j) = some u := fun j u hj => by
  match j, hj with
  | 0, hj => simp [rows3, Row.v] at hj; subst hj; simp [lay3, go_sem, Addr.add]
  | 1, hj => simp [rows3, Row.v] at hj; subst hj; simp [lay3, go_sem, Addr.add]
  | 2, hj => simp [rows3, Row.v] at hj; subst hj; simp [lay3, go_sem, Addr.add]
theorem rows3_cell (H : Nat) (n a b : Int) : ∀ u ∈ (rows3 H n a b).map Row.v, u.oneCell' = true := fun u hu => by
  simp only [rows3, Row.v, List.map_cons, List.map_nil, List.mem_cons, List.mem_nil_iff, or_false] at hu
  rcases hu with rfl | rfl | rfl <;> rfl
theorem Gr.lay3 {w : World} {base : Nat} {v : Value} {rs : List Row} (h : Gr w base v rs) (n a b : Int) : Gr (lay3 w n a b) base v rs := (((h.alloc _).alloc _).alloc _).alloc _
/-- Three more. -/
theorem gr_three {w w2 : World} {base g cap : Nat} {v : Value} {rs : List Row} (hbs : base ≤ w.heap.size) (h : Gr w base v rs) (n a b : Int) (hg : (lay3 w n a b).grownBy w2 v.ownBlock)
    (hrow : w2.ownsRow base 25 1 (.slice (some ⟨g, 0, none⟩) (rs.length + 3) cap) (rs.length + 3) (rs.map Row.v ++ (rows3 w.heap.size n a b).map Row.v)) (hat : v.ownBlock = some g ∨ g = w.heap.size + 4) :
    Gr w2 base (.slice (some ⟨g, 0, none⟩) (rs.length + 3) cap) (rs ++ rows3 w.heap.size n a b) :=
  gr_many (rs2 := rows3 w.heap.size n a b) (h.lay3 n a b) (lay3_inn w n a b) (fun r hr q hq => by
    have h1 := lay3_far w n a b r hr q hq
    refine ⟨fun e => ?_, by rw [lay3_size]; omega, by omega⟩
    have := (h.row.lt _ e).2
    omega) hg hrow (hat.imp id (fun e => by rw [lay3_size, e]; exact Nat.le_refl _))
theorem gr_three_below {w0 w w2 : World} {base : Nat} {v : Value} {rs : List Row} (h : Gr w base v rs) (n a b : Int) (hg : (lay3 w n a b).grownBy w2 v.ownBlock) (hb : Below base w0 w) (hbs : base ≤ w.heap.size) : Below base w0 w2 :=
  (hb.trans ((lay3_below w n a b).mono hbs)).grown hg (by rw [lay3_size]; omega) (fun k hk => (h.row.lt k hk).1)
theorem gr_new {w w' : World} {base : Nat} {v : Value} {rs : List Row} (h : Gr w' base v rs) (hb : Below w.heap.size w w') (hbs : w.heap.size ≤ base) : NewRows w (rs.map Row.ns) (.returned v) w' := by
  have hlt := h.row.lt
  obtain ⟨p, cap, rfl, hr⟩ := owns_rows h.row
  refine ⟨p, cap, rs, rfl, rfl, hr, h.inn, fun r hr a ha => ?_, fun a ha => ?_, hb⟩
  · obtain ⟨_, h2, h3⟩ := h.far r hr a ha
    exact ⟨by omega, h2⟩
  · subst ha
    have := hlt a.block (by simp [Value.ownBlock])
    omega
end Go.Proofs.YtjhkecnnhddhbaaGreatDoor
