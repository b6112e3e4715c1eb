/-
  spec.l5With: a region that draws the order of four literals and four appends, walked by an invariant.
-/
import Derived.Test.YteoepnadjkjlmaaGreatDagZ
namespace Go.Proofs.YteoepnadjkjlmaaGreat
open Go.RowKit Go.Sort
set_option linter.unusedVariables false

/-- What has come up of the region: the literals (b), the appends (a), the struct (c), its store (d). -/
structure WSt where
  b1 : Bool
  a1 : Bool
  b2 : Bool
  a2 : Bool
  b3 : Bool
  a3 : Bool
  b4 : Bool
  a4 : Bool
  c : Bool
  d : Bool
def WSt.marks (s : WSt) : Array Bool := #[s.b1, true, true, s.a1, true, s.b2, s.a2, s.b3, true, true, s.a3, true, s.b4, s.a4, s.c, s.d]
def nf (b : Bool) : Nat := if b = true then 0 else 1
def WSt.left (s : WSt) : Nat := nf s.b1 + nf s.a1 + nf s.b2 + nf s.a2 + nf s.b3 + nf s.a3 + nf s.b4 + nf s.a4 + nf s.c + nf s.d
/-- What may come up. -/
def WSt.may (s : WSt) (i : Nat) : Bool :=
  (i == 0 && !s.b1) || (i == 3 && s.b1 && !s.a1) || (i == 5 && !s.b2) || (i == 6 && s.a1 && s.b2 && !s.a2) || (i == 7 && !s.b3) || (i == 10 && s.a2 && s.b3 && !s.a3) || (i == 12 && !s.b4) || (i == 13 && s.a3 && s.b4 && !s.a4) || (i == 14 && s.a2 && s.a4 && !s.c) || (i == 15 && s.c && s.a4 && !s.d)
def WSt.fine (ops : Array Oper) (s : WSt) : Bool := (Region.ready .any ops s.marks).all s.may && (!(Region.ready .any ops s.marks).isEmpty || s.d)
def allB (p : Bool → Bool) : Bool := p false && p true
def wTable (ops : Array Oper) : Bool := allB fun b1 => allB fun a1 => allB fun b2 => allB fun a2 => allB fun b3 => allB fun a3 => allB fun b4 => allB fun a4 => allB fun c => allB fun d => WSt.fine ops ⟨b1, a1, b2, a2, b3, a3, b4, a4, c, d⟩
theorem allB_spec {p : Bool → Bool} (h : allB p = true) (b : Bool) : p b = true := both h b
theorem wTable_spec {ops : Array Oper} (h : wTable ops = true) (s : WSt) : s.fine ops = true := by
  obtain ⟨b1, a1, b2, a2, b3, a3, b4, a4, c, d⟩ := s
  exact allB_spec (allB_spec (allB_spec (allB_spec (allB_spec (allB_spec (allB_spec (allB_spec (allB_spec (allB_spec h b1) a1) b2) a2) b3) a3) b4) a4) c) d

/-- The side of the texts. -/
def SSt (w0 W : World) (names : List ByteArray) (s : ByteArray) (b1 a1 b2 a2 : Bool) (x7 x10 x12 x13 : Value) : Prop :=
  (b1 = true → a1 = false → ∃ g, x7 = .slice (some ⟨g, 0, none⟩) 0 0 ∧ Whole W g 9 [] ∧ w0.heap.size ≤ g) ∧
  (a1 = true → a2 = false → SRow w0.heap.size W x10 names) ∧
  (b2 = true → a2 = false → ∃ g, x12 = .slice (some ⟨g, 0, none⟩) 1 1 ∧ Whole W g 9 [.string s]) ∧
  (a2 = true → SRow w0.heap.size W x13 (names ++ [s]))
/-- The side of the values. -/
def VSt (w0 W : World) (vals : List GV) (v : GV) (b3 a3 b4 a4 : Bool) (x14 x17 x19 x20 : Value) : Prop :=
  (b3 = true → a3 = false → ∃ g, x14 = .slice (some ⟨g, 0, none⟩) 0 0 ∧ Whole W g 79 [] ∧ w0.heap.size ≤ g) ∧
  (a3 = true → a4 = false → VRow w0.heap.size W x17 vals) ∧
  (b4 = true → a4 = false → ∃ g, x19 = .slice (some ⟨g, 0, none⟩) 1 1 ∧ Whole W g 79 [.int .i64 v.k, .int .i64 v.n, .string v.t]) ∧
  (a4 = true → VRow w0.heap.size W x20 (vals ++ [v]))
theorem SSt.alloc {w0 W : World} {names : List ByteArray} {s : ByteArray} {b1 a1 b2 a2 : Bool} {x7 x10 x12 x13 : Value} (o : Obj) (h : SSt w0 W names s b1 a1 b2 a2 x7 x10 x12 x13) : SSt w0 (W.alloc o) names s b1 a1 b2 a2 x7 x10 x12 x13 :=
  ⟨fun p q => let ⟨g, e, hw, hg⟩ := h.1 p q; ⟨g, e, whole_alloc hw, hg⟩, fun p q => srow_alloc (h.2.1 p q), fun p q => let ⟨g, e, hw⟩ := h.2.2.1 p q; ⟨g, e, whole_alloc hw⟩, fun p => srow_alloc (h.2.2.2 p)⟩
theorem VSt.alloc {w0 W : World} {vals : List GV} {v : GV} {b3 a3 b4 a4 : Bool} {x14 x17 x19 x20 : Value} (o : Obj) (h : VSt w0 W vals v b3 a3 b4 a4 x14 x17 x19 x20) : VSt w0 (W.alloc o) vals v b3 a3 b4 a4 x14 x17 x19 x20 :=
  ⟨fun p q => let ⟨g, e, hw, hg⟩ := h.1 p q; ⟨g, e, whole_alloc hw, hg⟩, fun p q => vrow_alloc (h.2.1 p q), fun p q => let ⟨g, e, hw⟩ := h.2.2.1 p q; ⟨g, e, whole_alloc hw⟩, fun p => vrow_alloc (h.2.2.2 p)⟩
theorem SSt.keep {w0 W W' : World} {names : List ByteArray} {s : ByteArray} {b1 a1 b2 a2 : Bool} {x7 x10 x12 x13 : Value} {t : TypeId} (hk : KeepT t W W') (ht : 9 ≠ t) (h : SSt w0 W names s b1 a1 b2 a2 x7 x10 x12 x13) : SSt w0 W' names s b1 a1 b2 a2 x7 x10 x12 x13 :=
  ⟨fun p q => let ⟨g, e, hw, hg⟩ := h.1 p q; ⟨g, e, whole_keep hk ht hw, hg⟩, fun p q => own_keep hk ht (h.2.1 p q), fun p q => let ⟨g, e, hw⟩ := h.2.2.1 p q; ⟨g, e, whole_keep hk ht hw⟩, fun p => own_keep hk ht (h.2.2.2 p)⟩
theorem VSt.keep {w0 W W' : World} {vals : List GV} {v : GV} {b3 a3 b4 a4 : Bool} {x14 x17 x19 x20 : Value} {t : TypeId} (hk : KeepT t W W') (ht : 79 ≠ t) (h : VSt w0 W vals v b3 a3 b4 a4 x14 x17 x19 x20) : VSt w0 W' vals v b3 a3 b4 a4 x14 x17 x19 x20 :=
  ⟨fun p q => let ⟨g, e, hw, hg⟩ := h.1 p q; ⟨g, e, whole_keep hk ht hw, hg⟩, fun p q => own_keep hk ht (h.2.1 p q), fun p q => let ⟨g, e, hw⟩ := h.2.2.1 p q; ⟨g, e, whole_keep hk ht hw⟩, fun p => own_keep hk ht (h.2.2.2 p)⟩
/-- Two blocks of other contents are two. -/
theorem whole_ne {W : World} {g g' : Nat} {t t' : TypeId} {l l' : List Value} (h : Whole W g t l) (h' : Whole W g' t' l') (hl : l ≠ l') : g ≠ g' := by
  rintro rfl
  unfold Whole at h h'
  rw [h] at h'
  injection h' with e
  injection e with e
  exact hl (List.toArray_inj e)

/-- The frame's slots; what has not come up yet is whatever stands there. -/
def wAct (t0 t1 t2 t3 t4 t5 t6 : Value) (df : List Deferred) (y8 y9 y11 y15 y16 y18 x7 x10 x12 x13 x14 x17 x19 x20 x21 : Value) : Act := { tmps := #[t0, t1, t2, t3, t4, t5, t6, x7, y8, y9, x10, y11, x12, x13, x14, y15, y16, x17, y18, x19, x20, x21], defers := df }
theorem wp_lit0 {a : Act} {W : World} {K : Act → World → Prop} {Q : Exit → Act → World → Prop} {E : Prop} {ops : Array Oper} {d : Tmp} {ty : TypeId} {pos : String} {af : Array Edge}
    (h : K (a.put (some d) (.slice (some ⟨W.heap.size, 0, none⟩) 0 0)) (W.alloc (.cells #[] 9))) :
    if Region.wanted { dst := some d, op := Op.buildSlice 53 0 #[], type := ty, pos := pos, after := af, guard := none } (yielded ops a.tmps) = true then Oper.wp Tryz.prog { dst := some d, op := Op.buildSlice 53 0 #[], type := ty, pos := pos, after := af, guard := none } a W K Q else E := by
  go_simp
  exact h
theorem wp_litv {a : Act} {W : World} {K : Act → World → Prop} {Q : Exit → Act → World → Prop} {E : Prop} {ops : Array Oper} {d : Tmp} {ty : TypeId} {pos : String} {af : Array Edge} 
    (h : K (a.put (some d) (.slice (some ⟨W.heap.size, 0, none⟩) 0 0)) (W.alloc (.cells #[] 79))) :
    if Region.wanted { dst := some d, op := Op.buildSlice 52 0 #[], type := ty, pos := pos, after := af, guard := none } (yielded ops a.tmps) = true then Oper.wp Tryz.prog { dst := some d, op := Op.buildSlice 52 0 #[], type := ty, pos := pos, after := af, guard := none } a W K Q else E := by
  go_simp
  exact h
theorem wp_one {a : Act} {W : World} {K : Act → World → Prop} {Q : Exit → Act → World → Prop} {E : Prop} {ops : Array Oper} {d : Tmp} {ty : TypeId} {pos : String} {af : Array Edge} {x : Nat} {u : ByteArray} (hx : a.eval (.tmp x) = .string u)
    (h : K (a.put (some d) (.slice (some ⟨W.heap.size, 0, none⟩) 1 1)) (W.alloc (.cells #[.string u] 9))) :
    if Region.wanted { dst := some d, op := Op.buildSlice 53 1 #[(0, Operand.tmp x)], type := ty, pos := pos, after := af, guard := none } (yielded ops a.tmps) = true then Oper.wp Tryz.prog { dst := some d, op := Op.buildSlice 53 1 #[(0, Operand.tmp x)], type := ty, pos := pos, after := af, guard := none } a W K Q else E := by
  have hx' := hx
  simp only [Act.eval, Array.getD_eq_getD_getElem?] at hx'
  go_simp
  exact h
theorem wp_onev {a : Act} {W : World} {K : Act → World → Prop} {Q : Exit → Act → World → Prop} {E : Prop} {ops : Array Oper} {d : Tmp} {ty : TypeId} {pos : String} {af : Array Edge} {x : Nat} {v : GV} (hx : a.eval (.tmp x) = .agg #[.int .i64 v.k, .int .i64 v.n, .string v.t])
    (h : K (a.put (some d) (.slice (some ⟨W.heap.size, 0, none⟩) 1 1)) (W.alloc (.cells #[.int .i64 v.k, .int .i64 v.n, .string v.t] 79))) :
    if Region.wanted { dst := some d, op := Op.buildSlice 52 1 #[(0, Operand.tmp x)], type := ty, pos := pos, after := af, guard := none } (yielded ops a.tmps) = true then Oper.wp Tryz.prog { dst := some d, op := Op.buildSlice 52 1 #[(0, Operand.tmp x)], type := ty, pos := pos, after := af, guard := none } a W K Q else E := by
  have hx' := hx
  simp only [Act.eval, Array.getD_eq_getD_getElem?] at hx'
  go_simp
  exact h
theorem wp_build2 {a : Act} {W : World} {K : Act → World → Prop} {Q : Exit → Act → World → Prop} {E : Prop} {ops : Array Oper} {d : Tmp} {ty : TypeId} {pos : String} {af : Array Edge} {x y : Nat} {A B : Option Addr} {m n c k : Nat} (hx : a.eval (.tmp x) = .slice A m c) (hy : a.eval (.tmp y) = .slice B n k)
    (h : K (a.put (some d) (.agg #[.slice A m c, .slice B n k])) W) :
    if Region.wanted { dst := some d, op := Op.build 55 #[(0, Operand.tmp x), (1, Operand.tmp y)], type := ty, pos := pos, after := af, guard := none } (yielded ops a.tmps) = true then Oper.wp Tryz.prog { dst := some d, op := Op.build 55 #[(0, Operand.tmp x), (1, Operand.tmp y)], type := ty, pos := pos, after := af, guard := none } a W K Q else E := by
  have hx' := hx
  simp only [Act.eval, Array.getD_eq_getD_getElem?] at hx'
  have hy' := hy
  simp only [Act.eval, Array.getD_eq_getD_getElem?] at hy'
  go_simp
  exact h
theorem wp_put {a : Act} {W : World} {K : Act → World → Prop} {Q : Exit → Act → World → Prop} {E : Prop} {ops : Array Oper} {ty : TypeId} {pos : String} {af : Array Edge} {x y : Nat} {g : Nat} {A B : Option Addr} {m n c k : Nat} {u1 u2 : Value} (hx : a.eval (.tmp x) = .pointer (some ⟨g, 0, none⟩)) (hy : a.eval (.tmp y) = .agg #[.slice A m c, .slice B n k]) (r0 : W.cell? ⟨g, 0, none⟩ = some u1) (r1 : W.cell? ⟨g, 1, none⟩ = some u2) (f0 : W.frozen? ⟨g, 0, none⟩ = false) (f1 : W.frozen? ⟨g, 1, none⟩ = false)
    (h : K (a.put none undef) ((W.setCell ⟨g, 0, none⟩ (.slice A m c)).setCell ⟨g, 1, none⟩ (.slice B n k))) :
    if Region.wanted { dst := none, op := Op.store 55 (Operand.tmp x) (Operand.tmp y), type := ty, pos := pos, after := af, guard := none } (yielded ops a.tmps) = true then Oper.wp Tryz.prog { dst := none, op := Op.store 55 (Operand.tmp x) (Operand.tmp y), type := ty, pos := pos, after := af, guard := none } a W K Q else E := by
  have hx' := hx
  simp only [Act.eval, Array.getD_eq_getD_getElem?] at hx'
  have hy' := hy
  simp only [Act.eval, Array.getD_eq_getD_getElem?] at hy'
  go_simp
  exact h
theorem keep_put {W : World} {n : Nat} {t : TypeId} {l : List Value} {x y : Value} (h : Whole W n t l) : KeepT t W ((W.setCell ⟨n, 0, none⟩ x).setCell ⟨n, 1, none⟩ y) := fun i hi hne => by
  have hin : i ≠ n := by rintro rfl; exact hne _ _ h
  rw [Below.heap_setCell _ _ _ _ hin, Below.heap_setCell _ _ _ _ hin]
/-- The region's operations, as far as the walk asks. -/
structure WOps (ops : Array Oper) : Prop where
  o0 : ∃ ty pos af, ops[0]? = some { dst := some 7, op := Op.buildSlice 53 0 #[], type := ty, pos := pos, after := af, guard := none }
  o3 : ∃ ty pos af, ops[3]? = some { dst := some 10, op := Op.call { callee := Callee.builtin Builtin.append, args := #[Operand.tmp 7, Operand.tmp 9], argTypes := #[53, 53] }, type := ty, pos := pos, after := af, guard := none }
  o5 : ∃ ty pos af, ops[5]? = some { dst := some 12, op := Op.buildSlice 53 1 #[(0, Operand.tmp 11)], type := ty, pos := pos, after := af, guard := none }
  o6 : ∃ ty pos af, ops[6]? = some { dst := some 13, op := Op.call { callee := Callee.builtin Builtin.append, args := #[Operand.tmp 10, Operand.tmp 12], argTypes := #[53, 53] }, type := ty, pos := pos, after := af, guard := none }
  o7 : ∃ ty pos af, ops[7]? = some { dst := some 14, op := Op.buildSlice 52 0 #[], type := ty, pos := pos, after := af, guard := none }
  o10 : ∃ ty pos af, ops[10]? = some { dst := some 17, op := Op.call { callee := Callee.builtin Builtin.append, args := #[Operand.tmp 14, Operand.tmp 16], argTypes := #[52, 52] }, type := ty, pos := pos, after := af, guard := none }
  o12 : ∃ ty pos af, ops[12]? = some { dst := some 19, op := Op.buildSlice 52 1 #[(0, Operand.tmp 18)], type := ty, pos := pos, after := af, guard := none }
  o13 : ∃ ty pos af, ops[13]? = some { dst := some 20, op := Op.call { callee := Callee.builtin Builtin.append, args := #[Operand.tmp 17, Operand.tmp 19], argTypes := #[52, 52] }, type := ty, pos := pos, after := af, guard := none }
  o14 : ∃ ty pos af, ops[14]? = some { dst := some 21, op := Op.build 55 #[(0, Operand.tmp 13), (1, Operand.tmp 20)], type := ty, pos := pos, after := af, guard := none }
  o15 : ∃ ty pos af, ops[15]? = some { dst := none, op := Op.store 55 (Operand.tmp 6) (Operand.tmp 21), type := ty, pos := pos, after := af, guard := none }
  table : wTable ops = true
/-- What stays the same throughout. -/
structure WC where
  w : World
  w0 : World
  n : Nat
  t0 : Value
  t1 : Value
  t2 : Value
  t3 : Value
  t4 : Value
  t5 : Value
  df : List Deferred
  y8 : Value
  y15 : Value
  A1 : Option Addr
  A2 : Option Addr
  c1 : Nat
  c2 : Nat
  names : List ByteArray
  vals : List GV
  s : ByteArray
  v : GV
def WC.act (C : WC) (x7 x10 x12 x13 x14 x17 x19 x20 x21 : Value) : Act := wAct C.t0 C.t1 C.t2 C.t3 C.t4 C.t5 (.pointer (some ⟨C.n, 0, none⟩)) C.df C.y8 (.slice C.A1 C.names.length C.c1) (.string C.s) C.y15 (.slice C.A2 C.vals.length C.c2) (.agg #[.int .i64 C.v.k, .int .i64 C.v.n, .string C.v.t]) x7 x10 x12 x13 x14 x17 x19 x20 x21
structure WC.Ok (C : WC) : Prop where
  low : Below C.w.heap.size C.w C.w0
  cell : Whole C.w0 C.n 55 [.slice none 0 0, .slice none 0 0] ∧ C.w.heap.size ≤ C.n
  q1 : C.A1 = none → C.names.length = 0
  q2 : ∀ W, Below C.w0.heap.size C.w0 W → ∀ ad, C.A1 = some ad → ∀ j y, C.names[j]? = some y → W.cell? (ad.add j) = some (.string y)
  q3 : C.A2 = none → C.vals.length = 0
  q4 : ∀ W, Below C.w0.heap.size C.w0 W → ∀ ad, C.A2 = some ad → ∀ j u, (flat C.vals)[j]? = some u → W.cell? (ad.add j) = some u
  l1 : C.names.length ≤ 1048576
  l2 : C.vals.length ≤ 1048576
def WSt.valid (z : WSt) : Prop := (z.a1 = true → z.b1 = true) ∧ (z.a2 = true → z.a1 = true ∧ z.b2 = true) ∧ (z.a3 = true → z.a2 = true ∧ z.b3 = true) ∧ (z.a4 = true → z.a3 = true ∧ z.b4 = true) ∧ (z.c = true → z.a4 = true) ∧ (z.d = true → z.c = true)
theorem valid_d {b1 a1 b2 a2 b3 a3 b4 a4 c : Bool} (hz : (a1 = true → b1 = true) ∧ (a2 = true → a1 = true ∧ b2 = true) ∧ (a3 = true → a2 = true ∧ b3 = true) ∧ (a4 = true → a3 = true ∧ b4 = true) ∧ (c = true → a4 = true) ∧ (true = true → c = true)) : b1 = true ∧ a1 = true ∧ b2 = true ∧ a2 = true ∧ b3 = true ∧ a3 = true ∧ b4 = true ∧ a4 = true ∧ c = true := by
  obtain ⟨h1, h2, h3, h4, h5, h6⟩ := hz
  have e1 := h6 rfl
  have e2 := h5 e1
  have e3 := h4 e2
  have e4 := h3 e3.1
  have e5 := h2 e4.1
  exact ⟨h1 e5.1, e5.1, e5.2, e4.1, e4.2, e3.1, e3.2, e2, e1⟩
def WC.I (C : WC) (z : WSt) (a : Act) (W : World) : Prop :=
  z.valid ∧ ∃ x7 x10 x12 x13 x14 x17 x19 x20 x21, a = C.act x7 x10 x12 x13 x14 x17 x19 x20 x21 ∧
    SSt C.w0 W C.names C.s z.b1 z.a1 z.b2 z.a2 x7 x10 x12 x13 ∧ VSt C.w0 W C.vals C.v z.b3 z.a3 z.b4 z.a4 x14 x17 x19 x20 ∧
    (z.c = true → x21 = .agg #[x13, x20]) ∧ (z.d = false → Below C.w0.heap.size C.w0 W) ∧
    (z.d = true → ∃ D1 d1 D2 d2, W.cell? ⟨C.n, 0, none⟩ = some (.slice D1 (C.names ++ [C.s]).length d1) ∧ W.cell? ⟨C.n, 1, none⟩ = some (.slice D2 (C.vals ++ [C.v]).length d2) ∧ WithPost C.w (C.names ++ [C.s]) (C.vals ++ [C.v]) (.returned (.agg #[.slice D1 (C.names ++ [C.s]).length d1, .slice D2 (C.vals ++ [C.v]).length d2])) W)
set_option maxRecDepth 100000 in
set_option maxHeartbeats 4000000 in
theorem with_step (C : WC) (hC : C.Ok) {ops : Array Oper} (H : WOps ops) {Q : Exit → Act → World → Prop} {S : World → Prop} (hS : ∀ W, Below C.w0.heap.size C.w0 W → S W) (hS2 : ∀ W x y, Below C.w0.heap.size C.w0 W → S ((W.setCell ⟨C.n, 0, none⟩ x).setCell ⟨C.n, 1, none⟩ y))
    (z : WSt) (a : Act) (W : World) (hI : C.I z a W) (i : Nat) (hi : i ∈ Region.ready .any ops z.marks) : ∃ z', WSt.marks z' = (WSt.marks z).setIfInBounds i true ∧ WSt.left z' < WSt.left z ∧ wpOp Tryz.prog ops Q i (fun a' w' => S w' ∧ C.I z' a' w') a W := by
  have hm : z.may i = true := by
    have h := wTable_spec H.table z
    unfold WSt.fine at h
    rw [Bool.and_eq_true] at h
    exact List.all_eq_true.1 h.1 i hi
  clear hi
  obtain ⟨b1, a1, b2, a2, b3, a3, b4, a4, c, d⟩ := z
  obtain ⟨hz, x7, x10, x12, x13, x14, x17, x19, x20, x21, rfl, hs, hv, hc, hl, hd⟩ := hI
  unfold WSt.valid at hz
  simp only [WSt.may, Bool.or_eq_true, Bool.and_eq_true, beq_iff_eq, Bool.not_eq_true'] at hm
  simp only at hz hs hv hc hl hd
  rcases hm with ((((((((⟨rfl, rfl⟩ | ⟨⟨rfl, rfl⟩, rfl⟩) | ⟨rfl, rfl⟩) | ⟨⟨⟨rfl, rfl⟩, rfl⟩, rfl⟩) | ⟨rfl, rfl⟩) | ⟨⟨⟨rfl, rfl⟩, rfl⟩, rfl⟩) | ⟨rfl, rfl⟩) | ⟨⟨⟨rfl, rfl⟩, rfl⟩, rfl⟩) | ⟨⟨⟨rfl, rfl⟩, rfl⟩, rfl⟩) | ⟨⟨⟨rfl, rfl⟩, rfl⟩, rfl⟩
  · -- 0
    obtain ⟨ty, pos, af, ho⟩ := H.o0
    refine ⟨⟨true, a1, b2, a2, b3, a3, b4, a4, c, d⟩, rfl, by simp [WSt.left, nf], ?_⟩
    have hdf : d = false := by
      cases d with
      | false => rfl
      | true => exact absurd (valid_d hz) (by simp)
    have hl' := hl hdf
    have hz' := hl'.size
    refine wpOp_of ho (wp_lit0 ?_)
    refine ⟨hS _ (hl'.alloc hz' _), ⟨fun _ => rfl, hz.2⟩, _, x10, x12, x13, x14, x17, x19, x20, x21, rfl, ⟨fun _ _ => ⟨_, rfl, whole_new' rfl, hz'⟩, (hs.alloc _).2.1, (hs.alloc _).2.2.1, (hs.alloc _).2.2.2⟩, hv.alloc _, hc, fun _ => hl'.alloc hz' _, fun e => by rw [hdf] at e; cases e⟩
  · -- 3
    obtain ⟨ty, pos, af, ho⟩ := H.o3
    refine ⟨⟨true, true, b2, a2, b3, a3, b4, a4, c, d⟩, rfl, by simp [WSt.left, nf], ?_⟩
    have hdf : d = false := by
      cases d with
      | false => rfl
      | true => exact absurd (valid_d hz) (by simp)
    have hl' := hl hdf
    have hz' := hl'.size
    obtain ⟨g, rfl, hw7, hg⟩ := hs.1 rfl rfl
    refine wpOp_of ho (step_sapp rfl (.tmp 7) (.tmp 9) rfl C.w0 (.slice (some ⟨g, 0, none⟩) 0 0) [] rfl (own_new hw7 hg) hl' C.A1 C.names.length C.c1 C.names rfl rfl hC.q1 (hC.q2 _ hl') (by have := hC.l1; simp; omega) ?_)
    intro v1 W1 hI1 hg1 hk1 hB1 _
    refine ⟨hS _ hB1, ⟨fun _ => rfl, fun h => ⟨rfl, (hz.2.1 h).2⟩, hz.2.2⟩, _, v1, x12, x13, x14, x17, x19, x20, x21, rfl, ⟨fun _ q => (by cases q), fun _ _ => hI1, fun p q => (let ⟨g', e, hw⟩ := hs.2.2.1 p q; ⟨g', e, whole_grown hg1 (fun e => by cases e; exact whole_ne hw hw7 (by simp) rfl) hw⟩), fun p => (by cases (hz.2.1 p).1)⟩, hv.keep hk1 (by decide), hc, fun _ => hB1, fun e => by rw [hdf] at e; cases e⟩
  · -- 5
    obtain ⟨ty, pos, af, ho⟩ := H.o5
    refine ⟨⟨b1, a1, true, a2, b3, a3, b4, a4, c, d⟩, rfl, by simp [WSt.left, nf], ?_⟩
    have hdf : d = false := by
      cases d with
      | false => rfl
      | true => exact absurd (valid_d hz) (by simp)
    have hl' := hl hdf
    have hz' := hl'.size
    refine wpOp_of ho (wp_one rfl ?_)
    refine ⟨hS _ (hl'.alloc hz' _), ⟨hz.1, fun h => ⟨(hz.2.1 h).1, rfl⟩, hz.2.2⟩, x7, x10, _, x13, x14, x17, x19, x20, x21, rfl, ⟨(hs.alloc _).1, (hs.alloc _).2.1, fun _ _ => ⟨_, rfl, whole_new' rfl⟩, (hs.alloc _).2.2.2⟩, hv.alloc _, hc, fun _ => hl'.alloc hz' _, fun e => by rw [hdf] at e; cases e⟩
  · -- 6
    obtain ⟨ty, pos, af, ho⟩ := H.o6
    refine ⟨⟨b1, true, true, true, b3, a3, b4, a4, c, d⟩, rfl, by simp [WSt.left, nf], ?_⟩
    have hdf : d = false := by
      cases d with
      | false => rfl
      | true => exact absurd (valid_d hz) (by simp)
    have hl' := hl hdf
    have hz' := hl'.size
    obtain ⟨g, rfl, hw⟩ := hs.2.2.1 rfl rfl
    have hr := hs.2.1 rfl rfl
    refine wpOp_of ho (step_sapp rfl (.tmp 10) (.tmp 12) rfl C.w0 x10 C.names rfl hr hl' (some ⟨g, 0, none⟩) 1 1 [C.s] rfl rfl (fun e => by cases e) (one_str hw) (by have := hC.l1; simp; omega) ?_)
    intro v1 W1 hI1 hg1 hk1 hB1 _
    refine ⟨hS _ hB1, ⟨hz.1, fun _ => ⟨rfl, rfl⟩, fun h => ⟨rfl, (hz.2.2.1 h).2⟩, hz.2.2.2⟩, x7, x10, _, v1, x14, x17, x19, x20, x21, rfl, ⟨fun _ q => (by cases q), fun _ q => (by cases q), fun _ q => (by cases q), fun _ => hI1⟩, hv.keep hk1 (by decide), fun e => (by cases (hz.2.2.1 (hz.2.2.2.1 (hz.2.2.2.2.1 e)).1).1), fun _ => hB1, fun e => by rw [hdf] at e; cases e⟩
  · -- 7
    obtain ⟨ty, pos, af, ho⟩ := H.o7
    refine ⟨⟨b1, a1, b2, a2, true, a3, b4, a4, c, d⟩, rfl, by simp [WSt.left, nf], ?_⟩
    have hdf : d = false := by
      cases d with
      | false => rfl
      | true => exact absurd (valid_d hz) (by simp)
    have hl' := hl hdf
    have hz' := hl'.size
    refine wpOp_of ho (wp_litv ?_)
    refine ⟨hS _ (hl'.alloc hz' _), ⟨hz.1, hz.2.1, fun h => ⟨(hz.2.2.1 h).1, rfl⟩, hz.2.2.2⟩, x7, x10, x12, x13, _, x17, x19, x20, x21, rfl, hs.alloc _, ⟨fun _ _ => ⟨_, rfl, whole_new' rfl, hz'⟩, (hv.alloc _).2.1, (hv.alloc _).2.2.1, (hv.alloc _).2.2.2⟩, hc, fun _ => hl'.alloc hz' _, fun e => by rw [hdf] at e; cases e⟩
  · -- 10
    obtain ⟨ty, pos, af, ho⟩ := H.o10
    refine ⟨⟨b1, a1, b2, true, true, true, b4, a4, c, d⟩, rfl, by simp [WSt.left, nf], ?_⟩
    have hdf : d = false := by
      cases d with
      | false => rfl
      | true => exact absurd (valid_d hz) (by simp)
    have hl' := hl hdf
    have hz' := hl'.size
    obtain ⟨g, rfl, hw7, hg⟩ := hv.1 rfl rfl
    refine wpOp_of ho (step_wv rfl (.tmp 14) (.tmp 16) rfl C.w0 (.slice (some ⟨g, 0, none⟩) 0 0) [] rfl (own_new hw7 hg) hl' C.A2 C.vals.length C.c2 C.vals rfl rfl hC.q3 (hC.q4 _ hl') (by have := hC.l2; simp; omega) ?_)
    intro v1 W1 hI1 hg1 hk1 hB1 _
    refine ⟨hS _ hB1, ⟨hz.1, hz.2.1, fun _ => ⟨rfl, rfl⟩, fun h => ⟨rfl, (hz.2.2.2.1 h).2⟩, hz.2.2.2.2⟩, x7, x10, x12, x13, _, v1, x19, x20, x21, rfl, hs.keep hk1 (by decide), ⟨fun _ q => (by cases q), fun _ _ => hI1, fun p q => (let ⟨g', e, hw⟩ := hv.2.2.1 p q; ⟨g', e, whole_grown hg1 (fun e => by cases e; exact whole_ne hw hw7 (by simp) rfl) hw⟩), fun p => (by cases (hz.2.2.2.1 p).1)⟩, hc, fun _ => hB1, fun e => by rw [hdf] at e; cases e⟩
  · -- 12
    obtain ⟨ty, pos, af, ho⟩ := H.o12
    refine ⟨⟨b1, a1, b2, a2, b3, a3, true, a4, c, d⟩, rfl, by simp [WSt.left, nf], ?_⟩
    have hdf : d = false := by
      cases d with
      | false => rfl
      | true => exact absurd (valid_d hz) (by simp)
    have hl' := hl hdf
    have hz' := hl'.size
    refine wpOp_of ho (wp_onev rfl ?_)
    refine ⟨hS _ (hl'.alloc hz' _), ⟨hz.1, hz.2.1, hz.2.2.1, fun h => ⟨(hz.2.2.2.1 h).1, rfl⟩, hz.2.2.2.2⟩, x7, x10, x12, x13, x14, x17, _, x20, x21, rfl, hs.alloc _, ⟨(hv.alloc _).1, (hv.alloc _).2.1, fun _ _ => ⟨_, rfl, whole_new' rfl⟩, (hv.alloc _).2.2.2⟩, hc, fun _ => hl'.alloc hz' _, fun e => by rw [hdf] at e; cases e⟩
  · -- 13
    obtain ⟨ty, pos, af, ho⟩ := H.o13
    refine ⟨⟨b1, a1, b2, a2, b3, true, true, true, c, d⟩, rfl, by simp [WSt.left, nf], ?_⟩
    have hdf : d = false := by
      cases d with
      | false => rfl
      | true => exact absurd (valid_d hz) (by simp)
    have hl' := hl hdf
    have hz' := hl'.size
    obtain ⟨g, rfl, hw⟩ := hv.2.2.1 rfl rfl
    have hr := hv.2.1 rfl rfl
    refine wpOp_of ho (step_wv rfl (.tmp 17) (.tmp 19) rfl C.w0 x17 C.vals rfl hr hl' (some ⟨g, 0, none⟩) 1 1 [C.v] rfl rfl (fun e => by cases e) (one_val hw) (by have := hC.l2; simp; omega) ?_)
    intro v1 W1 hI1 hg1 hk1 hB1 _
    refine ⟨hS _ hB1, ⟨hz.1, hz.2.1, hz.2.2.1, fun _ => ⟨rfl, rfl⟩, fun _ => rfl, hz.2.2.2.2.2⟩, x7, x10, x12, x13, x14, x17, _, v1, x21, rfl, hs.keep hk1 (by decide), ⟨fun _ q => (by cases q), fun _ q => (by cases q), fun _ q => (by cases q), fun _ => hI1⟩, fun e => (by cases hz.2.2.2.2.1 e), fun _ => hB1, fun e => by rw [hdf] at e; cases e⟩
  · -- 14
    obtain ⟨ty, pos, af, ho⟩ := H.o14
    refine ⟨⟨b1, a1, b2, true, b3, a3, b4, true, true, d⟩, rfl, by simp [WSt.left, nf], ?_⟩
    have hdf : d = false := by
      cases d with
      | false => rfl
      | true => exact absurd (valid_d hz) (by simp)
    have hl' := hl hdf
    obtain ⟨D1, d1, rfl, _, _⟩ := (hs.2.2.2 rfl).strs
    obtain ⟨D2, d2, rfl, _⟩ := vrow_valsB (hv.2.2.2 rfl)
    refine wpOp_of ho (wp_build2 rfl rfl ?_)
    exact ⟨hS _ hl', ⟨hz.1, hz.2.1, hz.2.2.1, hz.2.2.2.1, fun _ => rfl, fun _ => rfl⟩, x7, x10, x12, _, x14, x17, x19, _, _, rfl, hs, hv, fun _ => rfl, fun _ => hl', fun e => by rw [hdf] at e; cases e⟩
  · -- 15
    obtain ⟨ty, pos, af, ho⟩ := H.o15
    refine ⟨⟨b1, a1, b2, a2, b3, a3, b4, true, true, true⟩, rfl, by simp [WSt.left, nf], ?_⟩
    have hl' := hl rfl
    have ha2 : a2 = true := (hz.2.2.1 (hz.2.2.2.1 rfl).1).1
    subst ha2
    obtain ⟨D1, d1, D2, d2, rfl, rfl, r0, r1, f0, f1, hfin⟩ := with_done hC.low hC.cell hl' (hs.2.2.2 rfl) (hv.2.2.2 rfl)
    have hx := hc rfl
    subst hx
    have hk := keep_put (x := .slice D1 (C.names ++ [C.s]).length d1) (y := .slice D2 (C.vals ++ [C.v]).length d2) (hC.cell.1.below hl' hC.cell.1.lt)
    refine wpOp_of ho (wp_put rfl rfl r0 r1 f0 f1 ?_)
    exact ⟨hS2 _ _ _ hl', ⟨hz.1, hz.2.1, hz.2.2.1, hz.2.2.2.1, hz.2.2.2.2.1, fun _ => rfl⟩, x7, x10, x12, _, x14, x17, x19, _, _, rfl, hs.keep hk (by decide), hv.keep hk (by decide), fun _ => rfl, fun e => (by cases e), fun _ => ⟨D1, d1, D2, d2, hfin.out _ rfl⟩⟩
theorem with_all (C : WC) (hC : C.Ok) {ops : Array Oper} (H : WOps ops) {Q : Exit → Act → World → Prop} {S : World → Prop} (hS : ∀ W, Below C.w0.heap.size C.w0 W → S W) (hS2 : ∀ W x y, Below C.w0.heap.size C.w0 W → S ((W.setCell ⟨C.n, 0, none⟩ x).setCell ⟨C.n, 1, none⟩ y))
    (h0 : Region.ready .any ops (WSt.marks ⟨true, true, true, true, true, true, true, true, true, true⟩) = [])
    (hQ : ∀ x7 x10 x12 x13 x14 x17 x19 x20 x21 W D1 d1 D2 d2, W.cell? ⟨C.n, 0, none⟩ = some (.slice D1 (C.names ++ [C.s]).length d1) → W.cell? ⟨C.n, 1, none⟩ = some (.slice D2 (C.vals ++ [C.v]).length d2) → WithPost C.w (C.names ++ [C.s]) (C.vals ++ [C.v]) (.returned (.agg #[.slice D1 (C.names ++ [C.s]).length d1, .slice D2 (C.vals ++ [C.v]).length d2])) W → Q .normal (C.act x7 x10 x12 x13 x14 x17 x19 x20 x21) W)
    (x7 x10 x12 x13 x14 x17 x19 x20 x21 : Value) (W : World) (hW : Below C.w0.heap.size C.w0 W) :
    wpAnyH Tryz.prog .any ops Q S 10 (WSt.marks ⟨false, false, false, false, false, false, false, false, false, false⟩) (C.act x7 x10 x12 x13 x14 x17 x19 x20 x21) W := by
  refine dag WSt.marks WSt.left C.I (fun z a W hI i hi => with_step C hC H hS hS2 z a W hI i hi) ?_ ?_ 10 _ _ _ ?_ (by decide)
  · intro z a W hI hr
    have h := wTable_spec H.table z
    unfold WSt.fine at h
    rw [hr] at h
    simp at h
    obtain ⟨_, _, _, _, _, _, _, _, _, _, rfl, _, _, _, _, hd⟩ := hI
    obtain ⟨D1, d1, D2, d2, k1, k2, k3⟩ := hd h
    exact hQ _ _ _ _ _ _ _ _ _ _ _ _ _ _ k1 k2 k3
  · intro z hz
    obtain ⟨b1, a1, b2, a2, b3, a3, b4, a4, c, d⟩ := z
    have : b1 = true ∧ a1 = true ∧ b2 = true ∧ a2 = true ∧ b3 = true ∧ a3 = true ∧ b4 = true ∧ a4 = true ∧ c = true ∧ d = true := by
      unfold WSt.left nf at hz
      simp only [] at hz
      refine ⟨?_, ?_, ?_, ?_, ?_, ?_, ?_, ?_, ?_, ?_⟩ <;> (apply Classical.byContradiction; intro hn; rw [Bool.not_eq_true] at hn; subst hn; simp at hz)
    obtain ⟨rfl, rfl, rfl, rfl, rfl, rfl, rfl, rfl, rfl, rfl⟩ := this
    exact h0
  · exact ⟨⟨fun h => (by cases h), fun h => (by cases h), fun h => (by cases h), fun h => (by cases h), fun h => (by cases h), fun h => (by cases h)⟩, x7, x10, x12, x13, x14, x17, x19, x20, x21, rfl,
      ⟨fun h => (by cases h), fun h => (by cases h), fun h => (by cases h), fun h => (by cases h)⟩, ⟨fun h => (by cases h), fun h => (by cases h), fun h => (by cases h), fun h => (by cases h)⟩, fun h => (by cases h), fun _ => hW, fun h => (by cases h)⟩
set_option maxRecDepth 100000 in
set_option maxHeartbeats 4000000 in
theorem spec_with {lo lo2 : Nat} (A1 A2 : Option Addr) (c1 c2 : Nat) (names : List ByteArray) (vals : List GV) (s : ByteArray) (v : GV) (w : World) (hl : names.length ≤ 1048576) (hl2 : vals.length ≤ 1048576) (hr : StrsAt w lo w.heap.size A1 names) (hv : ValuesAt w lo2 w.heap.size A2 vals) :
    Calls Tryz.prog 46 #[.agg #[.slice A1 names.length c1, .slice A2 vals.length c2], .string s, .agg #[.int .i64 v.k, .int .i64 v.n, .string v.t]] w (WithPost w (names ++ [s]) (vals ++ [v])) := by
  obtain ⟨hE, hV, hR, hBw, hZ⟩ := new3k w [.slice A1 names.length c1, .slice A2 vals.length c2] [.int .i64 v.k, .int .i64 v.n, .string v.t] [.slice none 0 0, .slice none 0 0] 55 79 55
  obtain ⟨q1, q2⟩ := strs_src (hr.to_ hBw)
  obtain ⟨q3, q4⟩ := vals_src (hv.to_ hBw)
  have HE := Lib.hid hE
  have HV := Lib.hid hV
  have hR0 := Lib.hid (And.intro hR (show w.heap.size ≤ w.heap.size + 1 + 1 by omega))
  have Q2 := Lib.hid q2
  have Q4 := Lib.hid q4
  clear hE hV hR q2 q4 hr hv
  go_enter Tryz.func46, Tryz.ntmps46
  go_wp2_with fail
  generalize hw0 : (((w.alloc _).alloc _).alloc _) = w0 at *
  clear hw0
  have hS0 : ∀ W, Below w0.heap.size w0 W → W.cell? ⟨w.heap.size, 0, none⟩ = some (.slice A1 names.length c1) ∧ W.cell? ⟨w.heap.size, 1, none⟩ = some (.slice A2 vals.length c2) ∧ W.cell? ⟨w.heap.size + 1, 0, none⟩ = some (.int .i64 v.k) ∧ W.cell? ⟨w.heap.size + 1, 1, none⟩ = some (.int .i64 v.n) ∧ W.cell? ⟨w.heap.size + 1, 2, none⟩ = some (.string v.t) := fun W hb =>
    ⟨(HE.out.below hb HE.out.lt).cell 0, (HE.out.below hb HE.out.lt).cell 1, (HV.out.below hb HV.out.lt).cell 0, (HV.out.below hb HV.out.lt).cell 1, (HV.out.below hb HV.out.lt).cell 2⟩
  refine wp_region_noPanic ?_
  refine wp_region_held_drew (S := fun W => W.cell? ⟨w.heap.size, 0, none⟩ = some (.slice A1 names.length c1) ∧ W.cell? ⟨w.heap.size, 1, none⟩ = some (.slice A2 vals.length c2) ∧ W.cell? ⟨w.heap.size + 1, 0, none⟩ = some (.int .i64 v.k) ∧ W.cell? ⟨w.heap.size + 1, 1, none⟩ = some (.int .i64 v.n) ∧ W.cell? ⟨w.heap.size + 1, 2, none⟩ = some (.string v.t)) (by kernel_rfl) (hS0 _ ((Below.refl _ _).drew)) (fun hHeld => ?_)
  refine wpAnyH_take (i := 1) (v := ?_) (by simp only [List.getElem?_toArray, List.getElem?_cons_succ, List.getElem?_cons_zero]; rfl) (by kernel_rfl) (by kernel_rfl) (by kernel_rfl) (fun _ _ _ h => h) (Or.inl ⟨by rfl, ?_⟩) (by assumption) ?_
  rotate_left
  · intro w hSw
    try dsimp only at hSw
    go_simp
    try with_reducible rfl
  simp only [Act.put, List.setIfInBounds_toArray, List.set_cons_zero, List.set_cons_succ]
  refine wpAnyH_take (i := 2) (v := ?_) (by simp only [List.getElem?_toArray, List.getElem?_cons_succ, List.getElem?_cons_zero]; rfl) (by kernel_rfl) (by kernel_rfl) (by kernel_rfl) (fun _ _ _ h => h) (Or.inl ⟨by rfl, ?_⟩) (by assumption) ?_
  rotate_left
  · intro w hSw
    try dsimp only at hSw
    go_simp
    try with_reducible rfl
  simp only [Act.put, List.setIfInBounds_toArray, List.set_cons_zero, List.set_cons_succ]
  refine wpAnyH_take (i := 4) (v := ?_) (by simp only [List.getElem?_toArray, List.getElem?_cons_succ, List.getElem?_cons_zero]; rfl) (by kernel_rfl) (by kernel_rfl) (by kernel_rfl) (fun _ _ _ h => h) (Or.inl ⟨by rfl, ?_⟩) (by assumption) ?_
  rotate_left
  · intro w hSw
    try dsimp only at hSw
    go_simp
    try with_reducible rfl
  simp only [Act.put, List.setIfInBounds_toArray, List.set_cons_zero, List.set_cons_succ]
  refine wpAnyH_take (i := 8) (v := ?_) (by simp only [List.getElem?_toArray, List.getElem?_cons_succ, List.getElem?_cons_zero]; rfl) (by kernel_rfl) (by kernel_rfl) (by kernel_rfl) (fun _ _ _ h => h) (Or.inl ⟨by rfl, ?_⟩) (by assumption) ?_
  rotate_left
  · intro w hSw
    try dsimp only at hSw
    go_simp
    try with_reducible rfl
  simp only [Act.put, List.setIfInBounds_toArray, List.set_cons_zero, List.set_cons_succ]
  refine wpAnyH_take (i := 9) (v := ?_) (by simp only [List.getElem?_toArray, List.getElem?_cons_succ, List.getElem?_cons_zero]; rfl) (by kernel_rfl) (by kernel_rfl) (by kernel_rfl) (fun _ _ _ h => h) (Or.inl ⟨by rfl, ?_⟩) (by assumption) ?_
  rotate_left
  · intro w hSw
    try dsimp only at hSw
    go_simp
    try with_reducible rfl
  simp only [Act.put, List.setIfInBounds_toArray, List.set_cons_zero, List.set_cons_succ]
  refine wpAnyH_take (i := 11) (v := ?_) (by simp only [List.getElem?_toArray, List.getElem?_cons_succ, List.getElem?_cons_zero]; rfl) (by kernel_rfl) (by kernel_rfl) (by kernel_rfl) (fun _ _ _ h => h) (Or.inl ⟨by rfl, ?_⟩) (by assumption) ?_
  rotate_left
  · intro w hSw
    try dsimp only at hSw
    go_simp
    try with_reducible rfl
  simp only [Act.put, List.setIfInBounds_toArray, List.set_cons_zero, List.set_cons_succ]
  refine with_all { w := w, w0 := w0, n := w.heap.size + 1 + 1, t0 := _, t1 := _, t2 := _, t3 := _, t4 := _, t5 := _, df := [], y8 := _, y15 := _, A1 := A1, A2 := A2, c1 := c1, c2 := c2, names := names, vals := vals, s := s, v := v } ⟨hBw, hR0.out, q1, Q2.out, q3, Q4.out, hl, hl2⟩ ⟨⟨_, _, _, rfl⟩, ⟨_, _, _, rfl⟩, ⟨_, _, _, rfl⟩, ⟨_, _, _, rfl⟩, ⟨_, _, _, rfl⟩, ⟨_, _, _, rfl⟩, ⟨_, _, _, rfl⟩, ⟨_, _, _, rfl⟩, ⟨_, _, _, rfl⟩, ⟨_, _, _, rfl⟩, by kernel_rfl⟩ hS0 (fun W x y hb => ?_) (by kernel_rfl) ?_ _ _ _ _ _ _ _ _ _ _ ((Below.refl _ _).drew)
  · obtain ⟨e1, e2, e3, e4, e5⟩ := hS0 W hb
    have z1 : w.heap.size + 1 + 1 ≠ w.heap.size := by omega
    have z2 : w.heap.size + 1 + 1 ≠ w.heap.size + 1 := by omega
    exact ⟨set2_far e1 z1, set2_far e2 z1, set2_far e3 z2, set2_far e4 z2, set2_far e5 z2⟩
  · intro x7 x10 x12 x13 x14 x17 x19 x20 x21 W D1 d1 D2 d2 k1 k2 k3
    have K3 := Lib.hid k3
    clear k3
    refine NoPanic.normal ?_
    simp only [WC.act, wAct]
    go_wp2_with fail
    exact bodyPost_ret (v := .agg #[.slice D1 (names ++ [s]).length d1, .slice D2 (vals ++ [v]).length d2]) (by simp [results, Tryz.results46, go_sem, k1, k2]) rfl K3.out
end Go.Proofs.YteoepnadjkjlmaaGreat
