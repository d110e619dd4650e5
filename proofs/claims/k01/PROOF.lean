import PyProof.Rows.All
import Wide.All
import OpenK.AllK
import Wide.FinOn
import HandS.ForMost
import HandS.ForExc
import HandS.FStr
import HandS.IsInst
import HandS.Codes
import PySem.Challenge.RW_uponboth_k01_term_text
set_option Elab.async false
set_option linter.all false
set_option maxRecDepth 100000
set_option maxHeartbeats 4000000
namespace U
open PySem L2
/-! ### what stands behind the top: a def by its name; the built-in names -/
structure D (K : PySem.W.Frag) (mg : Str → Option Value) (x : Str) (st : Stmt) (ps : List Str) (f : Addr) (fd : FuncData) : Prop where
  F : Fun K x x st f fd
  b : Binds K fd ps []
  m : mg x = some (.ref f)

/-! ### trees -/
inductive Tree where
  | L
  | N (l r : Tree)
namespace Tree
def sz : Tree → Nat
  | L => 1
  | N l r => sz l + sz r
def dp : Tree → Nat
  | L => 0
  | N l r => max (dp l) (dp r) + 1
def d : Tree → PyData
  | L => .tuple []
  | N l r => .tuple [d l, d r]
theorem sz_pos : ∀ t : Tree, 0 < t.sz
  | L => Nat.zero_lt_one
  | N l r => by
    have h := sz_pos l
    show 0 < l.sz + r.sz
    omega
theorem d_lay : ∀ t : Tree, t.d.canLay0 = true
  | L => rfl
  | N l r => by
    show ((PyData.canLay0 l.d) && ((PyData.canLay0 r.d) && true)) = true
    rw [d_lay l, d_lay r]
    rfl
theorem d_depth : ∀ t : Tree, t.d.depth = t.dp + 1
  | L => rfl
  | N l r => by
    show max l.d.depth (max r.d.depth 0) + 1 = max l.dp r.dp + 1 + 1
    rw [d_depth l, d_depth r]
    omega
theorem shaped {t : Tree} (h : t.dp ≤ 63) : SeqAt.shaped t.d = true := by
  unfold SeqAt.shaped
  rw [d_lay, d_depth, decide_eq_true (by omega)]
  rfl
def isL : Tree → Bool
  | L => true
  | N _ _ => false
theorem eqvL (t : Tree) : PyData.eqv t.d (.tuple []) = t.isL := by cases t <;> rfl
end Tree
abbrev TA (K : PySem.W.Frag) (H : Hp) (v : V) (t : Tree) : Prop := Dp K H v t.d
theorem shapedE : SeqAt.shaped (.tuple []) = true := by decide +kernel

/-! ### heaps: what is a tuple stays one -/
def Tp (H H' : Hp) : Prop := ∀ b xs, Rd H b (.tup xs) → Rd H' b (.tup xs)
theorem Tp.refl (H : Hp) : Tp H H := fun _ _ h => h
theorem Tp.trans {H H1 H2 : Hp} (a : Tp H H1) (b : Tp H1 H2) : Tp H H2 := fun c o h => b c o (a c o h)
theorem Tp.same {H H' : Hp} (e : Same H H') : Tp H H' := fun b xs h => by
  rcases h with h | ⟨o, h⟩
  · exact .inl (e _ _ h)
  · exact .inr ⟨o, e _ _ h⟩
def But (r : Addr) (H H' : Hp) : Prop := ∀ b o, b ≠ r → H b = some o → H' b = some o
theorem But.trans {r : Addr} {H H1 H2 : Hp} (a : But r H H1) (b : But r H1 H2) : But r H H2 := fun c o n h => b c o n (a c o n h)
theorem But.same {r : Addr} {H H' : Hp} (e : Same H H') : But r H H' := fun b o _ h => e b o h
theorem But.set {r : Addr} {H : Hp} {o : HO} : But r H (upd H r o) := fun b z n h => by rw [upd_ne n]; exact h
theorem Tp.but {r : Addr} {H H' : Hp} {ys : List V} (hr : H r = some (.lst ys)) (e : But r H H') : Tp H H' := fun b xs h => by
  rcases h with h | ⟨o, h⟩
  · exact .inl (e _ _ (ne_of h hr (by intro z; cases z)) h)
  · exact .inr ⟨o, e _ _ (ne_of h hr (by intro z; cases z)) h⟩
theorem Same.new {H : Hp} {p : Addr} (h : H p = none) (o : HO) : Same H (upd H p o) := fun b u q => by rw [upd_ne (ne_of_none q h)]; exact q
theorem Tp.sqT {K : PySem.W.Frag} {H H' : Hp} {a : Addr} {xs : List V} (e : Tp H H') (h : SqT K H a xs) : SqT K H' a xs := by
  rcases h with h | h
  · exact .inl (e _ _ h)
  · exact .inr h
theorem SqT.here {K : PySem.W.Frag} {H : Hp} {a : Addr} {xs : List V} (h : H a = some (.tup xs)) : SqT K H a xs := .inl (.inl h)
theorem SqL.here {K : PySem.W.Frag} {H : Hp} {a : Addr} {xs : List V} (h : H a = some (.lst xs)) : SqL K H a xs := .inl (.inl h)

section
variable {K : PySem.W.Frag} {H H' : Hp}
theorem ta_leaf {a : Addr} (h : SqT K H a []) : TA K H (.ref a) .L := Dp.tup h .nil
theorem ta_node {a : Addr} {x y : V} {l r : Tree} (h : SqT K H a [x, y]) (hl : TA K H x l) (hr : TA K H y r) : TA K H (.ref a) (.N l r) := Dp.tup h (.cons hl (.cons hr .nil))
theorem ta_invL {v : V} (h : TA K H v .L) : ∃ a, v = .ref a ∧ SqT K H a [] := by
  cases h with
  | tup hs ha =>
    cases ha
    exact ⟨_, rfl, hs⟩
theorem ta_invN {v : V} {l r : Tree} (h : TA K H v (.N l r)) : ∃ a x y, v = .ref a ∧ SqT K H a [x, y] ∧ TA K H x l ∧ TA K H y r := by
  cases h with
  | tup hs ha =>
    cases ha with
    | cons h1 h2 =>
      cases h2 with
      | cons h3 h4 =>
        cases h4
        exact ⟨_, _, _, rfl, hs, h1, h3⟩
theorem ta_inv : ∀ {v : V} {t : Tree}, TA K H v t → ∃ a xs, v = .ref a ∧ SqT K H a xs
  | _, .L, h => by
    obtain ⟨a, e, q⟩ := ta_invL h
    exact ⟨a, _, e, q⟩
  | _, .N _ _, h => by
    obtain ⟨a, x, y, e, q, _⟩ := ta_invN h
    exact ⟨a, _, e, q⟩
theorem ta_mono (e : Tp H H') : ∀ {t : Tree} {v : V}, TA K H v t → TA K H' v t
  | .L, v, h => by
    obtain ⟨a, rfl, q⟩ := ta_invL h
    exact ta_leaf (e.sqT q)
  | .N l r, v, h => by
    obtain ⟨a, x, y, rfl, q, h1, h2⟩ := ta_invN h
    exact ta_node (e.sqT q) (ta_mono e h1) (ta_mono e h2)
mutual
theorem dp_same (e : Same H H') : ∀ (d : PyData) {v : V}, Dp K H v d → Dp K H' v d
  | .none, _, h => by
    cases h
    exact .non
  | .bool b, _, h => by
    cases h
    exact .bl b
  | .int i, _, h => by
    cases h
    exact .int i
  | .str x, _, h => by
    cases h
    exact .str x
  | .list ds, _, h => by
    cases h with
    | lst hs ha => exact .lst (e.seq hs) (dp_sameAll e ds ha)
  | .tuple ds, _, h => by
    cases h with
    | tup hs ha => exact .tup ((Tp.same e).sqT hs) (dp_sameAll e ds ha)
  | .dict _, _, h => by cases h
theorem dp_sameAll (e : Same H H') : ∀ (ds : List PyData) {vs : List V}, DpAll K H vs ds → DpAll K H' vs ds
  | [], _, h => by
    cases h
    exact .nil
  | d :: ds, _, h => by
    cases h with
    | cons h1 h2 => exact .cons (dp_same e d h1) (dp_sameAll e ds h2)
end
end
theorem one_le : 1 ≤ sizeLine := by decide
theorem two_le : 2 ≤ sizeLine := by decide
theorem zero_le' : 0 ≤ sizeLine := by decide
theorem four_le : 4 ≤ sizeLine := by decide
theorem ite_eq {b c : Bool} {A B : Prop} (e : b = c) (h : if c = true then A else B) : if b = true then A else B := e ▸ h
theorem ite_yes {b : Bool} {A B : Prop} (e : b = true) (h : A) : if b = true then A else B := by rw [if_pos e]; exact h
theorem ite_no {b : Bool} {A B : Prop} (e : b = false) (h : B) : if b = true then A else B := by rw [e]; exact iteF h
theorem tyx_tup {K : PySem.W.Frag} {H : Hp} {a : Addr} {xs : List V} (h : SqT K H a xs) : TyX K H (.ref a) (.type "tuple") := by
  rcases h with (h | ⟨o, h⟩) | ⟨o, its, n, h, c, _⟩
  · exact .base (.tup h)
  · exact .fTuple h
  · exact .kTuple h c
theorem tyx_lst {K : PySem.W.Frag} {H : Hp} {a : Addr} {xs : List V} (h : SqL K H a xs) : TyX K H (.ref a) (.type "list") := by
  rcases h with (h | ⟨o, h⟩) | ⟨o, its, n, h, c, _⟩
  · exact .base (.lst h)
  · exact .base (.frz h)
  · exact .kList h c
def Tree.nodes : Tree → Nat
  | .L => 1
  | .N l r => l.nodes + r.nodes + 1
/-! ### enumerate(a text): each sign in a new pair -/
def ItES (z : Str) : It :=
  ⟨fun j _ => j < z.cps.size, fun j G v G' => ∃ q c, v = .ref q ∧ G q = none ∧ G' = upd G q (.tup [.int (j : Nat), .str ⟨#[c]⟩]) ∧ z.cps[j]? = some c, fun j _ => z.cps.size ≤ j⟩
theorem draws_text {Pr : Program} {wo : World} {Ar : Around} (calm : Ar.handled = none) (it : Addr) (z : Str) (tk : Tok) :
    PySem.Draws Pr wo Ar it [it] z.cps.size (fun j v => ∃ c u, z.cps[j]? = some c ∧ v = .str ⟨#[c]⟩ u) (fun j g => g.IsStrIter it (PySem.strIterType z) z tk j) := by
  unfold PySem.strIterType
  cases z.cps.all (· < 128)
  · exact PySem.Draws.strWide calm it z tk
  · exact PySem.Draws.strAscii calm it z tk
theorem turn_ES {Pr : Program} {wo : World} {Kf : PySem.W.Frag} {ts : List Expr} {nn : Nat} {tp : Pos} (en it : Addr) (z : Str) (tk : Tok) :
    Turn Pr wo Kf (.Tuple ts nn tp) (ItES z) [en, it] en (fun j g => (∃ old, PySem.IsEnum g en it ((j : Nat) : Int) old) ∧ g.IsStrIter it (PySem.strIterType z) z tk j ∧ en ≠ it ∧ j ≤ z.cps.size) where
  mem := List.mem_cons_self
  obj := fun j g st b hb => by
    obtain ⟨⟨old, h1⟩, ⟨ob, h2, h3, h4⟩, _⟩ := st
    rcases List.mem_cons.mp hb with rfl | hb
    · exact ⟨_, h1, fun v q => nomatch q⟩
    · cases List.mem_singleton.mp hb
      refine ⟨ob, h2, fun v q => ?_⟩
      rw [h4] at q
      cases q
  keep := fun j g g' st kk => by
    obtain ⟨⟨old, h1⟩, ⟨ob, h2, h3⟩, h5⟩ := st
    exact ⟨⟨old, kk en List.mem_cons_self _ h1⟩, ⟨ob, kk it (List.mem_cons_of_mem _ List.mem_cons_self) _ h2, h3⟩, h5⟩
  item := by
    intro X e1 e2 e3 calm j pins s σ G Ex inv fp st lt
    cases e1
    cases e2
    cases e3
    obtain ⟨⟨old, h1⟩, h2, ne, le⟩ := st
    have l1 : en < s.heap.objs.size := Heap.lt_size h1
    have l2 : it < s.heap.objs.size := by
      obtain ⟨_, y, _⟩ := h2
      exact Heap.lt_size y
    refine PySem.wpAny_pyNext_enum_itemD (draws_text (show X.A.in1.handled = none from inv.ok.hd calm) it z tk) h1 h2 lt ne (fun y => ne (List.mem_singleton.mp y)) fun u g' t2 hu out h2' hT sz kp => ?_
    obtain ⟨c, u', hc, rfl⟩ := hu
    refine ⟨_, rfl, PySem.wpAny_letOwnedTupleGo_enum (s := { s with heap := g', toks := t2 + 1 }) out fun g'' h1' sb => ?_⟩
    have hT' : g''.get? s.heap.objs.size = some { cls := .type "tuple", data := .seq #[.int j t2, .str ⟨#[c]⟩ u'] } := (sb.2 _ (Nat.ne_of_gt l1)).trans hT
    have made : ObjOk X.prog X.w (upd G s.heap.objs.size (.tup [.int (j : Nat), .str ⟨#[c]⟩])) g'' s.heap.objs.size (.tup [.int (j : Nat), .str ⟨#[c]⟩]) :=
      ⟨two_le, [.int j t2, .str ⟨#[c]⟩ u'], .cons ⟨_, rfl⟩ (.cons ⟨_, rfl⟩ .nil), ⟨_, hT', rfl, _, rfl⟩⟩
    have inv' : Inv X pins σ (upd G s.heap.objs.size (.tup [.int (j : Nat), .str ⟨#[c]⟩])) { s with heap := g'', toks := t2 + 1 } := by
      refine Inv.turnedNew (ch := [en, it]) inv (fun b ob nb y => ?_) fp (Nat.le_refl _) made
      have n1 : b ≠ en := fun y => nb (by rw [y]; exact List.mem_cons_self)
      have n2 : b ≠ it := fun y => nb (by rw [y]; exact List.mem_cons_of_mem _ List.mem_cons_self)
      exact (sb.2 b n1).trans (kp b ob n1 n2 y)
    refine ⟨.ref s.heap.objs.size, _, inv', rfl, ⟨_, c, rfl, inv.hok.fresh (Nat.le_refl _), rfl, hc⟩, ⟨⟨.str ⟨#[c]⟩ u', ?_⟩, ?_, ne, lt⟩, fun b hb => ?_⟩
    · rw [show (((j + 1 : Nat) : Nat) : Int) = (j : Int) + 1 by omega]
      exact h1'
    · obtain ⟨ob, y1, y2⟩ := h2'
      exact ⟨ob, (sb.2 it (Ne.symm ne)).trans y1, y2⟩
    · have lb : b < s.heap.objs.size := by
        rcases List.mem_cons.mp hb with rfl | hb
        · exact l1
        · cases List.mem_singleton.mp hb
          exact l2
      rw [upd_ne (Nat.ne_of_lt lb)]
      exact (fp b hb).1
  done := by
    intro X e1 e2 e3 calm j pins s σ G Ex inv fp st ge
    cases e1
    cases e2
    cases e3
    obtain ⟨⟨old, h1⟩, h2, ne, le⟩ := st
    have ej : j = z.cps.size := Nat.le_antisymm le ge
    subst ej
    obtain ⟨f0, f1, f2, f3, f4, f5⟩ := fp it (List.mem_cons_of_mem _ List.mem_cons_self)
    exact PySem.wpAny_pyNext_enum_endD (draws_text (show X.A.in1.handled = none from inv.ok.hd calm) it z tk) h1 h2 fun g' eb => ⟨rfl, inv.turned (t' := s.toks) (fun b o nb y => eb b o nb y) f0 f1 f3 f4 f5⟩
  self := fun Ar j s Q Ex st y => by
    obtain ⟨⟨_, h1⟩, _⟩ := st
    exact PySem.wpAny_pyIter_enum h1 y
def iES (ta : L2.TA) : TI := fun σ G R => ta σ G fun vs G1 => ∃ z : Str, vs = [.str z] ∧ R (ItES z) G1
theorem pi_ES {X : Cx} {ex : Expr} {ta : L2.TA} {p pos tp : Pos} {ts : List Expr} {nn : Nat} (gl : Gl X "enumerate") (mm : X.mg "enumerate" = none) (ha : PA X [ex] ta) (hs : starEach [ex] X.env = [(false, eval ex X.env)] := by rfl) :
    PI X (.Tuple ts nn tp) (.Call (.Name "enumerate" p) [ex] [] pos) (iES ta) := by
  refine ⟨fun pins s σ G R inv y => ?_⟩
  refine PyProof.Rows.Call_ (ld_blt inv gl mm PyProof.Rows.boot_enumerate (PyProof.Rows.callWith_type1 (thn (ha.run pos pins s σ G _ inv y) fun us s1 ⟨vs, G1, inv1, r1, q1⟩ => ?_) hs rfl))
  obtain ⟨z, rfl, q⟩ := q1
  cases r1 with
  | cons r rr =>
    cases rr
    obtain ⟨tk, rfl⟩ := r
    refine PySem.call_enumerate_str fun g' h1 h2 sz kp => PySem.wpAny_pyIter_enum h1 ?_
    refine ⟨s1.heap.objs.size + 1, [s1.heap.objs.size + 1, s1.heap.objs.size], _, _, G1, rfl, inv1.kept (t' := s1.toks) kp, turn_ES (s1.heap.objs.size + 1) s1.heap.objs.size z tk, ⟨⟨.none, h1⟩, h2, Nat.succ_ne_self _, Nat.zero_le _⟩, fun b hb => ?_, q⟩
    have ge : s1.heap.objs.size ≤ b := by
      rcases List.mem_cons.mp hb with rfl | hb
      · exact Nat.le_succ _
      · cases List.mem_singleton.mp hb
        exact Nat.le_refl _
    exact inv1.fpOk ge (inv1.hok.fresh ge)
theorem for_ES {z : Str} {g : TG} {tb : TS} {D : Ends} {σ : L2.St} {G : Hp} (Pv : Nat → L2.St → Hp → Prop) (h0 : Pv 0 σ G)
    (hs : ∀ j c σ G, z.cps[j]? = some c → Pv j σ G → ∀ q, G q = none → g (.ref q) σ (upd G q (.tup [.int (j : Nat), .str ⟨#[c]⟩])) fun σ2 G2 => tb { D with nx := Pv (j + 1), ct := Pv (j + 1), bk := D.nx } σ2 G2) (hd : ∀ σ G, Pv z.cps.size σ G → D.nx σ G) :
    ∃ Wd : Nat → Nat → L2.St → Hp → Prop, (∃ m, Wd 0 m σ G) ∧ ∀ j m σ G, Wd j m σ G →
      ((ItES z).stop j G ∧ D.nx σ G) ∨ ((ItES z).go j G ∧ ∃ Nn : L2.St → Hp → Prop, (∀ σ' G', Nn σ' G' → ∃ m', m' < m ∧ Wd (j + 1) m' σ' G') ∧ ∀ v G', (ItES z).yld j G v G' → g v σ G' fun σ2 G2 => tb { D with nx := Nn, ct := Nn, bk := D.nx } σ2 G2) := by
  refine ⟨fun j m σ G => m = z.cps.size - j ∧ j ≤ z.cps.size ∧ Pv j σ G, ⟨_, rfl, Nat.zero_le _, h0⟩, ?_⟩
  rintro j m σ G ⟨rfl, le, pv⟩
  rcases Nat.lt_or_ge j z.cps.size with lt | ge
  · refine .inr ⟨lt, Pv (j + 1), fun σ' G' y => ⟨z.cps.size - (j + 1), by omega, rfl, lt, y⟩, fun v G' y => ?_⟩
    obtain ⟨q, c, rfl, nq, rfl, hc⟩ := y
    exact hs j c σ G hc pv q nq
  · have ej : j = z.cps.size := Nat.le_antisymm le ge
    subst ej
    exact .inl ⟨Nat.le_refl _, hd σ G pv⟩
def top (i : Nat) : Stmt := PySem.Challenge.pw_uponboth_k01_term_text.main.body.getD i (.Pass ⟨0, 0, 0, 0⟩)
structure Blt (mg : Str → Option Value) : Prop where
  len : mg "len" = none
  list : mg "list" = none
  tuple : mg "tuple" = none
  dict : mg "dict" = none
  bool : mg "bool" = none
  isinstance : mg "isinstance" = none
  max : mg "max" = none
  min : mg "min" = none
  range : mg "range" = none
  all : mg "all" = none
  sorted : mg "sorted" = none
  enumerate : mg "enumerate" = none
  sum : mg "sum" = none
  str : mg "str" = none
  int : mg "int" = none
/-- the state of the draws: a list of ints, a place, a rest, a seed -/
def Rng (H : Hp) (r : Addr) : Prop := ∃ (c : Addr) (ns : List Int) (i b s : Int), H r = some (.lst [.ref c, .int i, .int b, .int s]) ∧ H c = some (.lst (ns.map V.int)) ∧ c ≠ r ∧ 0 ≤ i ∧ 0 ≤ b ∧ 0 ≤ s ∧ s < 2147483647
theorem Rng.lst {H : Hp} {r : Addr} (h : Rng H r) : ∃ ys, H r = some (.lst ys) := by
  obtain ⟨c, ns, i, b, s, h, _⟩ := h
  exact ⟨_, h⟩
theorem Rng.same {H H' : Hp} {r : Addr} (e : Same H H') (h : Rng H r) : Rng H' r := by
  obtain ⟨c, ns, i, b, s, h1, h2, h3⟩ := h
  exact ⟨c, ns, i, b, s, e _ _ h1, e _ _ h2, h3⟩
theorem cut63 {ns : List Int} : cutV (ns.map V.int) none (some 63) = (ns.take 63).map V.int := by
  unfold cutV
  rw [HT.sIx_none, show HT.sIx (ns.map V.int).length (ns.map V.int).length (some 63) = min 63 (ns.map V.int).length from HT.sIx_nat _ _ 63]
  rw [List.drop_zero, Nat.sub_zero, List.map_take]
  rcases Nat.le_total 63 (ns.map V.int).length with h | h
  · rw [Nat.min_eq_left h]
  · rw [Nat.min_eq_right h, List.take_of_length_le (Nat.le_refl _), List.take_of_length_le h]
def spDraws (K : PySem.W.Frag) : Sp := fun vs H Q _ => ∃ (a : Addr) (ns : List Int), vs = [.ref a] ∧ SqL K H a (ns.map V.int) ∧ ∀ (r : Addr) (H' : Hp), Same H H' → H r = none → Rng H' r → Q (.ref r) H'
def spDraw : Sp := fun vs H Q _ => ∃ (r : Addr) (n : Int), vs = [.ref r, .int n] ∧ Rng H r ∧ 0 < n ∧ n < 1073741824 ∧ ∀ (v : Int) (H' : Hp), 0 ≤ v → v < n → Rng H' r → But r H H' → Q (.int v) H'
theorem fn_none {P : Program} {w : World} {K : PySem.W.Frag} {mg : Str → Option Value} {base : Heap} {f : Addr} {fd : FuncData} {CX : CXT} {ps : List Str} {sp : Sp} {k : Nat} (no : ∀ vs H Q E, ¬ sp vs H Q E) : FnOk P w K mg base CX k f fd ps sp :=
  ⟨fun vs H Q E h => absurd h (no vs H Q E), fun A outer s H args us vs Q E _ _ _ _ h => absurd h (no vs H Q E)⟩
def spTerm (K : PySem.W.Frag) (n : Nat) : Sp := fun vs H Q _ => ∃ (r : Addr) (many : Int) (k : Nat), k < n ∧ vs = [.ref r, .int many, .int (2 ^ k)] ∧ k ≤ 6 ∧ 1 ≤ many ∧ many ≤ 2 ^ k ∧ Rng H r ∧
  ∀ (v : V) (t : Tree) (H' : Hp), TA K H' v t → (t.sz : Int) = many → t.dp ≤ k → Rng H' r → But r H H' → Q v H'
def spComb (K : PySem.W.Frag) : Sp := fun vs H Q _ => ∃ (m : Int) (b : Bool), vs = [.int m, .bl b] ∧ 1 ≤ m ∧ m ≤ 40 ∧
  ∀ (v : V) (t : Tree) (H' : Hp), TA K H' v t → (t.sz : Int) = m → (t.dp : Int) = m - 1 → Same H H' → Q v H'
def spAny (K : PySem.W.Frag) : Sp := fun vs H Q _ => ∃ (r : Addr) (top : Int), vs = [.ref r, .int top] ∧ 1 ≤ top ∧ top ≤ 64 ∧ Rng H r ∧
  ∀ (v : V) (t : Tree) (H' : Hp), TA K H' v t → (t.sz : Int) ≤ top → t.dp ≤ 6 → Rng H' r → But r H H' → Q v H'
/-- a def over one tree that gives g of it and makes nothing that stays -/
def spTree (K : PySem.W.Frag) (g : Tree → V) (n : Nat) : Sp := fun vs H Q _ => ∃ (v : V) (t : Tree), vs = [v] ∧ TA K H v t ∧ t.dp < n ∧ n ≤ 40 ∧ ∀ H', Same H H' → Q (g t) H'
theorem spTree_no {K : PySem.W.Frag} {g : Tree → V} : ∀ vs H Q E, ¬ spTree K g 0 vs H Q E := fun vs H Q E h => by
  obtain ⟨v, t, _, _, h, _⟩ := h
  omega
def spIsPair (K : PySem.W.Frag) : Sp := fun vs H Q _ => ∃ (v : V) (t : Tree), vs = [v] ∧ TA K H v t ∧ Q (.bl (!t.isL)) H
def spOkTerm (K : PySem.W.Frag) (g : V) : Sp := fun vs H Q _ => ∃ (v : V) (t : Tree), vs = [v] ∧ TA K H v t ∧ t.sz ≤ 12 ∧ t.dp ≤ 6 ∧ ∀ H', Same H H' → Q g H'
/-- an item of the pile: a term and how deep it stands -/
def Item (K : PySem.W.Frag) (H : Hp) (p : V × Tree × Nat) : Prop := ∃ (a : Addr) (u : V), p.1 = .ref a ∧ SqT K H a [u, .int p.2.2] ∧ TA K H u p.2.1 ∧ p.2.2 + p.2.1.dp ≤ 6
theorem Item.mono {K : PySem.W.Frag} {H H' : Hp} (e : Tp H H') {p : V × Tree × Nat} (h : Item K H p) : Item K H' p := by
  obtain ⟨a, u, h1, h2, h3, h4⟩ := h
  exact ⟨a, u, h1, e.sqT h2, ta_mono e h3, h4⟩
def szs (ps : List (V × Tree × Nat)) : Nat := (ps.map fun p => p.2.1.sz).sum
def nds (ps : List (V × Tree × Nat)) : Nat := (ps.map fun p => p.2.1.nodes).sum
theorem szs_snoc (ps : List (V × Tree × Nat)) (p) : szs (ps ++ [p]) = szs ps + p.2.1.sz := by
  unfold szs
  rw [List.map_append, List.sum_append]
  simp
theorem nds_snoc (ps : List (V × Tree × Nat)) (p) : nds (ps ++ [p]) = nds ps + p.2.1.nodes := by
  unfold nds
  rw [List.map_append, List.sum_append]
  simp
theorem szs_len : ∀ ps : List (V × Tree × Nat), ps.length ≤ szs ps
  | [] => Nat.zero_le _
  | p :: ps => by
    have h := szs_len ps
    have h2 := p.2.1.sz_pos
    show ps.length + 1 ≤ (p.2.1.sz :: ps.map fun p => p.2.1.sz).sum
    rw [List.sum_cons]
    unfold szs at h
    omega
structure Cst (mg : Str → Option Value) : Prop where
  MAX_SIZE : ∃ t, mg "MAX_SIZE" = some (.int 12 t)
  MAX_DEPTH : ∃ t, mg "MAX_DEPTH" = some (.int 6 t)
def spOkTree (K : PySem.W.Frag) (g : Tree → V) : Sp := fun vs H Q _ => ∃ (v : V) (t : Tree), vs = [v] ∧ TA K H v t ∧ t.sz ≤ 12 ∧ t.dp ≤ 6 ∧ ∀ H', Same H H' → Q (g t) H'
def Tree.spine : Tree → List Tree
  | .L => [.L]
  | .N l r => .N l r :: l.spine
def spSpine (K : PySem.W.Frag) : Sp := fun vs H Q _ => ∃ (v : V) (t : Tree), vs = [v] ∧ TA K H v t ∧ t.sz ≤ 12 ∧ t.dp ≤ 6 ∧ ∀ (p : Addr) (vs : List V) (H' : Hp), Same H H' → H p = none → H' p = some (.lst vs) → DpAll K H' vs (t.spine.map Tree.d) → Q (.ref p) H'
theorem dpAll_snoc {K : PySem.W.Frag} {H : Hp} : ∀ {vs : List V} {ds : List PyData} {v : V} {d : PyData}, DpAll K H vs ds → Dp K H v d → DpAll K H (vs ++ [v]) (ds ++ [d])
  | _, _, _, _, .nil, h => .cons h .nil
  | _, _, _, _, .cons h1 h2, h => .cons h1 (dpAll_snoc h2 h)
theorem dpAll_len {K : PySem.W.Frag} {H : Hp} : ∀ {vs : List V} {ds : List PyData}, DpAll K H vs ds → vs.length = ds.length
  | _, _, .nil => rfl
  | _, _, .cons _ h2 => congrArg (· + 1) (dpAll_len h2)
theorem dpAll_at {K : PySem.W.Frag} {H : Hp} : ∀ {vs : List V} {ds : List PyData}, DpAll K H vs ds → ∀ (i : Nat) (d : PyData), ds[i]? = some d → ∃ v, vs[i]? = some v ∧ Dp K H v d
  | _, _, .nil, i, d, e => by simp at e
  | _, _, .cons h1 h2, 0, d, e => ⟨_, rfl, by cases e; exact h1⟩
  | _, _, .cons h1 h2, i + 1, d, e => dpAll_at h2 i d e
theorem dpAll_tp {K : PySem.W.Frag} {H H' : Hp} (e : Tp H H') : ∀ {ts : List Tree} {vs : List V}, DpAll K H vs (ts.map Tree.d) → DpAll K H' vs (ts.map Tree.d)
  | [], _, h => by
    cases h
    exact .nil
  | t :: ts, _, h => by
    cases h with
    | cons h1 h2 => exact .cons (ta_mono e h1) (dpAll_tp e h2)
theorem Tree.spine_len : ∀ t : Tree, t.spine.length ≤ t.dp + 1
  | .L => Nat.le_refl _
  | .N l r => by
    have h := spine_len l
    show l.spine.length + 1 ≤ max l.dp r.dp + 1 + 1
    omega
theorem Tree.spine_mem : ∀ {t u : Tree}, u ∈ t.spine → u.dp ≤ t.dp
  | .L, u, h => by
    cases List.mem_singleton.mp h
    exact Nat.le_refl _
  | .N l r, u, h => by
    rcases List.mem_cons.mp h with e | h
    · rw [e]
      exact Nat.le_refl _
    · have h2 := spine_mem h
      show u.dp ≤ max l.dp r.dp + 1
      omega
theorem Tree.spine_self : ∀ t : Tree, t ∈ t.spine
  | .L => List.mem_singleton.mpr rfl
  | .N _ _ => List.mem_cons_self
/-- the walk down the left: at p stands the list of what was met, its last one is still to be looked at -/
def Spn (K : PySem.W.Frag) (H H' : Hp) (p : Addr) (t : Tree) (m : Nat) : Prop := ∃ (vs : List V) (u : V) (ts : List Tree) (t' : Tree), Same H H' ∧ H' p = some (.lst (vs ++ [u])) ∧ DpAll K H' vs (ts.map Tree.d) ∧ TA K H' u t' ∧ ts ++ t'.spine = t.spine ∧ m = t'.nodes
theorem Spn.dp {t t' : Tree} {ts : List Tree} (et : ts ++ t'.spine = t.spine) (hd : t.dp ≤ 6) : t'.dp ≤ 63 := by
  have h : t' ∈ t.spine := by
    rw [← et]
    exact List.mem_append_right _ t'.spine_self
  have := Tree.spine_mem h
  omega
theorem Spn.lt {K : PySem.W.Frag} {H' : Hp} {vs : List V} {u : V} {t t' : Tree} {ts : List Tree} (hA : DpAll K H' vs (ts.map Tree.d)) (et : ts ++ t'.spine = t.spine) (hd : t.dp ≤ 6) : (vs ++ [u]).length < sizeLine := by
  have h1 := dpAll_len hA
  have h2 := congrArg List.length et
  have h3 := t.spine_len
  rw [List.length_map] at h1
  rw [List.length_append] at h2
  rw [List.length_append, List.length_singleton]
  exact small1000 (by omega)
theorem Spn.next {K : PySem.W.Frag} {H H' : Hp} {p p5 b : Addr} {vs : List V} {x1 x2 : V} {t l r : Tree} {ts : List Tree} (hp0 : H p = none) (sm : Same H H') (s5 : Same H' (upd H' p5 (.tup []))) (hl : H' p = some (.lst (vs ++ [.ref b]))) (hA : DpAll K H' vs (ts.map Tree.d)) (hS : SqT K H' b [x1, x2]) (hL : TA K H' x1 l) (hR : TA K H' x2 r)
    (et : ts ++ (Tree.N l r).spine = t.spine) : Spn K H (upd (upd H' p5 (.tup [])) p (.lst ((vs ++ [.ref b]) ++ [x1]))) p t l.nodes := by
  have tp : Tp H' (upd (upd H' p5 (.tup [])) p (.lst ((vs ++ [.ref b]) ++ [x1]))) := (Tp.same s5).trans (Tp.but (s5 _ _ hl) But.set)
  refine ⟨vs ++ [.ref b], x1, ts ++ [.N l r], l, fun c o e => ?_, upd_same, ?_, ta_mono tp hL, ?_, rfl⟩
  · rw [upd_ne (ne_of_none e hp0)]
    exact s5 _ _ (sm _ _ e)
  · rw [List.map_append]
    exact dpAll_snoc (dpAll_tp tp hA) (ta_node (tp.sqT hS) (ta_mono tp hL) (ta_mono tp hR))
  · rw [List.append_assoc]
    exact et
/-! ### data and their built-in types -/
def tn : PyData → String
  | .none => "NoneType"
  | .bool _ => "bool"
  | .int _ => "int"
  | .str _ => "str"
  | .list _ => "list"
  | .tuple _ => "tuple"
  | .dict _ => "dict"
def isT : PyData → Bool
  | .tuple _ => true
  | _ => false
def isLs : PyData → Bool
  | .list _ => true
  | _ => false
def isB : PyData → Bool
  | .bool _ => true
  | _ => false
theorem dp_ty {K : PySem.W.Frag} {H : Hp} {x : V} {d : PyData} (h : Dp K H x d) : TyX K H x (.type (tn d)) := by
  cases h with
  | non => exact .base .non
  | bl b => exact .base (.bl b)
  | int i => exact .base (.int i)
  | str z => exact .base (.str z)
  | lst hs _ => exact tyx_lst hs
  | tup hs _ => exact tyx_tup hs
theorem kit_dict {K : PySem.W.Frag} {H : Hp} {x : V} {d : PyData} (h : Dp K H x d) : PySem.W.kitOne K (.type (tn d)) (.type "dict") = some false := by
  cases h with
  | non => exact kit_ty (show kitB "NoneType" "dict" = some false by decide +kernel)
  | bl _ => exact kit_ty (show kitB "bool" "dict" = some false by decide +kernel)
  | int _ => exact kit_ty (show kitB "int" "dict" = some false by decide +kernel)
  | str _ => exact kit_ty (show kitB "str" "dict" = some false by decide +kernel)
  | lst _ _ => exact kit_ty (show kitB "list" "dict" = some false by decide +kernel)
  | tup _ _ => exact kit_ty (show kitB "tuple" "dict" = some false by decide +kernel)
theorem kit_tuple {K : PySem.W.Frag} {H : Hp} {x : V} {d : PyData} (h : Dp K H x d) : PySem.W.kitOne K (.type (tn d)) (.type "tuple") = some (isT d) := by
  cases h with
  | non => exact kit_ty (show kitB "NoneType" "tuple" = some false by decide +kernel)
  | bl _ => exact kit_ty (show kitB "bool" "tuple" = some false by decide +kernel)
  | int _ => exact kit_ty (show kitB "int" "tuple" = some false by decide +kernel)
  | str _ => exact kit_ty (show kitB "str" "tuple" = some false by decide +kernel)
  | lst _ _ => exact kit_ty (show kitB "list" "tuple" = some false by decide +kernel)
  | tup _ _ => exact kit_ty (show kitB "tuple" "tuple" = some true by decide +kernel)
theorem kit_list {K : PySem.W.Frag} {H : Hp} {x : V} {d : PyData} (h : Dp K H x d) : PySem.W.kitOne K (.type (tn d)) (.type "list") = some (isLs d) := by
  cases h with
  | non => exact kit_ty (show kitB "NoneType" "list" = some false by decide +kernel)
  | bl _ => exact kit_ty (show kitB "bool" "list" = some false by decide +kernel)
  | int _ => exact kit_ty (show kitB "int" "list" = some false by decide +kernel)
  | str _ => exact kit_ty (show kitB "str" "list" = some false by decide +kernel)
  | lst _ _ => exact kit_ty (show kitB "list" "list" = some true by decide +kernel)
  | tup _ _ => exact kit_ty (show kitB "tuple" "list" = some false by decide +kernel)
theorem kit_bool {K : PySem.W.Frag} {H : Hp} {x : V} {d : PyData} (h : Dp K H x d) : PySem.W.kitOne K (.type (tn d)) (.type "bool") = some (isB d) := by
  cases h with
  | non => exact kit_ty (show kitB "NoneType" "bool" = some false by decide +kernel)
  | bl _ => exact kit_ty (show kitB "bool" "bool" = some true by decide +kernel)
  | int _ => exact kit_ty (show kitB "int" "bool" = some false by decide +kernel)
  | str _ => exact kit_ty (show kitB "str" "bool" = some false by decide +kernel)
  | lst _ _ => exact kit_ty (show kitB "list" "bool" = some false by decide +kernel)
  | tup _ _ => exact kit_ty (show kitB "tuple" "bool" = some false by decide +kernel)
theorem kit_seq {K : PySem.W.Frag} {H : Hp} {x : V} {d : PyData} (h : Dp K H x d) : PySem.W.kitAny K (.type (tn d)) [.type "tuple", .type "list"] = some (isT d || isLs d) := by
  refine kitAny_cons (kit_tuple h) (fun e => kitAny_cons (kit_list h) (fun e2 => ?_) (fun e2 => ?_)) (fun e => ?_)
  · rw [e, e2]
    exact kitAny_nil
  · rw [e, e2]
    rfl
  · rw [e]
    rfl
mutual
/-- no list or tuple in it is longer than 1000 -/
def wide : PyData → Bool
  | .list xs | .tuple xs => decide (xs.length ≤ 1000) && wideAll xs
  | .none | .bool _ | .int _ | .str _ | .dict _ => true
def wideAll : List PyData → Bool
  | [] => true
  | x :: xs => wide x && wideAll xs
end
/-- two data that are the same are told to be the same -/
def spSame (K : PySem.W.Frag) (n : Nat) : Sp := fun vs H Q _ => ∃ (x y : V) (d : PyData), vs = [x, y] ∧ Dp K H x d ∧ Dp K H y d ∧ SeqAt.shaped d = true ∧ d.depth < n ∧ wide d = true ∧ ∀ H', Same H H' → Q (.bl true) H'
theorem shaped_at {ds : List PyData} {d : PyData} (hc : PyData.canLayAll0 ds = true) (hm : d ∈ ds) : d.canLay0 = true := by
  induction ds with
  | nil => cases hm
  | cons a r ih =>
    have h' : a.canLay0 = true ∧ PyData.canLayAll0 r = true := by simpa [PyData.canLayAll0] using hc
    rcases List.mem_cons.mp hm with e | hm
    · rw [e]
      exact h'.1
    · exact ih h'.2 hm
theorem depth_at {ds : List PyData} {d : PyData} (hm : d ∈ ds) : d.depth ≤ PyData.depthAll ds := by
  induction ds with
  | nil => cases hm
  | cons a r ih =>
    show d.depth ≤ max a.depth (PyData.depthAll r)
    rcases List.mem_cons.mp hm with e | hm
    · rw [e]
      omega
    · have := ih hm
      omega
theorem wide_at {ds : List PyData} {d : PyData} (hc : wideAll ds = true) (hm : d ∈ ds) : wide d = true := by
  induction ds with
  | nil => cases hm
  | cons a r ih =>
    have h' : wide a = true ∧ wideAll r = true := by simpa [wideAll] using hc
    rcases List.mem_cons.mp hm with e | hm
    · rw [e]
      exact h'.1
    · exact ih h'.2 hm
theorem all_rep : ∀ n : Nat, (List.replicate n true).all id = true
  | 0 => rfl
  | n + 1 => all_rep n
def spLaw (K : PySem.W.Frag) : Sp := fun vs H Q _ => ∃ (a : Addr) (ns : List Int), vs = [.ref a] ∧ SqL K H a (ns.map V.int) ∧ ∀ H', Q (.bl true) H'
/-! ### texts of trees -/
namespace Tree
def cs : Tree → List Nat
  | L => [120]
  | N l r => 40 :: (l.cs ++ (r.cs ++ [41]))
def txt (t : Tree) : Str := ⟨t.cs.toArray⟩
theorem cs_len : ∀ t : Tree, t.cs.length + 2 = 3 * t.sz
  | L => rfl
  | N l r => by
    have h1 := cs_len l
    have h2 := cs_len r
    show (40 :: (l.cs ++ (r.cs ++ [41]))).length + 2 = 3 * (l.sz + r.sz)
    rw [List.length_cons, List.length_append, List.length_append, List.length_singleton]
    omega
theorem txt_len (t : Tree) : t.txt.length = t.cs.length := by
  show t.cs.toArray.size = _
  simp
theorem txtN (l r : Tree) : (((Str.ofString "(" ++ l.txt) ++ r.txt) ++ Str.ofString ")") = (N l r).txt := by
  show (⟨((#[40] ++ l.cs.toArray) ++ r.cs.toArray) ++ #[41]⟩ : Str) = ⟨(40 :: (l.cs ++ (r.cs ++ [41]))).toArray⟩
  congr 1
  apply Array.toList_inj.mp
  simp
theorem txtL : Str.ofString "x" = L.txt := rfl
end Tree
def spText (K : PySem.W.Frag) (n : Nat) : Sp := fun vs H Q _ => ∃ (v : V) (t : Tree), vs = [v] ∧ TA K H v t ∧ t.dp < n ∧ n ≤ 40 ∧ t.sz ≤ 1000 ∧ ∀ H', Same H H' → Q (.str t.txt) H'
theorem spText_no {K : PySem.W.Frag} : ∀ vs H Q E, ¬ spText K 0 vs H Q E := fun vs H Q E h => by
  obtain ⟨v, t, _, _, h, _⟩ := h
  omega
theorem fits {n : Nat} (h : n ≤ 10000) : n ≤ sizeLine := Nat.le_trans h (by decide)
/-- the reader's pile: the lists of operands that are open, the innermost first -/
def room (ts : List Tree) (rest : List (List Tree)) : Nat := if rest.length = 0 then 1 else 2
def stp : List (List Tree) → Nat → Option (List (List Tree))
  | [], _ => none
  | ts :: rest, c => if c = 120 then (if ts.length < room ts rest then some ((ts ++ [.L]) :: rest) else none)
    else if c = 40 then (if ts.length < room ts rest then some ([] :: ts :: rest) else none)
    else if c = 41 then (match ts, rest with
      | [a, b], us :: more => some ((us ++ [.N a b]) :: more)
      | _, _ => none)
    else none
theorem stp_x (ts : List Tree) (rest : List (List Tree)) : stp (ts :: rest) 120 = if ts.length < room ts rest then some ((ts ++ [.L]) :: rest) else none := rfl
theorem stp_o (ts : List Tree) (rest : List (List Tree)) : stp (ts :: rest) 40 = if ts.length < room ts rest then some ([] :: ts :: rest) else none := rfl
theorem stp_c (ts : List Tree) (rest : List (List Tree)) : stp (ts :: rest) 41 = (match ts, rest with
      | [a, b], us :: more => some ((us ++ [.N a b]) :: more)
      | _, _ => none) := rfl
theorem stp_else (ts : List Tree) (rest : List (List Tree)) {c : Nat} (h1 : c ≠ 120) (h2 : c ≠ 40) (h3 : c ≠ 41) : stp (ts :: rest) c = none := by
  show (if c = 120 then _ else if c = 40 then _ else if c = 41 then _ else none) = none
  rw [if_neg h1, if_neg h2, if_neg h3]
def rn : List (List Tree) → List Nat → Option (List (List Tree))
  | st, [] => some st
  | st, c :: cs => (stp st c).bind fun st' => rn st' cs
theorem rn_tree : ∀ (t : Tree) (ts : List Tree) (rest : List (List Tree)) (more : List Nat), ts.length < room ts rest → rn (ts :: rest) (t.cs ++ more) = rn ((ts ++ [t]) :: rest) more
  | .L, ts, rest, more, h => by
    show (stp (ts :: rest) 120).bind (fun st' => rn st' more) = _
    rw [stp_x, if_pos h]
    rfl
  | .N l r, ts, rest, more, h => by
    have e : (Tree.N l r).cs ++ more = 40 :: (l.cs ++ (r.cs ++ (41 :: more))) := by
      show (40 :: (l.cs ++ (r.cs ++ [41]))) ++ more = _
      simp
    rw [e]
    show (stp (ts :: rest) 40).bind (fun st' => rn st' (l.cs ++ (r.cs ++ (41 :: more)))) = _
    have e1 : stp (ts :: rest) 40 = some ([] :: ts :: rest) := by
      rw [stp_o, if_pos h]
    rw [e1]
    show rn ([] :: ts :: rest) (l.cs ++ (r.cs ++ (41 :: more))) = _
    rw [rn_tree l [] (ts :: rest) _ (by show 0 < if (ts :: rest).length = 0 then 1 else 2; rw [if_neg (by simp)]; decide)]
    rw [rn_tree r _ (ts :: rest) _ (by show 1 < if (ts :: rest).length = 0 then 1 else 2; rw [if_neg (by simp)]; decide)]
    rfl
theorem rn_all (t : Tree) : rn [[]] t.cs = some [[t]] := by
  have h := rn_tree t [] [] [] (by decide)
  rw [List.append_nil] at h
  rw [h]
  rfl
theorem tlen {t : Tree} (h : t.sz ≤ 1000) : t.txt.length ≤ 3000 := by
  have h1 := t.cs_len
  have h2 := t.txt_len
  omega
theorem slen (a b : Str) : (a ++ b).length = a.length + b.length := by
  show (a.cps ++ b.cps).size = a.cps.size + b.cps.size
  simp
def spOkText (K : PySem.W.Frag) : Sp := fun vs H Q _ => ∃ (v : V) (t : Tree), vs = [v] ∧ TA K H v t ∧ t.sz ≤ 12 ∧ t.dp ≤ 6 ∧ ∀ H', Same H H' → Q (.str t.txt) H'
def spRoom : Sp := fun vs H Q _ => ∃ (p a : Addr) (as : List Addr) (ws : List V), vs = [.ref p] ∧ H p = some (.lst ((as ++ [a]).map V.ref)) ∧ H a = some (.lst ws) ∧ as.length ≤ 10000 ∧ ws.length ≤ 10000 ∧ Q (.bl (decide ((ws.length : Int) < if as.length = 0 then 1 else 2))) H
/-- reading the text of a tree gives the tree -/
def spRead (K : PySem.W.Frag) : Sp := fun vs H Q _ => ∃ t : Tree, vs = [.str t.txt] ∧ t.sz ≤ 1000 ∧ ∀ (v : V) (H' : Hp), TA K H' v t → Same H H' → Q v H'
def spParse (K : PySem.W.Frag) : Sp := fun vs H Q _ => ∃ t : Tree, vs = [.str t.txt] ∧ t.sz ≤ 12 ∧ t.dp ≤ 6 ∧ ∀ (v : V) (H' : Hp), TA K H' v t → Same H H' → Q v H'
inductive Pile (K : PySem.W.Frag) (G : Hp) : List Addr → List (List Tree) → Prop
  | nil : Pile K G [] []
  | cons {a : Addr} {vs : List V} {ts : List Tree} {as : List Addr} {st : List (List Tree)} : G a = some (.lst vs) → DpAll K G vs (ts.map Tree.d) → Pile K G as st → Pile K G (a :: as) (ts :: st)
theorem Pile.mono {K : PySem.W.Frag} {G G' : Hp} (tp : Tp G G') : ∀ {as : List Addr} {st : List (List Tree)}, (∀ a ∈ as, ∀ o, G a = some o → G' a = some o) → Pile K G as st → Pile K G' as st
  | _, _, _, .nil => .nil
  | _, _, k, .cons h1 h2 h3 => .cons (k _ List.mem_cons_self _ h1) (dpAll_tp tp h2) (Pile.mono tp (fun a ha => k a (List.mem_cons_of_mem _ ha)) h3)
/-- the pile at p, all of it new since H -/
def PileAt (K : PySem.W.Frag) (H G : Hp) (p : Addr) (st : List (List Tree)) : Prop := ∃ as : List Addr, G p = some (.lst (as.reverse.map V.ref)) ∧ as.Nodup ∧ p ∉ as ∧ H p = none ∧ (∀ a ∈ as, H a = none) ∧ Pile K G as st
theorem cs_small : ∀ (t : Tree) (c : Nat), c ∈ t.cs → c < 128
  | .L, c, h => by
    rw [List.mem_singleton.mp h]
    decide
  | .N l r, c, h => by
    have h : c ∈ 40 :: (l.cs ++ (r.cs ++ [41])) := h
    rcases List.mem_cons.mp h with e | h
    · rw [e]
      decide
    rcases List.mem_append.mp h with h | h
    · exact cs_small l c h
    rcases List.mem_append.mp h with h | h
    · exact cs_small r c h
    · rw [List.mem_singleton.mp h]
      decide
theorem txt_ok (t : Tree) : PyData.strOk t.txt = true := by
  show t.cs.toArray.all (· < 0x110000) = true
  rw [Array.all_eq_true']
  intro c hc
  have h := cs_small t c (by simpa using hc)
  exact decide_eq_true (by omega)
section
variable {P : Program} {w : World} {K : PySem.W.Frag} {mg : Str → Option Value} {base : Heap} {f : Addr} {fd : FuncData}

abbrev s__law_draws : Stmt := top 16
theorem sc__law_draws : FnScope ["_law_script", "_law_salt", "_law_cell"] ["_law_script"] (defScope s__law_draws) := ⟨rfl, rfl, rfl, by decide +kernel, rfl, by decide +kernel, by decide +kernel⟩
theorem ok__law_draws (d : D K mg "_law_draws" s__law_draws ["_law_script"] f fd) (B : Blt mg) : FnOk P w K mg base CX0 1 f fd ["_law_script"] (spDraws K) := by
  refine d.F.ok sc__law_draws (fun vs H Q E h => ?_) (fun cdv A outer s H vs Q E hr h => ?_)
  · obtain ⟨a, ns, rfl, _⟩ := h
    rfl
  obtain ⟨a, ns, rfl, hS, q⟩ := h
  refine ⟨_, (pss_cons (ps_set (i := 1) sc__law_draws.nd rfl (Or.inl rfl) pe_int)
 (pss_cons (ps_for PassesOwn.never rfl (pi_list (pe_slice sl_list (pv 0) po_none (po_some pe_int))) (pg_name (i := 2) sc__law_draws.nd rfl (Or.inl rfl))
  (pss_one (ps_set (i := 1) sc__law_draws.nd rfl (Or.inl rfl) (pe_op op_mod (pe_op op_add (pe_op op_add (pe_op op_mul (pv 1) pe_int) (pe_op op_mod (pv 2) pe_int)) pe_int) pe_int))))
 (pss_one (ps_ret (pe_lst (pa_cons (pe_callTy call_list_of (by rfl) B.list (by decide +kernel) (pa_cons (pe_slice sl_list (pv 0) po_none (po_some pe_int)) pa_nil)) (pa_cons pe_int (pa_cons pe_int (pa_cons (pv 1) pa_nil))))))))), ?_⟩
  refine ⟨_, rfl, 63, rfl, a, _, rfl, hS, fun p hp => ?_⟩
  rw [cut63]
  have s1 : Same H (upd H p (.lst ((ns.take 63).map V.int))) := Same.new hp _
  refine ⟨p, rfl, ⟨_, SqL.here upd_same⟩, for_list (K := K) (a := p) (xs := (ns.take 63).map V.int) (fun i σ H' => ∃ (s : Int) (v : Option V), σ = [some (.ref a), some (.int s), v] ∧ 0 ≤ s ∧ s < 2147483647 ∧ H' = upd H p (.lst ((ns.take 63).map V.int)))
    ⟨9471, none, rfl, by decide, by decide, rfl⟩ (fun i σ H' _ ⟨_, _, _, _, _, e⟩ => by rw [e]; exact SqL.here upd_same) ?_ ?_⟩
  · rintro i x σ H' hi ⟨s, v, rfl, h0, h1, rfl⟩
    obtain ⟨u, rfl⟩ : ∃ u, x = V.int u := by
      rw [List.getElem?_map] at hi
      cases e : (ns.take 63)[i]? with
      | none =>
        rw [e] at hi
        cases hi
      | some u =>
        rw [e] at hi
        exact ⟨u, (Option.some.inj hi).symm⟩
    refine ⟨_, rfl, _, _, rfl, rfl, .inl ⟨by omega, by omega⟩, _, rfl, _, _, rfl, rfl, (by show (0 : Int) < 2147483587; decide), _, _, rfl, rfl, _, _, rfl, rfl, _, _, rfl, rfl, (by show (0 : Int) < 2147483647; decide), ?_⟩
    exact ⟨_, _, rfl, Int.emod_nonneg _ (by decide), Int.emod_lt_of_pos _ (by decide), rfl⟩
  · rintro σ H' ⟨s, v, rfl, h0, h1, rfl⟩
    refine ⟨_, rfl, 63, rfl, a, _, rfl, s1.seq hS, fun p2 hp2 => ?_⟩
    rw [cut63]
    have s2 := s1.trans (Same.new hp2 (.lst ((ns.take 63).map V.int)))
    refine ⟨p2, _, rfl, .inl (SqL.here upd_same), fun c hc => ?_⟩
    have s3 := s2.trans (Same.new hc (.lst ((ns.take 63).map V.int)))
    refine ⟨_, rfl, four_le, fun r hr' => ?_⟩
    have nrc : c ≠ r := fun e => by
      rw [← e, upd_same] at hr'
      cases hr'
    refine q r _ (s3.trans (Same.new hr' _)) (s3.free hr') ⟨c, ns.take 63, 0, 0, s, upd_same, ?_, nrc, by decide, by decide, h0, h1⟩
    rw [upd_ne nrc, upd_same]

abbrev s__law_draw : Stmt := top 17
theorem sc__law_draw : FnScope ["_law_rng", "_law_amount", "_law_cell", "_law_got", "_law_seed"] ["_law_rng", "_law_amount"] (defScope s__law_draw) := ⟨rfl, rfl, rfl, by decide +kernel, rfl, by decide +kernel, by decide +kernel⟩
theorem ok__law_draw (d : D K mg "_law_draw" s__law_draw ["_law_rng", "_law_amount"] f fd) (B : Blt mg) : FnOk P w K mg base CX0 1 f fd ["_law_rng", "_law_amount"] spDraw := by
  refine d.F.ok sc__law_draw (fun vs H Q E h => ?_) (fun cdv A outer s H vs Q E hr h => ?_)
  · obtain ⟨a, ns, rfl, _⟩ := h
    rfl
  obtain ⟨r, n, rfl, ⟨c, ns, i, b, s, hR, hC, ncr, hi, hb, h0, h1⟩, hn, hn2, q⟩ := h
  refine ⟨_, (C8.pss_cut (ps_if (PW.pt (pw_and (pt_cmpR op_eq (pe_ix ix_list (pv 0) pe_int (fun _ _ => rfl)) pe_int (nomark _)) (pw_and1 (pt_cmpR op_lt (pe_ix ix_list (pv 0) pe_int (fun _ _ => rfl)) (pe_callB call_len_seq (by rfl) B.len PySem.boot_len (pa_cons (pe_ix ix_list (pv 0) pe_int (fun _ _ => rfl)) pa_nil)) (nomark _))))) (pss_cons (ps_set (i := 2) sc__law_draw.nd rfl (Or.inl rfl) (pe_ix ix_list (pe_ix ix_list (pv 0) pe_int (fun _ _ => rfl)) (pe_ix ix_list (pv 0) pe_int (fun _ _ => rfl)) (fun _ _ => rfl)))
 (pss_cons (ps_asg (pe_op op_add (pe_ix ix_list (pv 0) pe_int (fun _ _ => rfl)) pe_int) (pg_sub (pv 0) pe_int set_list))
 (pss_one (ps_if (pt_cmpR op_ge (pv 2) (pe_op op_pow pe_int pe_int) (nomark _)) (pss_one (ps_asg (pv 2) (pg_sub (pv 0) pe_int set_list))) (pss_one (ps_asg (pe_op op_mod (pe_op op_add (pe_op op_add (pe_op op_mul (pe_ix ix_list (pv 0) pe_int (fun _ _ => rfl)) pe_int) (pe_op op_mul (pe_op op_mod (pv 2) pe_int) pe_int)) pe_int) pe_int) (pg_sub (pv 0) pe_int set_list))))))) pss_nil)
 (pss_cons (ps_if (pt_cmpR op_gt (pe_ix ix_list (pv 0) pe_int (fun _ _ => rfl)) pe_int (nomark _)) (pss_cons (ps_set (i := 3) sc__law_draw.nd rfl (Or.inl rfl) (pe_op op_mod (pe_ix ix_list (pv 0) pe_int (fun _ _ => rfl)) (pv 1)))
 (pss_cons (ps_asg (pe_op op_fdiv (pe_ix ix_list (pv 0) pe_int (fun _ _ => rfl)) (pv 1)) (pg_sub (pv 0) pe_int set_list))
 (pss_one (ps_ret (pv 3))))) pss_nil)
 (pss_cons (ps_set (i := 4) sc__law_draw.nd rfl (Or.inl rfl) (pe_ix ix_list (pv 0) pe_int (fun _ _ => rfl)))
 (pss_cons (ps_asg (pe_op op_mod (pe_op op_add (pe_op op_add (pe_op op_mul (pv 4) pe_int) (pe_op op_mul (pe_op op_fdiv (pv 4) pe_int) pe_int)) pe_int) pe_int) (pg_sub (pv 0) pe_int set_list))
 (pss_one (ps_ret (pe_op op_mod (pe_op op_add (pe_op op_fdiv (pe_ix ix_list (pv 0) pe_int (fun _ _ => rfl)) pe_int) (pe_op op_mul (pe_op op_mod (pe_ix ix_list (pv 0) pe_int (fun _ _ => rfl)) pe_int) pe_int)) (pv 1)))))))), ?_⟩
  refine ⟨fun σ H1 => ∃ (i b s : Int) (cell : Option V), σ = [some (.ref r), some (.int n), cell, none, none] ∧ But r H H1 ∧ H1 r = some (.lst [.ref c, .int i, .int b, .int s]) ∧ H1 c = some (.lst (ns.map V.int)) ∧ 0 ≤ i ∧ 0 ≤ b ∧ 0 ≤ s ∧ s < 2147483647, ?_, ?_⟩
  · refine ⟨_, rfl, r, _, 2, _, rfl, rfl, SqL.here hR, rfl, rfl, _, rfl, ?_⟩
    refine ite2 (fun c1 => ?_) (fun c1 => ?_)
    · refine ⟨_, rfl, r, _, 1, _, rfl, rfl, SqL.here hR, rfl, _, rfl, r, _, 0, _, rfl, rfl, SqL.here hR, rfl, c, _, rfl, .inl (SqL.here hC), _, _, rfl, rfl, _, rfl, ?_⟩
      refine ite2 (fun c2 => ?_) (fun c2 => ?_)
      · have c3 : i < (((ns.map V.int).length : Nat) : Int) := of_decide_eq_true c2
        rw [List.length_map] at c3
        have hk : i.toNat < ns.length := by omega
        have ek : i = ((i.toNat : Nat) : Int) := by omega
        obtain ⟨u, q1⟩ : ∃ u, atI (ns.map V.int) i = some (.int u) := by
          refine ⟨ns[i.toNat], ?_⟩
          have q0 : atI (ns.map V.int) ((i.toNat : Nat) : Int) = some (.int ns[i.toNat]) := atI_nat (by rw [List.getElem?_map, List.getElem?_eq_getElem hk] <;> rfl)
          rw [← ek] at q0
          exact q0
        refine ⟨_, rfl, r, _, 0, _, rfl, rfl, SqL.here hR, rfl, _, rfl, r, _, 1, _, rfl, rfl, SqL.here hR, rfl, c, _, i, _, rfl, rfl, SqL.here hC, q1, ?_⟩
        -- rng[1] = rng[1] + 1
        refine ⟨_, rfl, r, _, 1, _, rfl, rfl, SqL.here hR, rfl, _, _, rfl, rfl, _, rfl, r, _, 1, 1, rfl, rfl, hR, rfl, ?_⟩
        have hC2 : (upd H r (.lst [.ref c, .int (i + 1), .int b, .int s])) c = some (.lst (ns.map V.int)) := by rw [upd_ne ncr]; exact hC
        refine ⟨_, rfl, _, _, rfl, rfl, ⟨by decide, by decide, by decide⟩, _, _, rfl, rfl, _, rfl, ?_⟩
        refine ite2 (fun c4 => ?_) (fun c4 => ?_)
        · have c5 : (10 : Int) ^ (18 : Int).toNat ≤ u := of_decide_eq_true c4
          have c6 : (0 : Int) ≤ (10 : Int) ^ (18 : Int).toNat := by decide
          refine ⟨_, rfl, _, rfl, r, _, 2, 2, rfl, rfl, upd_same, rfl, ?_⟩
          refine ⟨i + 1, u, s, _, rfl, But.set.trans But.set, upd_same, ?_, by omega, by omega, h0, h1⟩
          rw [upd_ne ncr]
          exact hC2
        · refine ⟨_, rfl, r, _, 3, _, rfl, rfl, SqL.here upd_same, rfl, _, _, rfl, rfl, .inl ⟨by omega, by omega⟩, _, rfl, _, _, rfl, rfl, (by show (0 : Int) < 2147483587; decide), _, _, rfl, rfl, .inl ⟨?_, ?_⟩, _, _, rfl, rfl, _, _, rfl, rfl, _, _, rfl, rfl, (by show (0 : Int) < 2147483647; decide), _, rfl, r, _, 3, 3, rfl, rfl, upd_same, rfl, ?_⟩
          · have := Int.emod_nonneg u (show (2147483587 : Int) ≠ 0 by decide)
            omega
          · have := Int.emod_lt_of_pos u (show (0 : Int) < 2147483587 by decide)
            omega
          · refine ⟨i + 1, b, _, _, rfl, But.set.trans But.set, upd_same, ?_, by omega, hb, Int.emod_nonneg _ (by decide), Int.emod_lt_of_pos _ (by decide)⟩
            rw [upd_ne ncr]
            exact hC2
      · exact ⟨i, b, s, none, rfl, fun _ _ _ h => h, hR, hC, hi, hb, h0, h1⟩
    · exact iteF ⟨i, b, s, none, rfl, fun _ _ _ h => h, hR, hC, hi, hb, h0, h1⟩
  · rintro σ H1 ⟨i, b, s, cell, rfl, e1, hR, hC, hi, hb, h0, h1⟩
    refine ⟨_, rfl, r, _, 2, _, rfl, rfl, SqL.here hR, rfl, _, _, rfl, rfl, _, rfl, ?_⟩
    refine ite2 (fun c1 => ?_) (fun c1 => ?_)
    · refine ⟨_, rfl, r, _, 2, _, rfl, rfl, SqL.here hR, rfl, _, rfl, _, _, rfl, rfl, hn, ?_⟩
      refine ⟨_, rfl, r, _, 2, _, rfl, rfl, SqL.here hR, rfl, _, rfl, _, _, rfl, rfl, ⟨hn, hn2⟩, _, rfl, r, _, 2, 2, rfl, rfl, hR, rfl, _, rfl, ?_⟩
      refine q _ _ (Int.emod_nonneg _ (by omega)) (Int.emod_lt_of_pos _ hn) ⟨c, ns, i, _, s, upd_same, ?_, ncr, hi, Int.ediv_nonneg hb (by omega), h0, h1⟩ (e1.trans But.set)
      rw [upd_ne ncr]
      exact hC
    · refine ⟨_, rfl, r, _, 3, _, rfl, rfl, SqL.here hR, rfl, ?_⟩
      refine ⟨_, rfl, _, _, rfl, rfl, .inl ⟨by omega, by omega⟩, _, rfl, _, _, rfl, rfl, ⟨by decide, by decide⟩, _, _, rfl, rfl, .inl ⟨?_, ?_⟩, _, _, rfl, rfl, _, _, rfl, rfl, _, _, rfl, rfl, (by show (0 : Int) < 2147483647; decide), _, rfl, r, _, 3, 3, rfl, rfl, hR, rfl, ?_⟩
      · have := Int.ediv_nonneg h0 (show (0 : Int) ≤ 65539 by decide)
        omega
      · have : s / 65539 ≤ s := Int.ediv_le_self _ h0
        omega
      · have z0 : 0 ≤ (s * 62089 + s / 65539 * 29 + 1013904223) % 2147483647 := Int.emod_nonneg _ (by decide)
        have z1 : (s * 62089 + s / 65539 * 29 + 1013904223) % 2147483647 < 2147483647 := Int.emod_lt_of_pos _ (by decide)
        refine ⟨_, rfl, r, _, 3, _, rfl, rfl, SqL.here upd_same, rfl, _, _, rfl, rfl, ⟨by decide, by decide⟩, _, rfl, r, _, 3, _, rfl, rfl, SqL.here upd_same, rfl, _, _, rfl, rfl, (by show (0 : Int) < 8191; decide), _, _, rfl, rfl, .inl ⟨?_, ?_⟩, _, _, rfl, rfl, _, rfl, _, _, rfl, rfl, hn, ?_⟩
        · have := Int.emod_nonneg ((s * 62089 + s / 65539 * 29 + 1013904223) % 2147483647) (show (8191 : Int) ≠ 0 by decide)
          omega
        · have := Int.emod_lt_of_pos ((s * 62089 + s / 65539 * 29 + 1013904223) % 2147483647) (show (0 : Int) < 8191 by decide)
          omega
        · refine q _ _ (Int.emod_nonneg _ (by omega)) (Int.emod_lt_of_pos _ hn) ⟨c, ns, i, b, _, upd_same, ?_, ncr, hi, hb, z0, z1⟩ (e1.trans But.set)
          rw [upd_ne ncr]
          exact hC

abbrev s__law_comb : Stmt := top 20
theorem sc__law_comb : FnScope ["_law_many", "_law_onleft", "_law_term_here", "_law_step"] ["_law_many", "_law_onleft"] (defScope s__law_comb) := ⟨rfl, rfl, rfl, by decide +kernel, rfl, by decide +kernel, by decide +kernel⟩
theorem ok__law_comb (d : D K mg "_law_comb" s__law_comb ["_law_many", "_law_onleft"] f fd) (B : Blt mg) : FnOk P w K mg base CX0 1 f fd ["_law_many", "_law_onleft"] (spComb K) := by
  refine d.F.ok sc__law_comb (fun vs H Q E h => ?_) (fun cdv A outer s H vs Q E hr h => ?_)
  · obtain ⟨_, _, rfl, _⟩ := h
    rfl
  obtain ⟨m, b, rfl, h1, h2, q⟩ := h
  refine ⟨_, (pss_cons (ps_set (i := 2) sc__law_comb.nd rfl (Or.inl rfl) (pe_tup pa_nil))
 (pss_cons (ps_for PassesOwn.never rfl (pi_range1 (by rfl) B.range (pa_cons (pe_op op_sub (pv 0) pe_int) pa_nil)) (pg_name (i := 3) sc__law_comb.nd rfl (Or.inl rfl))
  (pss_one (ps_set (i := 2) sc__law_comb.nd rfl (Or.inl rfl) (pe_ifExp (pt_truth (pv 1) (by intro _; rfl)) (pe_tup (pa_cons (pv 2) (pa_cons (pe_tup pa_nil) pa_nil))) (pe_tup (pa_cons (pe_tup pa_nil) (pa_cons (pv 2) pa_nil)))))))
 (pss_one (ps_ret (pv 2))))), ?_⟩
  refine ⟨zero_le', fun p hp => ?_⟩
  refine ⟨_, rfl, _, _, rfl, rfl, m - 1, rfl, by omega, by omega, for_range (lo := 0) (n := (m - 1).toNat) (fun i σ H' => ∃ (v : V) (t : Tree) (x : Option V), σ = [some (.int m), some (.bl b), some v, x] ∧ TA K H' v t ∧ t.sz = i + 1 ∧ t.dp = i ∧ Same H H')
    ⟨.ref p, .L, none, rfl, ta_leaf (SqT.here upd_same), rfl, rfl, Same.new hp _⟩ ?_ ?_⟩
  · rintro i σ H' hi ⟨v, t, x, rfl, ha, hz, hd, sm⟩
    refine ⟨_, rfl, b, rfl, ?_⟩
    refine ite2 (fun c => ?_) (fun c => ?_)
    · refine ⟨_, rfl, zero_le', fun p2 hp2 => ⟨two_le, fun p3 hp3 => ?_⟩⟩
      have s2 := Same.new hp2 (.tup [])
      have s3 := s2.trans (Same.new hp3 (.tup [v, .ref p2]))
      refine ⟨_, .N t .L, _, rfl, ta_node (SqT.here upd_same) (ta_mono (Tp.same s3) ha) (ta_mono (Tp.same (Same.new hp3 _)) (ta_leaf (SqT.here upd_same))), by show t.sz + 1 = _; omega, by show max t.dp 0 + 1 = _; omega, sm.trans s3⟩
    · refine ⟨zero_le', fun p2 hp2 => ⟨_, rfl, two_le, fun p3 hp3 => ?_⟩⟩
      have s2 := Same.new hp2 (.tup [])
      have s3 := s2.trans (Same.new hp3 (.tup [.ref p2, v]))
      refine ⟨_, .N .L t, _, rfl, ta_node (SqT.here upd_same) (ta_mono (Tp.same (Same.new hp3 _)) (ta_leaf (SqT.here upd_same))) (ta_mono (Tp.same s3) ha), by show 1 + t.sz = _; omega, by show max 0 t.dp + 1 = _; omega, sm.trans s3⟩
  · rintro σ H' ⟨v, t, x, rfl, ha, hz, hd, sm⟩
    refine ⟨_, rfl, q v t H' ha (by omega) (by omega) sm⟩

abbrev s_is_pair : Stmt := top 8
theorem sc_is_pair : FnScope ["part"] ["part"] (defScope s_is_pair) := ⟨rfl, rfl, rfl, by decide +kernel, rfl, by decide +kernel, by decide +kernel⟩
theorem ok_is_pair (d : D K mg "is_pair" s_is_pair ["part"] f fd) (B : Blt mg) : FnOk P w K mg base CX0 1 f fd ["part"] (spIsPair K) := by
  refine d.F.ok sc_is_pair (fun vs H Q E h => ?_) (fun cdv A outer s H vs Q E hr h => ?_)
  · obtain ⟨_, _, rfl, _⟩ := h
    rfl
  obtain ⟨v, t, rfl, ha, q⟩ := h
  refine ⟨_, (pss_one (ps_ret (pe_and (pe_callB call_isi (by rfl) B.isinstance (by decide +kernel) (pa_cons (pv 0) (pa_cons (pe_bltn (v := .ty "tuple") (by rfl) B.tuple (by decide +kernel) rfl) pa_nil))) (pe_one (pe_cmpR op_eq (pe_callB call_len_seq (by rfl) B.len PySem.boot_len (pa_cons (pv 0) pa_nil)) pe_int (nomark _)))))), ?_⟩
  obtain ⟨a, xs, rfl, hS, hx⟩ : ∃ a xs, v = .ref a ∧ SqT K H a xs ∧ decide (V.int ((xs.length : Nat) : Int) = V.int 2) = !t.isL := by
    cases t with
    | L =>
      obtain ⟨a, e, q⟩ := ta_invL ha
      exact ⟨a, _, e, q, rfl⟩
    | N l r =>
      obtain ⟨a, x, y, e, q, _⟩ := ta_invN ha
      exact ⟨a, _, e, q, rfl⟩
  refine ⟨_, rfl, _, _, _, _, true, rfl, .ty "tuple", tyx_tup hS, kit_ty (by decide +kernel), true, rfl, iteT ⟨_, rfl, a, _, rfl, .inr hS, rfl, ?_⟩⟩
  show Q (.bl (decide (V.int ((xs.length : Nat) : Int) = V.int 2))) H
  rw [hx]
  exact q

abbrev s__law_same : Stmt := top 18
theorem sc__law_same : FnScope ["_law_result", "_law_expected", "_law_k"] ["_law_result", "_law_expected"] (defScope s__law_same) := ⟨rfl, rfl, rfl, by decide +kernel, rfl, by decide +kernel, by decide +kernel⟩
theorem same_ix {H : Hp} {x y : V} {d : PyData} {ds : List PyData} (hd : d = .list ds ∨ d = .tuple ds) (hx : Dp K H x d) : ∃ a xs, x = .ref a ∧ (SqL K H a xs ∨ SqT K H a xs) ∧ DpAll K H xs ds := by
  rcases hd with rfl | rfl
  · cases hx with
    | lst hs ha => exact ⟨_, _, rfl, .inl hs, ha⟩
  · cases hx with
    | tup hs ha => exact ⟨_, _, rfl, .inr hs, ha⟩
theorem rix_of {H : Hp} {a : Addr} {xs : List V} {i : Nat} {v : V} {Q : VK} (h : SqL K H a xs ∨ SqT K H a xs) (hi : xs[i]? = some v) (q : Q v H) : rIx K (.ref a) (.int (0 + (i : Int))) H Q := by
  have e : (0 + (i : Int)) = (i : Int) := by omega
  rcases h with h | h
  · exact .inl ⟨a, xs, _, v, rfl, rfl, h, by rw [e]; exact atI_nat hi, q⟩
  · exact .inr (.inl ⟨a, xs, _, v, rfl, rfl, h, by rw [e]; exact atI_nat hi, q⟩)
theorem same_sq {H H' : Hp} {a : Addr} {xs : List V} (e : Same H H') (h : SqL K H a xs ∨ SqT K H a xs) : SqL K H' a xs ∨ SqT K H' a xs := by
  rcases h with h | h
  · exact .inl (e.seq h)
  · exact .inr ((Tp.same e).sqT h)
theorem ok__law_same (d__law_same : D K mg "_law_same" s__law_same ["_law_result", "_law_expected"] f fd) (B : Blt mg) : ∀ n : Nat, FnOk P w K mg base CX0 n f fd ["_law_result", "_law_expected"] (spSame K n)
  | 0 => fn_none fun vs H Q E h => by
    obtain ⟨_, _, _, _, _, _, _, h, _⟩ := h
    omega
  | n + 1 => by
    have G__law_same := ok__law_same d__law_same B n
    refine d__law_same.F.ok sc__law_same (fun vs H Q E h => ?_) (fun cdv A outer s H vs Q E hr h => ?_)
    · obtain ⟨_, _, _, rfl, _⟩ := h
      rfl
    obtain ⟨x, y, d, rfl, hx, hy, hs, hd, hw, q⟩ := h
    refine ⟨_, (pss_cons (ps_if (pt_val (pe_callB call_isi (by rfl) B.isinstance (by decide +kernel) (pa_cons (pv 1) (pa_cons (pe_bltn (v := .ty "dict") (by rfl) B.dict (by decide +kernel) rfl) pa_nil)))) (pss_one ps_never) pss_nil)
 (pss_cons (ps_if (PW.pt (pw_or (pt_cmpR op_ne (pe_callB call_isi (by rfl) B.isinstance (by decide +kernel) (pa_cons (pv 1) (pa_cons (pe_bltn (v := .ty "tuple") (by rfl) B.tuple (by decide +kernel) rfl) pa_nil))) (pe_callB call_isi (by rfl) B.isinstance (by decide +kernel) (pa_cons (pv 0) (pa_cons (pe_bltn (v := .ty "tuple") (by rfl) B.tuple (by decide +kernel) rfl) pa_nil))) (nomark _)) (pw_or1 (pt_cmpR op_ne (pe_callB call_isi (by rfl) B.isinstance (by decide +kernel) (pa_cons (pv 1) (pa_cons (pe_bltn (v := .ty "list") (by rfl) B.list (by decide +kernel) rfl) pa_nil))) (pe_callB call_isi (by rfl) B.isinstance (by decide +kernel) (pa_cons (pv 0) (pa_cons (pe_bltn (v := .ty "list") (by rfl) B.list (by decide +kernel) rfl) pa_nil))) (nomark _))))) (pss_one (ps_ret pe_bl)) pss_nil)
 (pss_cons (ps_if (pt_not (pt_val (pe_callB call_isiT (by rfl) B.isinstance (by decide +kernel) (pa_cons (pv 1) (pa_cons (pe_tup (pa_cons (pe_bltn (v := .ty "tuple") (by rfl) B.tuple (by decide +kernel) rfl) (pa_cons (pe_bltn (v := .ty "list") (by rfl) B.list (by decide +kernel) rfl) pa_nil))) pa_nil))))) (pss_one (ps_ret (pe_and (pe_cmpR op_eq (pe_callB call_isi (by rfl) B.isinstance (by decide +kernel) (pa_cons (pv 0) (pa_cons (pe_bltn (v := .ty "bool") (by rfl) B.bool (by decide +kernel) rfl) pa_nil))) (pe_callB call_isi (by rfl) B.isinstance (by decide +kernel) (pa_cons (pv 1) (pa_cons (pe_bltn (v := .ty "bool") (by rfl) B.bool (by decide +kernel) rfl) pa_nil))) (nomark _)) (pe_one (pe_cmpR (op_eqD hr.units) (pv 0) (pv 1) (nomark _)))))) pss_nil)
 (pss_one (ps_ret (pe_and (pe_cmpR op_eq (pe_callB call_len_seq (by rfl) B.len PySem.boot_len (pa_cons (pv 0) pa_nil)) (pe_callB call_len_seq (by rfl) B.len PySem.boot_len (pa_cons (pv 1) pa_nil)) (nomark _)) (pe_one (pe_callB (cr_all rfl) (by rfl) B.all (by decide +kernel) (pa_cons (pe_lc (own := [("_law_k", 2)]) (g := gName 2) (tt := tYes) (by rfl) sc__law_same.nd (pi_range1 (by rfl) B.range (pa_cons (pe_callB call_len_seq (by rfl) B.len PySem.boot_len (pa_cons (pv 1) pa_nil)) pa_nil)) (blkOk_by (own := [("_law_k", 2)]) (N := ["_law_result", "_law_expected", "_law_k"]) (sc := defScope s__law_same) (by decide +kernel)) (fun _ _ _ _ _ => (pg_name (i := 2) sc__law_same.nd rfl (Or.inl rfl))) (fun _ _ _ _ _ => pts_nil) (fun _ _ _ _ _ => (pe_call G__law_same hr rfl d__law_same.m d__law_same.F.kp d__law_same.b .nil pass0 (pa_cons (pe_ix (r := rIx K) ix_seq (pv 0) (pv 2) (fun _ _ => rfl)) (pa_cons (pe_ix (r := rIx K) ix_seq (pv 1) (pv 2) (fun _ _ => rfl)) pa_nil))))) pa_nil))))))))), ?_⟩
    refine ⟨_, rfl, _, _, _, _, false, rfl, .ty "dict", dp_ty hy, kit_dict hy, false, rfl, iteF ?_⟩
    refine ⟨_, rfl, _, _, _, _, _, rfl, .ty "tuple", dp_ty hy, kit_tuple hy, _, rfl, _, _, _, _, _, rfl, .ty "tuple", dp_ty hx, kit_tuple hx, rfl, _, rfl, ite_no ?_ ?_⟩
    · rw [decide_eq_true rfl]
      rfl
    refine ⟨_, rfl, _, _, _, _, _, rfl, .ty "list", dp_ty hy, kit_list hy, _, rfl, _, _, _, _, _, rfl, .ty "list", dp_ty hx, kit_list hx, rfl, _, rfl, ite_no ?_ ?_⟩
    · rw [decide_eq_true rfl]
      rfl
    refine ⟨_, rfl, two_le, fun p hp => ?_⟩
    have s1 := Same.new hp (.tup [.ty "tuple", .ty "list"])
    have hx1 := dp_same s1 d hx
    have hy1 := dp_same s1 d hy
    refine ⟨_, p, _, _, _, _, rfl, upd_same, .cons (.ty _) (.cons (.ty _) .nil), dp_ty hy1, kit_seq hy1, _, rfl, ?_⟩
    generalize (upd H p (.tup [.ty "tuple", .ty "list"])) = H1 at *
    cases hsq : (isT d || isLs d) with
    | false =>
      refine iteT ?_
      refine ⟨_, rfl, _, _, _, _, _, rfl, .ty "bool", dp_ty hx1, kit_bool hx1, _, rfl, _, _, _, _, _, rfl, .ty "bool", dp_ty hy1, kit_bool hy1, rfl, true, ?_, iteT ?_⟩
      · rw [decide_eq_true rfl]
      · refine ⟨_, rfl, _, rfl, d, d, hx1, hy1, hs, hs, ?_⟩
        rw [SeqAt.eqv_refl d (SeqAt.canLay_of_shaped hs)]
        exact q H1 s1
    | true =>
      refine iteF ?_
      obtain ⟨ds, hds⟩ : ∃ ds, d = .list ds ∨ d = .tuple ds := by
        cases d <;> first | exact ⟨_, .inl rfl⟩ | exact ⟨_, .inr rfl⟩ | exact absurd (show false = true from hsq) (by decide)
      obtain ⟨a, xs, rfl, hX, hXA⟩ := same_ix (y := y) hds hx1
      obtain ⟨b, ys, rfl, hY, hYA⟩ := same_ix (y := .ref a) hds hy1
      have lx := dpAll_len hXA
      have ly := dpAll_len hYA
      have hcan : PyData.canLayAll0 ds = true := by
        have := SeqAt.canLay_of_shaped hs
        rcases hds with rfl | rfl <;> exact this
      have hdep : d.depth = PyData.depthAll ds + 1 := by rcases hds with rfl | rfl <;> rfl
      have hd64 := SeqAt.depth_of_shaped hs
      have hwd : ds.length ≤ 1000 ∧ wideAll ds = true := by
        have h0 : (decide (ds.length ≤ 1000) && wideAll ds) = true := by rcases hds with rfl | rfl <;> exact hw
        have h1 := Bool.and_eq_true_iff.mp h0
        exact ⟨of_decide_eq_true h1.1, h1.2⟩
      refine ⟨_, rfl, a, _, rfl, hX, _, rfl, b, _, rfl, hY, rfl, true, ?_, iteT ?_⟩
      · rw [lx, ly, decide_eq_true rfl]
      refine ⟨_, rfl, b, _, rfl, hY, (ys.length : Int), rfl, by omega, by omega, fun D hD => ?_⟩
      refine lc_range (lo := 0) (n := ((ys.length : Int)).toNat) (fun i H' => Same H1 H' ∧ H' D = some (.lst (List.replicate i (V.bl true)))) ⟨Same.new hD _, upd_same⟩ ?_ ?_
      · rintro i H' hi ⟨sm, hl⟩
        have hi' : i < ds.length := by omega
        obtain ⟨u, eu, hu⟩ := dpAll_at hXA i ds[i] (List.getElem?_eq_getElem hi')
        obtain ⟨v, ev, hv⟩ := dpAll_at hYA i ds[i] (List.getElem?_eq_getElem hi')
        have hm : ds[i] ∈ ds := List.getElem_mem hi'
        have hdi := depth_at hm
        refine ⟨rfl, ?_⟩
        refine ⟨_, rfl, _, rfl, rix_of (same_sq sm hX) eu ⟨_, rfl, _, rfl, rix_of (same_sq sm hY) ev ⟨u, v, ds[i], rfl, dp_same sm _ hu, dp_same sm _ hv, ?_, by omega, wide_at hwd.2 hm, fun H2 s2 => ?_⟩⟩⟩
        · unfold SeqAt.shaped
          rw [shaped_at hcan hm, decide_eq_true (by omega)]
          rfl
        · refine ⟨_, s2 _ _ hl, by rw [List.length_replicate]; exact small1000 (by omega), fun c o e => ?_, ?_⟩
          · rw [upd_ne (ne_of_none e hD)]
            exact s2 _ _ (sm _ _ e)
          · rw [upd_same, List.replicate_succ']
      · rintro H' ⟨sm, hl⟩
        refine ⟨D, List.replicate ((ys.length : Int)).toNat true, rfl, SqL.here (by rw [hl, List.map_replicate]), ?_⟩
        rw [all_rep]
        exact q H' (s1.trans sm)

abbrev s__law_term : Stmt := top 19
theorem sc__law_term : FnScope ["_law_rng", "_law_many", "_law_cap", "_law_half", "_law_low", "_law_high", "_law_left"] ["_law_rng", "_law_many", "_law_cap"] (defScope s__law_term) := ⟨rfl, rfl, rfl, by decide +kernel, rfl, by decide +kernel, by decide +kernel⟩
theorem ok__law_term {fr : Addr} {frd : FuncData} (d__law_term : D K mg "_law_term" s__law_term ["_law_rng", "_law_many", "_law_cap"] f fd) (B : Blt mg) (d__law_draw : D K mg "_law_draw" s__law_draw ["_law_rng", "_law_amount"] fr frd) : ∀ n : Nat, FnOk P w K mg base CX0 (n + 1) f fd ["_law_rng", "_law_many", "_law_cap"] (spTerm K n)
  | 0 => fn_none fun vs H Q E h => by
    obtain ⟨_, _, _, h, _⟩ := h
    omega
  | n + 1 => by
    have G__law_term := ok__law_term d__law_term B d__law_draw n
    have G__law_draw : FnOk P w K mg base CX0 1 fr frd ["_law_rng", "_law_amount"] spDraw := ok__law_draw d__law_draw B
    refine d__law_term.F.ok sc__law_term (fun vs H Q E h => ?_) (fun cdv A outer s H vs Q E hr h => ?_)
    · obtain ⟨_, _, _, _, rfl, _⟩ := h
      rfl
    obtain ⟨r, many, k, hk, rfl, h6, h1, h2, hR, q⟩ := h
    refine ⟨_, (pss_cons (ps_if (pt_cmpR op_lt (pv 1) pe_int (nomark _)) (pss_one (ps_ret (pe_tup pa_nil))) pss_nil)
 (pss_cons (ps_set (i := 3) sc__law_term.nd rfl (Or.inl rfl) (pe_op op_fdiv (pv 2) pe_int))
 (pss_cons (ps_par (i := 4) (j := 5) (by rfl) sc__law_term.nd rfl rfl (by decide) rfl rfl (pa_cons (pe_callB (call_max2 rfl) (by rfl) B.max (by decide +kernel) (pa_cons pe_int (pa_cons (pe_op op_sub (pv 1) (pv 3)) pa_nil))) (pa_cons (pe_callB (call_min2 rfl) (by rfl) B.min (by decide +kernel) (pa_cons (pe_op op_sub (pv 1) pe_int) (pa_cons (pv 3) pa_nil))) pa_nil)) (by rfl))
 (pss_cons (ps_set (i := 6) sc__law_term.nd rfl (Or.inl rfl) (pe_op op_add (pv 4) (pe_call G__law_draw (hr.mono (by omega)) rfl d__law_draw.m d__law_draw.F.kp d__law_draw.b .nil pass0 (pa_cons (pv 0) (pa_cons (pe_op op_add (pe_op op_sub (pv 5) (pv 4)) pe_int) pa_nil)))))
 (pss_one (ps_ret (pe_tup (pa_cons (pe_call G__law_term hr rfl d__law_term.m d__law_term.F.kp d__law_term.b .nil pass0 (pa_cons (pv 0) (pa_cons (pv 6) (pa_cons (pv 3) pa_nil)))) (pa_cons (pe_call G__law_term hr rfl d__law_term.m d__law_term.F.kp d__law_term.b .nil pass0 (pa_cons (pv 0) (pa_cons (pe_op op_sub (pv 1) (pv 6)) (pa_cons (pv 3) pa_nil)))) pa_nil))))))))), ?_⟩
    refine ⟨_, rfl, _, _, rfl, rfl, _, rfl, ?_⟩
    refine ite2 (fun c => ?_) (fun c => ?_)
    · have c' : many < 2 := of_decide_eq_true c
      refine ⟨zero_le', fun p hp => ?_⟩
      refine q _ .L _ (ta_leaf (SqT.here upd_same)) (by show ((1 : Nat) : Int) = many; omega) (Nat.zero_le _) (hR.same (Same.new hp _)) (But.same (Same.new hp _))
    · have c' : ¬ many < 2 := of_decide_eq_false (Bool.eq_false_iff.mpr c)
      cases k with
      | zero => exact absurd h2 (by show ¬ many ≤ 1; omega)
      | succ k =>
        have hp : (0 : Int) < 2 ^ k := Int.pow_pos (by decide)
        have hp6 : (2 : Int) ^ k ≤ 2 ^ 6 := by
          have : (2 : Nat) ^ k ≤ 2 ^ 6 := Nat.pow_le_pow_right (by decide) (by omega)
          exact_mod_cast this
        have e2 : (2 : Int) ^ (k + 1) = 2 * 2 ^ k := by rw [Int.pow_succ]; omega
        have eh : (2 : Int) ^ (k + 1) / 2 = 2 ^ k := by rw [e2]; omega
        refine ⟨_, rfl, _, _, rfl, rfl, ⟨by decide, by decide⟩, ?_⟩
        rw [e2] at h2
        generalize hh : (2 : Int) ^ (k + 1) / 2 = half at eh
        refine ⟨_, rfl, _, rfl, _, _, rfl, rfl, _, _, rfl, _, rfl, _, _, rfl, rfl, _, rfl, _, _, rfl, _, _, rfl, ?_⟩
        have el : ∀ a b : Int, (if a > b then a else b) = max b a := fun a b => by
          by_cases h : a > b
          · rw [if_pos h]; omega
          · rw [if_neg h]; omega
        have em : ∀ a b : Int, (if a < b then a else b) = min b a := fun a b => by
          by_cases h : a < b
          · rw [if_pos h]; omega
          · rw [if_neg h]; omega
        generalize hlo : (if many - (2 : Int) ^ (k + 1) / 2 > 1 then many - (2 : Int) ^ (k + 1) / 2 else 1) = lo
        generalize hhi : (if (2 : Int) ^ (k + 1) / 2 < many - 1 then (2 : Int) ^ (k + 1) / 2 else many - 1) = hi
        rw [el, hh, eh] at hlo
        rw [em, hh, eh] at hhi
        have p6 : (2 : Int) ^ 6 = 64 := by decide
        refine ⟨_, rfl, _, rfl, _, rfl, _, rfl, _, _, rfl, rfl, _, _, rfl, rfl, r, hi - lo + 1, rfl, hR, by omega, by omega, fun v H1 v0 v1 R1 b1 => ?_⟩
        refine ⟨_, _, rfl, rfl, ?_⟩
        refine ⟨_, rfl, _, rfl, _, rfl, r, lo + v, k, by omega, ?_, by omega, by omega, by omega, R1, fun x tx H2 a2 z2 d2 R2 b2 => ?_⟩
        · show [V.ref r, V.int (lo + v), V.int ((2 : Int) ^ (k + 1) / 2)] = _
          rw [hh, eh]
        refine ⟨_, rfl, _, rfl, _, rfl, _, _, rfl, rfl, _, rfl, r, many - (lo + v), k, by omega, ?_, by omega, by omega, by omega, R2, fun y ty H3 a3 z3 d3 R3 b3 => ?_⟩
        · show [V.ref r, V.int (many - (lo + v)), V.int ((2 : Int) ^ (k + 1) / 2)] = _
          rw [hh, eh]
        refine ⟨two_le, fun p hp' => ?_⟩
        obtain ⟨ys, l2⟩ := R2.lst
        have sn := Same.new hp' (.tup [x, y])
        refine q _ (.N tx ty) _ (ta_node (SqT.here upd_same) (ta_mono (Tp.same sn) (ta_mono (Tp.but l2 b3) a2)) (ta_mono (Tp.same sn) a3)) ?_ ?_ (R3.same sn) (((b1.trans b2).trans b3).trans (But.same sn))
        · show ((tx.sz + ty.sz : Nat) : Int) = many
          omega
        · show max tx.dp ty.dp + 1 ≤ k + 1
          omega

abbrev s__law_any_term : Stmt := top 21
theorem sc__law_any_term : FnScope ["_law_rng", "_law_top", "_law_way", "_law_many"] ["_law_rng", "_law_top"] (defScope s__law_any_term) := ⟨rfl, rfl, rfl, by decide +kernel, rfl, by decide +kernel, by decide +kernel⟩
theorem ok__law_any_term {fr fc ft : Addr} {frd fcd ftd : FuncData} (d__law_any_term : D K mg "_law_any_term" s__law_any_term ["_law_rng", "_law_top"] f fd) (B : Blt mg) (d__law_draw : D K mg "_law_draw" s__law_draw ["_law_rng", "_law_amount"] fr frd)
    (d__law_comb : D K mg "_law_comb" s__law_comb ["_law_many", "_law_onleft"] fc fcd) (d__law_term : D K mg "_law_term" s__law_term ["_law_rng", "_law_many", "_law_cap"] ft ftd) : FnOk P w K mg base CX0 9 f fd ["_law_rng", "_law_top"] (spAny K) := by
  have G__law_draw : FnOk P w K mg base CX0 1 fr frd ["_law_rng", "_law_amount"] spDraw := ok__law_draw d__law_draw B
  have G__law_comb : FnOk P w K mg base CX0 1 fc fcd ["_law_many", "_law_onleft"] (spComb K) := ok__law_comb d__law_comb B
  have G__law_term : FnOk P w K mg base CX0 8 ft ftd ["_law_rng", "_law_many", "_law_cap"] (spTerm K 7) := ok__law_term d__law_term B d__law_draw 7
  refine d__law_any_term.F.ok sc__law_any_term (fun vs H Q E h => ?_) (fun cdv A outer s H vs Q E hr h => ?_)
  · obtain ⟨_, _, rfl, _⟩ := h
    rfl
  obtain ⟨r, n, rfl, h1, h2, hR, q⟩ := h
  refine ⟨_, (pss_cons (ps_par (i := 2) (j := 3) (by rfl) sc__law_any_term.nd rfl rfl (by decide) rfl rfl (pa_cons (pe_call G__law_draw (hr.mono (by decide)) rfl d__law_draw.m d__law_draw.F.kp d__law_draw.b .nil pass0 (pa_cons (pv 0) (pa_cons pe_int pa_nil))) (pa_cons (pe_op op_add pe_int (pe_call G__law_draw (hr.mono (by decide)) rfl d__law_draw.m d__law_draw.F.kp d__law_draw.b .nil pass0 (pa_cons (pv 0) (pa_cons (pv 1) pa_nil)))) pa_nil)) (by rfl))
 (pss_cons (ps_if (pt_cmpR op_lt (pv 2) pe_int (nomark _)) (pss_one (ps_ret (pe_call G__law_comb (hr.mono (by decide)) rfl d__law_comb.m d__law_comb.F.kp d__law_comb.b .nil pass0 (pa_cons (pe_callB (call_min2 rfl) (by rfl) B.min (by decide +kernel) (pa_cons (pv 3) (pa_cons pe_int pa_nil))) (pa_cons (pe_cmpR op_eq (pv 2) pe_int (nomark _)) pa_nil))))) pss_nil)
 (pss_one (ps_ret (pe_call G__law_term (hr.mono (by decide)) rfl d__law_term.m d__law_term.F.kp d__law_term.b .nil pass0 (pa_cons (pv 0) (pa_cons (pv 3) (pa_cons pe_int pa_nil)))))))), ?_⟩
  refine ⟨_, rfl, r, 8, rfl, hR, by decide, by decide, fun way H1 w0 w1 R1 b1 => ?_⟩
  refine ⟨_, rfl, _, rfl, r, n, rfl, R1, by omega, by omega, fun m H2 m0 m1 R2 b2 => ?_⟩
  have b12 := b1.trans b2
  refine ⟨_, _, rfl, rfl, _, _, rfl, ?_⟩
  refine ⟨_, rfl, _, _, rfl, rfl, _, rfl, ?_⟩
  refine ite2 (fun c => ?_) (fun c => ?_)
  · refine ⟨_, rfl, _, _, rfl, _, rfl, rfl, (if 7 < 1 + m then 7 else 1 + m), decide (V.int way = V.int 0), rfl, ?_, ?_, fun v t H3 a3 z3 d3 s3 => ?_⟩
    · split <;> omega
    · split <;> omega
    · refine q v t H3 a3 ?_ ?_ (R2.same s3) (b12.trans (But.same s3))
      · rw [z3]
        split <;> omega
      · have : (t.dp : Int) ≤ 6 := by
          rw [d3]
          split <;> omega
        omega
  · refine ⟨_, rfl, _, rfl, r, 1 + m, 6, by decide, rfl, by decide, by omega, by show 1 + m ≤ 64; omega, R2, fun v t H3 a3 z3 d3 R3 b3 => ?_⟩
    exact q v t H3 a3 (by omega) d3 R3 (b12.trans b3)

abbrev s_is_term : Stmt := top 7
theorem sc_is_term : FnScope ["term", "waiting", "size", "part", "depth"] ["term"] (defScope s_is_term) := ⟨rfl, rfl, rfl, by decide +kernel, rfl, by decide +kernel, by decide +kernel⟩
theorem ok_is_term {fp : Addr} {fpd : FuncData} (d : D K mg "is_term" s_is_term ["term"] f fd) (B : Blt mg) (C : Cst mg) (d_is_pair : D K mg "is_pair" s_is_pair ["part"] fp fpd) : FnOk P w K mg base CX0 2 f fd ["term"] (spOkTerm K (.bl true)) := by
  have G_is_pair : FnOk P w K mg base CX0 1 fp fpd ["part"] (spIsPair K) := ok_is_pair d_is_pair B
  obtain ⟨⟨t1, C_MAX_SIZE⟩, ⟨t2, C_MAX_DEPTH⟩⟩ := C
  refine d.F.ok sc_is_term (fun vs H Q E h => ?_) (fun cdv A outer s H vs Q E hr h => ?_)
  · obtain ⟨_, _, rfl, _⟩ := h
    rfl
  obtain ⟨v, t, rfl, ha, hz, hd, q⟩ := h
  refine ⟨_, (pss_cons (ps_set (i := 1) sc_is_term.nd rfl (Or.inl rfl) (pe_lst (pa_cons (pe_tup (pa_cons (pv 0) (pa_cons pe_int pa_nil))) pa_nil)))
 (pss_cons (ps_set (i := 2) sc_is_term.nd rfl (Or.inl rfl) pe_int)
 (pss_cons (ps_while PassesOwn.never (pt_truth (pv 1) (by intro _; rfl)) (pss_cons (ps_asg (pe_bm0 PySem.F.plainAttrs_list PySem.F.slot_list_pop PySem.F.type_list_pop mt_pop (pv 1)) (pg_tup (by rfl) (pgs_cons (pg_name (i := 3) sc_is_term.nd rfl (Or.inl rfl)) (pgs_cons (pg_name (i := 4) sc_is_term.nd rfl (Or.inl rfl)) pgs_nil))))
 (pss_cons (ps_if (pt_cmpR (op_eqD hr.units) (pv 3) (pe_tup pa_nil) (nomark _)) (pss_one (ps_aug (i := 2) sc_is_term.nd rfl (Or.inl rfl) pe_int ip_add)) (pss_one (ps_if (PW.pt (pw_and (pt_val (pe_call G_is_pair (hr.mono (by decide)) rfl d_is_pair.m d_is_pair.F.kp d_is_pair.b .nil pass0 (pa_cons (pv 3) pa_nil))) (pw_and1 (pt_cmpR op_lt (pv 4) (pe_glob (v := .int 6) rfl C_MAX_DEPTH ⟨_, rfl⟩) (nomark _))))) (pss_cons (ps_expr (pe_bm PySem.F.plainAttrs_list PySem.F.slot_list_append PySem.F.type_list_append mt_append (pv 1) (pa_cons (pe_tup (pa_cons (pe_ix ix_tup (pv 3) pe_int (fun _ _ => rfl)) (pa_cons (pe_op op_add (pv 4) pe_int) pa_nil))) pa_nil)))
 (pss_one (ps_expr (pe_bm PySem.F.plainAttrs_list PySem.F.slot_list_append PySem.F.type_list_append mt_append (pv 1) (pa_cons (pe_tup (pa_cons (pe_ix ix_tup (pv 3) pe_int (fun _ _ => rfl)) (pa_cons (pe_op op_add (pv 4) pe_int) pa_nil))) pa_nil))))) (pss_one (ps_ret pe_bl)))))
 (pss_one (ps_if (pt_cmpR op_gt (pv 2) (pe_glob (v := .int 12) rfl C_MAX_SIZE ⟨_, rfl⟩) (nomark _)) (pss_one (ps_ret pe_bl)) pss_nil)))))
 (pss_one (ps_ret pe_bl))))), ?_⟩
  refine ⟨_, rfl, two_le, fun p hp => ⟨one_le, fun w hw => ?_⟩⟩
  have s1 := Same.new hp (.tup [v, .int 0])
  have s2 := s1.trans (Same.new hw (.lst [.ref p]))
  have hw0 : H w = none := s1.free hw
  refine ⟨fun m σ H' => ∃ (ps : List (V × Tree × Nat)) (n : Int) (x y : Option V), σ = [some v, some (.ref w), some (.int n), x, y] ∧ Same H H' ∧ H' w = some (.lst (ps.map (·.1))) ∧ (∀ p ∈ ps, Item K H' p) ∧ 0 ≤ n ∧ n + (szs ps : Int) = t.sz ∧ m = nds ps,
    ⟨_, [(.ref p, t, 0)], 0, none, none, rfl, s2, upd_same, ?_, by decide, by simp [szs], rfl⟩, ?_⟩
  · intro z hz'
    cases List.mem_singleton.mp hz'
    exact ⟨p, v, rfl, (Tp.same (Same.new hw _)).sqT (SqT.here upd_same), ta_mono (Tp.same s2) ha, by show 0 + t.dp ≤ 6; omega⟩
  · rintro m σ H' ⟨ps, n, x, y, rfl, sm, hl, hI, hn, hs, rfl⟩
    rcases List.eq_nil_or_concat ps with rfl | ⟨qs, z, rfl⟩
    · exact ⟨_, rfl, _, .inl ⟨_, SqL.here hl, rfl⟩, iteF (q H' sm)⟩
    · rw [List.concat_eq_append] at *
      rw [List.map_append] at hl
      refine ⟨_, rfl, true, .inl ⟨_, SqL.here hl, ?_⟩, iteT ?_⟩
      · cases qs <;> rfl
      have hIz := hI z (by simp)
      have hIq : ∀ p ∈ qs, Item K H' p := fun p hp => hI p (by simp [hp])
      obtain ⟨zv, zt, zd⟩ := z
      obtain ⟨a, u, ez, h2, h3, h4⟩ := hIz
      have ez' : zv = .ref a := ez
      subst ez'
      have h4 : zd + zt.dp ≤ 6 := h4
      have h3 : TA K H' u zt := h3
      have h2 : SqT K H' a [u, .int (zd : Int)] := h2
      have hs : n + ((szs qs + zt.sz : Nat) : Int) = t.sz := by
        rw [szs_snoc] at hs
        exact hs
      have en : nds (qs ++ [(V.ref a, zt, zd)]) = nds qs + zt.nodes := nds_snoc _ _
      have hsz := szs_len qs
      refine ⟨fun σ' H' => ∃ (ps : List (V × Tree × Nat)) (n : Int) (x y : Option V), σ' = [some v, some (.ref w), some (.int n), x, y] ∧ Same H H' ∧ H' w = some (.lst (ps.map (·.1))) ∧ (∀ p ∈ ps, Item K H' p) ∧ 0 ≤ n ∧ n + (szs ps : Int) = t.sz ∧ nds ps < nds (qs ++ [(V.ref a, zt, zd)]), ?_, ?_⟩
      · rintro σ' H'' ⟨ps, n, x, y, e1, e2, e3, e4, e5, e6, e7⟩
        exact ⟨_, e7, ps, n, x, y, e1, e2, e3, e4, e5, e6, rfl⟩
      -- part, depth = waiting.pop()
      have tp1 : Tp H' (upd H' w (.lst (qs.map (·.1)))) := Tp.but hl But.set
      refine ⟨_, rfl, .inl ⟨rfl, _, SqL.here hl⟩, w, _, .ref a, rfl, rfl, hl, ?_, a, [u, .int zd], rfl, ?_, rfl, _, _, rfl, _, _, rfl, rfl, ?_⟩
      · simp
      · rw [List.dropLast_append_of_ne_nil (by simp)]
        simp only [List.map_cons, List.map_nil, List.dropLast_singleton, List.append_nil]
        exact tp1.sqT h2
      rw [List.dropLast_append_of_ne_nil (by simp)]
      simp only [List.map_cons, List.map_nil, List.dropLast_singleton, List.append_nil]
      have sm1 : Same H (upd H' w (.lst (qs.map (·.1)))) := fun b o e => by
        rw [upd_ne (ne_of_none e hw0)]
        exact sm _ _ e
      refine ⟨_, rfl, zero_le', fun p5 hp5 => ⟨zt.d, .tuple [], ta_mono (Tp.same (Same.new hp5 _)) (ta_mono tp1 h3), Dp.tup (SqT.here upd_same) .nil, Tree.shaped (by omega), shapedE, _, rfl, ?_⟩⟩
      refine ite_eq (Tree.eqvL zt) ?_
      have tp2 : Tp (upd H' w (.lst (qs.map (·.1)))) (upd (upd H' w (.lst (qs.map (·.1)))) p5 (.tup [])) := Tp.same (Same.new hp5 _)
      have sm2 : Same H (upd (upd H' w (.lst (qs.map (·.1)))) p5 (.tup [])) := sm1.trans (Same.new hp5 _)
      have nw5 : w ≠ p5 := fun e => by
        rw [← e, upd_same] at hp5
        cases hp5
      have hl2 : (upd (upd H' w (.lst (qs.map (·.1)))) p5 (.tup [])) w = some (.lst (qs.map (·.1))) := by rw [upd_ne nw5, upd_same]
      generalize (upd (upd H' w (.lst (qs.map (·.1)))) p5 (.tup [])) = H2 at *
      cases zt with
      | L =>
        have hs : n + ((szs qs + 1 : Nat) : Int) = t.sz := hs
        refine iteT ⟨_, rfl, _, _, rfl, rfl, _, rfl, _, _, rfl, rfl, _, rfl, ?_⟩
        refine ite_no (decide_eq_false (by show ¬ (n + 1 > 12); omega)) ?_
        refine ⟨qs, n + 1, _, _, rfl, sm2, hl2, fun p hp => (hIq p hp).mono (tp1.trans tp2), by omega, by omega, ?_⟩
        rw [en]
        exact Nat.lt_succ_self _
      | N l r =>
        have hs : n + ((szs qs + (l.sz + r.sz) : Nat) : Int) = t.sz := hs
        have h4 : zd + (max l.dp r.dp + 1) ≤ 6 := h4
        obtain ⟨b, x1, x2, rfl, hS, hL, hR⟩ := ta_invN (ta_mono (tp1.trans tp2) h3)
        refine iteF ⟨_, rfl, _, _, rfl, ta_node hS hL hR, true, rfl, iteT ⟨_, rfl, _, _, rfl, rfl, _, rfl, ?_⟩⟩
        refine ite_yes (decide_eq_true (by omega)) ?_
        refine ⟨_, rfl, .inl ⟨rfl, _, SqL.here hl2⟩, _, rfl, b, _, 0, _, rfl, rfl, hS, rfl, _, rfl, _, _, rfl, rfl, two_le, fun p6 hp6 => ?_⟩
        have tp3 : Tp H2 (upd H2 p6 (.tup [x1, .int ((zd : Int) + 1)])) := Tp.same (Same.new hp6 _)
        have nw6 : w ≠ p6 := ne_of_none hl2 hp6
        refine ⟨w, _, _, rfl, rfl, (by rw [upd_ne nw6]; exact hl2), (by rw [List.length_map]; exact small1000 (by omega)), ?_⟩
        have hl3 : (upd (upd H2 p6 (.tup [x1, .int ((zd : Int) + 1)])) w (.lst (qs.map (·.1) ++ [.ref p6]))) w = some (.lst (qs.map (·.1) ++ [.ref p6])) := upd_same
        have tp4 : Tp (upd H2 p6 (.tup [x1, .int ((zd : Int) + 1)])) (upd (upd H2 p6 (.tup [x1, .int ((zd : Int) + 1)])) w (.lst (qs.map (·.1) ++ [.ref p6]))) := Tp.but (by rw [upd_ne nw6]; exact hl2) But.set
        have sm4 : Same H (upd (upd H2 p6 (.tup [x1, .int ((zd : Int) + 1)])) w (.lst (qs.map (·.1) ++ [.ref p6]))) := fun b o e => by
          rw [upd_ne (ne_of_none e hw0)]
          exact (sm2.trans (Same.new hp6 _)) _ _ e
        have h6 : SqT K (upd (upd H2 p6 (.tup [x1, .int ((zd : Int) + 1)])) w (.lst (qs.map (·.1) ++ [.ref p6]))) p6 [x1, .int ((zd : Int) + 1)] := tp4.sqT (SqT.here upd_same)
        have tp24 : Tp H2 _ := tp3.trans tp4
        generalize (upd (upd H2 p6 (.tup [x1, .int ((zd : Int) + 1)])) w (.lst (qs.map (·.1) ++ [.ref p6]))) = H4 at *
        refine ⟨_, rfl, .inl ⟨rfl, _, SqL.here hl3⟩, _, rfl, b, _, 1, _, rfl, rfl, tp24.sqT hS, rfl, _, rfl, _, _, rfl, rfl, two_le, fun p7 hp7 => ?_⟩
        have tp5 : Tp H4 (upd H4 p7 (.tup [x2, .int ((zd : Int) + 1)])) := Tp.same (Same.new hp7 _)
        have nw7 : w ≠ p7 := ne_of_none hl3 hp7
        refine ⟨w, _, _, rfl, rfl, (by rw [upd_ne nw7]; exact hl3), (by rw [List.length_append, List.length_map, List.length_singleton]; exact small1000 (by omega)), ?_⟩
        have tp6 : Tp (upd H4 p7 (.tup [x2, .int ((zd : Int) + 1)])) (upd (upd H4 p7 (.tup [x2, .int ((zd : Int) + 1)])) w (.lst ((qs.map (·.1) ++ [.ref p6]) ++ [.ref p7]))) := Tp.but (by rw [upd_ne nw7]; exact hl3) But.set
        refine ⟨_, rfl, _, _, rfl, rfl, _, rfl, ?_⟩
        have q1 := l.sz_pos
        have q2 := r.sz_pos
        refine ite_no (decide_eq_false (by omega)) ?_
        refine ⟨qs ++ [(.ref p6, l, zd + 1)] ++ [(.ref p7, r, zd + 1)], n, _, _, rfl, fun b o e => ?_, ?_, ?_, hn, ?_, ?_⟩
        · rw [upd_ne (ne_of_none e hw0)]
          exact (sm4.trans (Same.new hp7 _)) _ _ e
        · rw [upd_same, List.map_append, List.map_append]
          rfl
        · intro z hz'
          rcases List.mem_append.mp hz' with hz' | hz'
          · rcases List.mem_append.mp hz' with hz' | hz'
            · exact (hIq z hz').mono (((tp1.trans tp2).trans tp24).trans (tp5.trans tp6))
            · cases List.mem_singleton.mp hz'
              exact ⟨p6, x1, rfl, (tp5.trans tp6).sqT h6, ta_mono (tp5.trans tp6) (ta_mono tp24 hL), by show zd + 1 + l.dp ≤ 6; omega⟩
          · cases List.mem_singleton.mp hz'
            exact ⟨p7, x2, rfl, tp6.sqT (SqT.here upd_same), ta_mono (tp5.trans tp6) (ta_mono tp24 hR), by show zd + 1 + r.dp ≤ 6; omega⟩
        · rw [szs_snoc, szs_snoc]
          show n + ((szs qs + l.sz + r.sz : Nat) : Int) = t.sz
          omega
        · rw [nds_snoc, nds_snoc, en]
          show nds qs + l.nodes + r.nodes < nds qs + (l.nodes + r.nodes + 1)
          omega

abbrev s_check_term : Stmt := top 9
theorem sc_check_term : FnScope ["term"] ["term"] (defScope s_check_term) := ⟨rfl, rfl, rfl, by decide +kernel, rfl, by decide +kernel, by decide +kernel⟩
theorem ok_check_term {fp fi : Addr} {fpd fid : FuncData} (d : D K mg "check_term" s_check_term ["term"] f fd) (B : Blt mg) (C : Cst mg) (d_is_pair : D K mg "is_pair" s_is_pair ["part"] fp fpd) (d_is_term : D K mg "is_term" s_is_term ["term"] fi fid) : FnOk P w K mg base CX0 3 f fd ["term"] (spOkTerm K .non) := by
  have G_is_term : FnOk P w K mg base CX0 2 fi fid ["term"] (spOkTerm K (.bl true)) := ok_is_term d_is_term B C d_is_pair
  refine d.F.ok sc_check_term (fun vs H Q E h => ?_) (fun cdv A outer s H vs Q E hr h => ?_)
  · obtain ⟨_, _, rfl, _⟩ := h
    rfl
  obtain ⟨v, t, rfl, ha, hz, hd, q⟩ := h
  refine ⟨_, (pss_one (ps_if (pt_not (pt_val (pe_call G_is_term (hr.mono (by decide)) rfl d_is_term.m d_is_term.F.kp d_is_term.b .nil pass0 (pa_cons (pv 0) pa_nil)))) (pss_one ps_never) pss_nil)), ?_⟩
  exact ⟨_, rfl, v, t, rfl, ha, hz, hd, fun H' sm => ⟨true, rfl, iteF (q H' sm)⟩⟩

abbrev s_written : Stmt := top 11
theorem sc_written : FnScope ["term"] ["term"] (defScope s_written) := ⟨rfl, rfl, rfl, by decide +kernel, rfl, by decide +kernel, by decide +kernel⟩
theorem ok_written (d_written : D K mg "written" s_written ["term"] f fd) : ∀ n : Nat, FnOk P w K mg base CX0 n f fd ["term"] (spText K n)
  | 0 => fn_none spText_no
  | n + 1 => by
    have G_written := ok_written d_written n
    refine d_written.F.ok sc_written (fun vs H Q E h => ?_) (fun cdv A outer s H vs Q E hr h => ?_)
    · obtain ⟨_, _, rfl, _⟩ := h
      rfl
    obtain ⟨v, t, rfl, ha, hd, hn, hz, q⟩ := h
    refine ⟨_, (pss_cons (ps_if (pt_cmpR (op_eqD hr.units) (pv 0) (pe_tup pa_nil) (nomark _)) (pss_one (ps_ret pe_str)) pss_nil)
 (pss_one (ps_ret (pe_joined (PJ.cons pe_str (PJ.cons (pe_fmt (pe_call G_written hr rfl d_written.m d_written.F.kp d_written.b .nil pass0 (pa_cons (pe_ix ix_tup (pv 0) pe_int (fun _ _ => rfl)) pa_nil))) (PJ.cons (pe_fmt (pe_call G_written hr rfl d_written.m d_written.F.kp d_written.b .nil pass0 (pa_cons (pe_ix ix_tup (pv 0) pe_int (fun _ _ => rfl)) pa_nil))) (PJ.cons pe_str PJ.nil)))))))), ?_⟩
    refine ⟨_, rfl, zero_le', fun p hp => ⟨t.d, .tuple [], ta_mono (Tp.same (Same.new hp _)) ha, Dp.tup (SqT.here upd_same) .nil, Tree.shaped (by omega), shapedE, _, rfl, ite_eq (Tree.eqvL t) ?_⟩⟩
    have s1 := Same.new hp (.tup [])
    cases t with
    | L => exact iteT (q _ s1)
    | N l r =>
      have hd : max l.dp r.dp + 1 < n + 1 := hd
      have hz : l.sz + r.sz ≤ 1000 := hz
      have l1 := tlen (t := l) (by omega)
      have l2 := tlen (t := r) (by omega)
      have lo : (Str.ofString "(").length = 1 := rfl
      have lc : (Str.ofString ")").length = 1 := rfl
      have le : (Str.empty).length = 0 := rfl
      obtain ⟨b, x1, x2, rfl, hS, hL, hR⟩ := ta_invN (ta_mono (Tp.same s1) ha)
      refine iteF ⟨_, rfl, fits (by rw [slen]; omega), _, rfl, b, _, 0, _, rfl, rfl, hS, rfl, x1, l, rfl, hL, by omega, by omega, by omega, fun H2 s2 => .inl ⟨_, rfl, fits (by omega), _, rfl, fits (by rw [slen, slen]; omega), ?_⟩⟩
      refine ⟨_, rfl, b, _, 1, _, rfl, rfl, (Tp.same s2).sqT hS, rfl, x2, r, rfl, ta_mono (Tp.same s2) hR, by omega, by omega, by omega, fun H3 s3 => .inl ⟨_, rfl, fits (by omega), _, rfl, fits (by rw [slen, slen, slen]; omega), _, rfl, fits (by rw [slen, slen, slen, slen]; omega), ?_⟩⟩
      have q' := q H3 ((s1.trans s2).trans s3)
      have e : (((Str.empty ++ Str.ofString "(") ++ l.txt) ++ r.txt) ++ Str.ofString ")" = (Tree.N l r).txt := by
        rw [← Tree.txtN]
        rfl
      show Q (.str ((((Str.empty ++ Str.ofString "(") ++ l.txt) ++ r.txt) ++ Str.ofString ")")) H3
      rw [e]
      exact q'

abbrev s__law_format : Stmt := top 22
theorem sc__law_format : FnScope ["_law_term_here"] ["_law_term_here"] (defScope s__law_format) := ⟨rfl, rfl, rfl, by decide +kernel, rfl, by decide +kernel, by decide +kernel⟩
theorem ok__law_format (d__law_format : D K mg "_law_format" s__law_format ["_law_term_here"] f fd) : ∀ n : Nat, FnOk P w K mg base CX0 n f fd ["_law_term_here"] (spText K n)
  | 0 => fn_none spText_no
  | n + 1 => by
    have G__law_format := ok__law_format d__law_format n
    refine d__law_format.F.ok sc__law_format (fun vs H Q E h => ?_) (fun cdv A outer s H vs Q E hr h => ?_)
    · obtain ⟨_, _, rfl, _⟩ := h
      rfl
    obtain ⟨v, t, rfl, ha, hd, hn, hz, q⟩ := h
    refine ⟨_, (pss_one (ps_ret (pe_ifExp (pt_cmpR (op_eqD hr.units) (pv 0) (pe_tup pa_nil) (nomark _)) pe_str (pe_op op_add_str (pe_op op_add_str (pe_op op_add_str pe_str (pe_call G__law_format hr rfl d__law_format.m d__law_format.F.kp d__law_format.b .nil pass0 (pa_cons (pe_ix ix_tup (pv 0) pe_int (fun _ _ => rfl)) pa_nil))) (pe_call G__law_format hr rfl d__law_format.m d__law_format.F.kp d__law_format.b .nil pass0 (pa_cons (pe_ix ix_tup (pv 0) pe_int (fun _ _ => rfl)) pa_nil))) pe_str)))), ?_⟩
    refine ⟨_, rfl, zero_le', fun p hp => ⟨t.d, .tuple [], ta_mono (Tp.same (Same.new hp _)) ha, Dp.tup (SqT.here upd_same) .nil, Tree.shaped (by omega), shapedE, _, rfl, ite_eq (Tree.eqvL t) ?_⟩⟩
    have s1 := Same.new hp (.tup [])
    cases t with
    | L => exact iteT (q _ s1)
    | N l r =>
      have hd : max l.dp r.dp + 1 < n + 1 := hd
      have hz : l.sz + r.sz ≤ 1000 := hz
      have l1 := tlen (t := l) (by omega)
      have l2 := tlen (t := r) (by omega)
      have lo : (Str.ofString "(").length = 1 := rfl
      have lc : (Str.ofString ")").length = 1 := rfl
      obtain ⟨b, x1, x2, rfl, hS, hL, hR⟩ := ta_invN (ta_mono (Tp.same s1) ha)
      refine iteF ⟨_, rfl, b, _, 0, _, rfl, rfl, hS, rfl, x1, l, rfl, hL, by omega, by omega, by omega, fun H2 s2 => ⟨_, _, rfl, rfl, fits (by omega), ?_⟩⟩
      refine ⟨_, rfl, b, _, 1, _, rfl, rfl, (Tp.same s2).sqT hS, rfl, x2, r, rfl, ta_mono (Tp.same s2) hR, by omega, by omega, by omega, fun H3 s3 => ⟨_, _, rfl, rfl, fits (by rw [slen]; omega), _, _, rfl, rfl, fits (by rw [slen, slen]; omega), ?_⟩⟩
      have q' := q H3 ((s1.trans s2).trans s3)
      rw [← Tree.txtN] at q'
      exact q'

abbrev s_format_term : Stmt := top 10
theorem sc_format_term : FnScope ["term"] ["term"] (defScope s_format_term) := ⟨rfl, rfl, rfl, by decide +kernel, rfl, by decide +kernel, by decide +kernel⟩
theorem ok_format_term {fp fi fc fg : Addr} {fpd fid fcd fgd : FuncData} (d : D K mg "format_term" s_format_term ["term"] f fd) (B : Blt mg) (C : Cst mg) (d_is_pair : D K mg "is_pair" s_is_pair ["part"] fp fpd) (d_is_term : D K mg "is_term" s_is_term ["term"] fi fid)
    (d_check_term : D K mg "check_term" s_check_term ["term"] fc fcd) (d_written : D K mg "written" s_written ["term"] fg fgd) : FnOk P w K mg base CX0 8 f fd ["term"] (spOkText K) := by
  have G_check_term : FnOk P w K mg base CX0 3 fc fcd ["term"] (spOkTerm K .non) := ok_check_term d_check_term B C d_is_pair d_is_term
  have G_written : FnOk P w K mg base CX0 7 fg fgd ["term"] (spText K 7) := ok_written d_written 7
  refine d.F.ok sc_format_term (fun vs H Q E h => ?_) (fun cdv A outer s H vs Q E hr h => ?_)
  · obtain ⟨_, _, rfl, _⟩ := h
    rfl
  obtain ⟨v, t, rfl, ha, hz, hd, q⟩ := h
  refine ⟨_, (pss_cons (ps_expr (pe_call G_check_term (hr.mono (by decide)) rfl d_check_term.m d_check_term.F.kp d_check_term.b .nil pass0 (pa_cons (pv 0) pa_nil)))
 (pss_one (ps_ret (pe_call G_written (hr.mono (by decide)) rfl d_written.m d_written.F.kp d_written.b .nil pass0 (pa_cons (pv 0) pa_nil))))), ?_⟩
  exact ⟨_, rfl, v, t, rfl, ha, hz, hd, fun H1 s1 => ⟨_, rfl, v, t, rfl, ta_mono (Tp.same s1) ha, by omega, by omega, by omega, fun H2 s2 => q H2 (s1.trans s2)⟩⟩

abbrev s_has_room : Stmt := top 14
theorem sc_has_room : FnScope ["open_lists", "room"] ["open_lists"] (defScope s_has_room) := ⟨rfl, rfl, rfl, by decide +kernel, rfl, by decide +kernel, by decide +kernel⟩
theorem ok_has_room (d : D K mg "has_room" s_has_room ["open_lists"] f fd) (B : Blt mg) : FnOk P w K mg base CX0 1 f fd ["open_lists"] spRoom := by
  refine d.F.ok sc_has_room (fun vs H Q E h => ?_) (fun cdv A outer s H vs Q E hr h => ?_)
  · obtain ⟨_, _, _, _, rfl, _⟩ := h
    rfl
  obtain ⟨p, a, as, ws, rfl, hp, ha, l1, l2, q⟩ := h
  refine ⟨_, (pss_cons (ps_set (i := 1) sc_has_room.nd rfl (Or.inl rfl) (pe_ifExp (pt_cmpR op_eq (pe_callB call_len_seq (by rfl) B.len PySem.boot_len (pa_cons (pv 0) pa_nil)) pe_int (nomark _)) pe_int pe_int))
 (pss_one (ps_ret (pe_cmpR op_lt (pe_callB call_len_seq (by rfl) B.len PySem.boot_len (pa_cons (pe_ix ix_list (pv 0) (pe_un un_neg pe_int) (fun _ _ => rfl)) pa_nil)) (pv 1) (nomark _))))), ?_⟩
  have hp' : H p = some (.lst (as.map V.ref ++ [.ref a])) := by
    rw [hp, List.map_append]
    rfl
  refine ⟨_, rfl, p, _, rfl, .inl (SqL.here hp'), rfl, _, rfl, ?_⟩
  have e1 : (as.map V.ref ++ [V.ref a]).length = as.length + 1 := by simp
  refine ite2 (fun c => ?_) (fun c => ?_)
  · have c' : V.int (((as.map V.ref ++ [V.ref a]).length : Nat) : Int) = V.int 1 := of_decide_eq_true c
    have c2 : as.length = 0 := by
      have := V.int.inj c'
      omega
    rw [if_pos c2] at q
    exact ⟨_, rfl, _, rfl, p, _, _, _, rfl, rfl, SqL.here hp', atI_last _ _, a, _, rfl, .inl (SqL.here ha), _, rfl, _, _, rfl, rfl, q⟩
  · have c2 : ¬ as.length = 0 := fun z => c (decide_eq_true (by rw [e1, z]; rfl))
    rw [if_neg c2] at q
    exact ⟨_, rfl, _, rfl, p, _, _, _, rfl, rfl, SqL.here hp', atI_last _ _, a, _, rfl, .inl (SqL.here ha), _, rfl, _, _, rfl, rfl, q⟩

abbrev s_read_term : Stmt := top 13
theorem sc_read_term : FnScope ["text", "open_lists", "position", "sign", "pair"] ["text"] (defScope s_read_term) := ⟨rfl, rfl, rfl, by decide +kernel, rfl, by decide +kernel, by decide +kernel⟩
theorem pile_len {G : Hp} : ∀ {as : List Addr} {st : List (List Tree)}, Pile K G as st → as.length = st.length
  | _, _, .nil => rfl
  | _, _, .cons _ _ h => congrArg (· + 1) (pile_len h)
theorem pile_free {G : Hp} {b : Addr} (nb : G b = none) : ∀ {as : List Addr} {st : List (List Tree)}, Pile K G as st → b ∉ as
  | _, _, .nil => List.not_mem_nil
  | _, _, .cons h1 _ h3 => fun hm => by
    rcases List.mem_cons.mp hm with e | hm
    · rw [e, h1] at nb
      cases nb
    · exact pile_free nb h3 hm
theorem rev_ref (a : Addr) (as : List Addr) : (a :: as).reverse.map V.ref = as.reverse.map V.ref ++ [.ref a] := by simp
theorem ok_read_term {fr : Addr} {frd : FuncData} (d : D K mg "read_term" s_read_term ["text"] f fd) (B : Blt mg) (d_has_room : D K mg "has_room" s_has_room ["open_lists"] fr frd) : FnOk P w K mg base CX0 2 f fd ["text"] (spRead K) := by
  have G_has_room : FnOk P w K mg base CX0 1 fr frd ["open_lists"] spRoom := ok_has_room d_has_room B
  refine d.F.ok sc_read_term (fun vs H Q E h => ?_) (fun cdv A outer s H vs Q E hr h => ?_)
  · obtain ⟨_, rfl, _⟩ := h
    rfl
  obtain ⟨t, rfl, hz, q⟩ := h
  refine ⟨_, (pss_cons (ps_set (i := 1) sc_read_term.nd rfl (Or.inl rfl) (pe_lst (pa_cons (pe_lst pa_nil) pa_nil)))
 (pss_cons (ps_for PassesOwn.never rfl (pi_ES (by rfl) B.enumerate (pa_cons (pv 0) pa_nil)) (pg_tup (by rfl) (pgs_cons (pg_name (i := 2) sc_read_term.nd rfl (Or.inl rfl)) (pgs_cons (pg_name (i := 3) sc_read_term.nd rfl (Or.inl rfl)) pgs_nil)))
  (pss_one (ps_if (PW.pt (pw_and (pt_cmpR op_eq (pv 3) pe_str (nomark _)) (pw_and1 (pt_val (pe_call G_has_room (hr.mono (by decide)) rfl d_has_room.m d_has_room.F.kp d_has_room.b .nil pass0 (pa_cons (pv 1) pa_nil)))))) (pss_one (ps_expr (pe_bm PySem.F.plainAttrs_list PySem.F.slot_list_append PySem.F.type_list_append mt_append (pe_ix ix_list (pv 1) (pe_un un_neg pe_int) (fun _ _ => rfl)) (pa_cons (pe_tup pa_nil) pa_nil)))) (pss_one (ps_if (PW.pt (pw_and (pt_cmpR op_eq (pv 3) pe_str (nomark _)) (pw_and1 (pt_val (pe_call G_has_room (hr.mono (by decide)) rfl d_has_room.m d_has_room.F.kp d_has_room.b .nil pass0 (pa_cons (pv 1) pa_nil)))))) (pss_one (ps_expr (pe_bm PySem.F.plainAttrs_list PySem.F.slot_list_append PySem.F.type_list_append mt_append (pv 1) (pa_cons (pe_lst pa_nil) pa_nil)))) (pss_one (ps_if (PW.pt (pw_and (pt_cmpR op_eq (pv 3) pe_str (nomark _)) (pw_and1 (pt_cmpR op_eq (pe_callB call_len_seq (by rfl) B.len PySem.boot_len (pa_cons (pe_ix ix_list (pv 1) (pe_un un_neg pe_int) (fun _ _ => rfl)) pa_nil)) pe_int (nomark _))))) (pss_cons (ps_set (i := 4) sc_read_term.nd rfl (Or.inl rfl) (pe_callTy call_tuple_of (by rfl) B.tuple (by decide +kernel) (pa_cons (pe_bm0 PySem.F.plainAttrs_list PySem.F.slot_list_pop PySem.F.type_list_pop mt_pop (pv 1)) pa_nil)))
 (pss_one (ps_expr (pe_bm PySem.F.plainAttrs_list PySem.F.slot_list_append PySem.F.type_list_append mt_append (pe_ix ix_list (pv 1) (pe_un un_neg pe_int) (fun _ _ => rfl)) (pa_cons (pv 4) pa_nil))))) (pss_one ps_never))))))))
 (pss_cons (ps_if (pt_cmpR op_eq (pe_callB call_len_seq (by rfl) B.len PySem.boot_len (pa_cons (pe_ix ix_list (pv 1) pe_int (fun _ _ => rfl)) pa_nil)) pe_int (nomark _)) (pss_one ps_never) pss_nil)
 (pss_one (ps_ret (pe_ix ix_list (pe_ix ix_list (pv 1) pe_int (fun _ _ => rfl)) pe_int (fun _ _ => rfl))))))), ?_⟩
  refine ⟨zero_le', fun a na => ⟨one_le, fun p np => ?_⟩⟩
  have s1 := Same.new na (.lst [])
  have s2 := s1.trans (Same.new np (.lst [.ref a]))
  have npa : p ≠ a := fun e => by
    rw [e, upd_same] at np
    cases np
  have tl := tlen hz
  refine ⟨_, rfl, t.txt, rfl, for_ES (z := t.txt) (fun j σ G => ∃ (st : List (List Tree)) (x2 x3 x4 : Option V), σ = [some (.str t.txt), some (.ref p), x2, x3, x4] ∧ Same H G ∧ PileAt K H G p st ∧ st.length ≤ j + 1 ∧ (∀ l ∈ st, l.length ≤ j) ∧ rn st (t.txt.cps.toList.drop j) = some [[t]]) ?_ ?_ ?_⟩
  · refine ⟨[[]], none, none, none, rfl, s2, ⟨[a], upd_same, by simp, by simpa using npa, s1.free np, fun b hb => by rw [List.mem_singleton.mp hb]; exact na, .cons (by rw [upd_ne npa.symm, upd_same]) .nil .nil⟩, Nat.le_refl _, fun l hl => by rw [List.mem_singleton.mp hl]; exact Nat.le_refl _, ?_⟩
    show rn [[]] (t.cs.toArray.toList.drop 0) = some [[t]]
    simpa using rn_all t
  · rintro j c σ G hc ⟨st, x2, x3, x4, rfl, sm, ⟨as, hp, nd, hpa, hp0, ha0, hPg⟩, hl, hle, hrn⟩ q0 nq0
    have hj : j < t.txt.cps.size := by
      rcases Nat.lt_or_ge j t.txt.cps.size with h | h
      · exact h
      · rw [Array.getElem?_eq_none h] at hc
        cases hc
    have hj2 : j < 3000 := Nat.lt_of_lt_of_le hj tl
    have ed : t.txt.cps.toList.drop j = c :: t.txt.cps.toList.drop (j + 1) := by
      have h1 : j < t.txt.cps.toList.length := by simpa using hj
      have h2 : t.txt.cps.toList[j] = c := by
        have h3 : t.txt.cps.toList[j]? = some c := by simpa using hc
        rw [List.getElem?_eq_getElem h1] at h3
        exact Option.some.inj h3
      rw [List.drop_eq_getElem_cons h1, h2]
    rw [ed] at hrn
    refine ⟨q0, _, rfl, SqT.here upd_same, rfl, _, _, rfl, _, _, rfl, rfl, ?_⟩
    have sg := Same.new nq0 (.tup [.int (j : Nat), .str ⟨#[c]⟩])
    have sm := sm.trans sg
    have hp := sg _ _ hp
    have hPn := hPg.mono (Tp.same sg) (fun a _ o => sg a o)
    clear hPg
    generalize upd G q0 (.tup [.int (j : Nat), .str ⟨#[c]⟩]) = G1 at *
    cases hPn with
    | nil =>
      have hrn : (stp [] c).bind (fun st' => rn st' (t.txt.cps.toList.drop (j + 1))) = some [[t]] := hrn
      cases hrn
    | @cons a vs ts as rest hA hD hP =>
      rw [rev_ref] at hp
      have hrn : (stp (ts :: rest) c).bind (fun st' => rn st' (t.txt.cps.toList.drop (j + 1))) = some [[t]] := hrn
      have lv := dpAll_len hD
      rw [List.length_map] at lv
      have la := pile_len hP
      have hl : rest.length + 1 ≤ j + 1 := hl
      have hle0 := hle ts List.mem_cons_self
      have hle1 : ∀ l ∈ rest, l.length ≤ j + 1 := fun l h => Nat.le_succ_of_le (hle l (List.mem_cons_of_mem _ h))
      have nd1 := List.nodup_cons.mp nd
      have hpa1 : p ≠ a := fun e => hpa (by rw [e]; exact List.mem_cons_self)
      have hpa2 : p ∉ as := fun e => hpa (List.mem_cons_of_mem _ e)
      have hpm : G1 p = some (.lst ((as.reverse ++ [a]).map V.ref)) := by
        rw [hp, List.map_append]
        rfl
      have rm : ts.length < room ts rest → decide ((vs.length : Int) < if as.reverse.length = 0 then 1 else 2) = true := fun h => by
        unfold room at h
        rw [List.length_reverse, la, lv]
        refine decide_eq_true ?_
        by_cases h0 : rest.length = 0
        · rw [if_pos h0] at h ⊢
          omega
        · rw [if_neg h0] at h ⊢
          omega
      have r2 : ts.length < room ts rest → ts.length < 2 := fun h => by
        unfold room at h
        by_cases h0 : rest.length = 0
        · rw [if_pos h0] at h
          omega
        · rw [if_neg h0] at h
          exact h
      by_cases c1 : c = 120
      · subst c1
        rw [stp_x] at hrn
        by_cases rr : ts.length < room ts rest
        · rw [if_pos rr] at hrn
          have hrn : rn ((ts ++ [.L]) :: rest) (t.txt.cps.toList.drop (j + 1)) = some [[t]] := hrn
          refine ⟨_, rfl, rfl, _, rfl, ite_yes (by decide +kernel) ⟨_, rfl, p, a, as.reverse, vs, rfl, hpm, hA, by rw [List.length_reverse]; omega, by have := r2 rr; omega, _, rfl, ite_yes (rm rr) ?_⟩⟩
          refine ⟨_, rfl, _, rfl, p, _, _, _, rfl, rfl, SqL.here hp, atI_last _ _, .inl ⟨rfl, _, SqL.here hA⟩, zero_le', fun q2 nq2 => ?_⟩
          have sq := Same.new nq2 (.tup [])
          have naq : a ≠ q2 := ne_of_none hA nq2
          have tp : Tp G1 (upd (upd G1 q2 (.tup [])) a (.lst (vs ++ [.ref q2]))) := (Tp.same sq).trans (Tp.but (sq _ _ hA) But.set)
          refine ⟨a, _, _, rfl, rfl, sq _ _ hA, small1000 (by have := r2 rr; omega), (ts ++ [.L]) :: rest, _, _, _, rfl, fun b o e => ?_, ⟨a :: as, ?_, nd, hpa, hp0, ha0, .cons upd_same ?_ (hP.mono tp fun b hb o e => ?_)⟩, by show rest.length + 1 ≤ _; omega, ?_, hrn⟩
          · rw [upd_ne (ne_of_none e (ha0 a List.mem_cons_self))]
            exact sq _ _ (sm _ _ e)
          · rw [upd_ne hpa1, rev_ref]
            exact sq _ _ hp
          · rw [List.map_append]
            refine dpAll_snoc (dpAll_tp tp hD) (ta_leaf ?_)
            refine SqT.here ?_
            rw [upd_ne naq.symm, upd_same]
          · rw [upd_ne (fun z : b = a => nd1.1 (z ▸ hb))]
            exact sq _ _ e
          · intro l hm
            rcases List.mem_cons.mp hm with e | hm
            · rw [e, List.length_append, List.length_singleton]
              omega
            · exact hle1 l hm
        · rw [if_neg rr] at hrn
          cases hrn
      · by_cases c2 : c = 40
        · subst c2
          rw [stp_o] at hrn
          by_cases rr : ts.length < room ts rest
          · rw [if_pos rr] at hrn
            have hrn : rn ([] :: ts :: rest) (t.txt.cps.toList.drop (j + 1)) = some [[t]] := hrn
            refine ⟨_, rfl, rfl, _, rfl, ite_no (by decide +kernel) (iteF ?_)⟩
            refine ⟨_, rfl, rfl, _, rfl, ite_yes (by decide +kernel) ⟨_, rfl, p, a, as.reverse, vs, rfl, hpm, hA, by rw [List.length_reverse]; omega, by have := r2 rr; omega, _, rfl, ite_yes (rm rr) ?_⟩⟩
            refine ⟨_, rfl, .inl ⟨rfl, _, SqL.here hp⟩, zero_le', fun b nb => ?_⟩
            have sq := Same.new nb (.lst [])
            have npb : p ≠ b := ne_of_none hp nb
            have hPb : b ∉ a :: as := pile_free nb (.cons hA hD hP)
            have tp : Tp G1 (upd (upd G1 b (.lst [])) p (.lst ((as.reverse.map V.ref ++ [.ref a]) ++ [.ref b]))) := (Tp.same sq).trans (Tp.but (sq _ _ hp) But.set)
            have lr : (as.reverse.map V.ref ++ [V.ref a]).length = as.length + 1 := by simp
            refine ⟨p, _, _, rfl, rfl, sq _ _ hp, Nat.lt_of_le_of_lt (m := 4000) (by rw [lr]; omega) (by decide), [] :: ts :: rest, _, _, _, rfl, fun b o e => ?_, ⟨b :: a :: as, ?_, List.nodup_cons.mpr ⟨hPb, nd⟩, ?_, hp0, ?_, .cons ?_ .nil (Pile.mono tp (fun e he o eo => ?_) (.cons hA hD hP))⟩, by show rest.length + 1 + 1 ≤ _; omega, ?_, hrn⟩
            · rw [upd_ne (ne_of_none e hp0)]
              exact sq _ _ (sm _ _ e)
            · rw [upd_same, rev_ref b, rev_ref a]
            · intro z
              rcases List.mem_cons.mp z with z | z
              · exact npb z
              · exact hpa z
            · intro e he
              rcases List.mem_cons.mp he with z | z
              · rw [z]
                exact sm.free nb
              · exact ha0 e z
            · rw [upd_ne npb.symm, upd_same]
            · rw [upd_ne (fun z : e = p => hpa (z ▸ he))]
              exact sq _ _ eo
            · intro l hm
              rcases List.mem_cons.mp hm with e | hm
              · rw [e]
                exact Nat.zero_le _
              · exact Nat.le_succ_of_le (hle l hm)
          · rw [if_neg rr] at hrn
            cases hrn
        · by_cases c3 : c = 41
          · subst c3
            rw [stp_c] at hrn
            match ts, rest, hD, hP, hrn, lv, la, hl with
            | [t1, t2], us :: more, hD, .cons (a := a2) (vs := ws) (as := as2) hA2 hD2 hP2, hrn, lv, la, hl =>
              have hrn : rn ((us ++ [.N t1 t2]) :: more) (t.txt.cps.toList.drop (j + 1)) = some [[t]] := hrn
              obtain ⟨y1, y2, rfl, h1, h2⟩ : ∃ y1 y2, vs = [y1, y2] ∧ TA K G1 y1 t1 ∧ TA K G1 y2 t2 := by
                cases hD with
                | cons h1 h2 =>
                  cases h2 with
                  | cons h3 h4 =>
                    cases h4
                    exact ⟨_, _, rfl, h1, h3⟩
              refine ⟨_, rfl, rfl, _, rfl, ite_no (by decide +kernel) (iteF ?_)⟩
              refine ⟨_, rfl, rfl, _, rfl, ite_no (by decide +kernel) (iteF ?_)⟩
              refine ⟨_, rfl, rfl, _, rfl, ite_yes (by decide +kernel) ⟨_, rfl, _, rfl, p, _, _, _, rfl, rfl, SqL.here hp, atI_last _ _, a, _, rfl, .inl (SqL.here hA), rfl, _, rfl, ite_yes (by show decide (V.int ((2 : Nat) : Int) = V.int 2) = true; decide +kernel) ?_⟩⟩
              rw [rev_ref] at hp
              have hpm2 : (List.map V.ref as2.reverse ++ [V.ref a2] ++ [V.ref a]).dropLast = List.map V.ref as2.reverse ++ [V.ref a2] := List.dropLast_concat
              have na2 : a2 ≠ a := fun z => nd1.1 (by rw [← z]; exact List.mem_cons_self)
              have np2 : a2 ≠ p := fun z => hpa2 (by rw [← z]; exact List.mem_cons_self)
              refine ⟨_, rfl, .inl ⟨rfl, _, SqL.here hp⟩, p, _, .ref a, rfl, rfl, hp, by simp, a, [y1, y2], rfl, .inl ⟨?_, fun l nl => ?_⟩⟩
              · refine SqL.here ?_
                rw [upd_ne hpa1.symm]
                exact hA
              rw [hpm2] at nl ⊢
              have tp1 : Tp G1 (upd G1 p (.lst (List.map V.ref as2.reverse ++ [V.ref a2]))) := Tp.but hp But.set
              have sl := Same.new nl (.tup [y1, y2])
              have hp3 : (upd (upd G1 p (.lst (List.map V.ref as2.reverse ++ [V.ref a2]))) l (.tup [y1, y2])) p = some (.lst (List.map V.ref as2.reverse ++ [V.ref a2])) := sl _ _ upd_same
              have hA3 : (upd (upd G1 p (.lst (List.map V.ref as2.reverse ++ [V.ref a2]))) l (.tup [y1, y2])) a2 = some (.lst ws) := sl _ _ (by rw [upd_ne np2]; exact hA2)
              have hl3 : (upd (upd G1 p (.lst (List.map V.ref as2.reverse ++ [V.ref a2]))) l (.tup [y1, y2])) l = some (.tup [y1, y2]) := upd_same
              have tp2 : Tp G1 (upd (upd G1 p (.lst (List.map V.ref as2.reverse ++ [V.ref a2]))) l (.tup [y1, y2])) := tp1.trans (Tp.same sl)
              have sm3 : Same H (upd (upd G1 p (.lst (List.map V.ref as2.reverse ++ [V.ref a2]))) l (.tup [y1, y2])) := fun b o e => sl _ _ (by rw [upd_ne (ne_of_none e hp0)]; exact sm _ _ e)
              have kp3 : ∀ b ∈ as2, ∀ o, G1 b = some o → (upd (upd G1 p (.lst (List.map V.ref as2.reverse ++ [V.ref a2]))) l (.tup [y1, y2])) b = some o := fun b hb o e => sl _ _ (by rw [upd_ne (fun z : b = p => hpa2 (z ▸ List.mem_cons_of_mem _ hb))]; exact e)
              generalize (upd (upd G1 p (.lst (List.map V.ref as2.reverse ++ [V.ref a2]))) l (.tup [y1, y2])) = G3 at *
              have lw := dpAll_len hD2
              rw [List.length_map] at lw
              have hle2 := hle us (List.mem_cons_of_mem _ List.mem_cons_self)
              have tp4 : Tp G3 (upd G3 a2 (.lst (ws ++ [.ref l]))) := Tp.but hA3 But.set
              have nd2 := List.nodup_cons.mp nd1.2
              refine ⟨_, rfl, _, rfl, p, _, _, _, rfl, rfl, SqL.here hp3, atI_last _ _, .inl ⟨rfl, _, SqL.here hA3⟩, _, rfl, a2, _, _, rfl, rfl, hA3, Nat.lt_of_le_of_lt (m := 4000) (by omega) (by decide), (us ++ [.N t1 t2]) :: more, _, _, _, rfl, fun b o e => ?_, ⟨a2 :: as2, ?_, nd1.2, hpa2, hp0, fun b hb => ha0 b (List.mem_cons_of_mem _ hb), .cons upd_same ?_ (hP2.mono (tp2.trans tp4) fun b hb o e => ?_)⟩, ?_, ?_, hrn⟩
              · rw [upd_ne (ne_of_none e (ha0 a2 (List.mem_cons_of_mem _ List.mem_cons_self)))]
                exact sm3 _ _ e
              · rw [upd_ne np2.symm, rev_ref]
                exact hp3
              · rw [List.map_append]
                refine dpAll_snoc (dpAll_tp (tp2.trans tp4) hD2) (ta_node (tp4.sqT (SqT.here hl3)) (ta_mono (tp2.trans tp4) h1) (ta_mono (tp2.trans tp4) h2))
              · rw [upd_ne (fun z : b = a2 => nd2.1 (z ▸ hb))]
                exact kp3 b hb o e
              · have hl : more.length + 1 + 1 ≤ j + 1 := hl
                show more.length + 1 ≤ _
                omega
              · intro l' hm
                rcases List.mem_cons.mp hm with e | hm
                · rw [e, List.length_append, List.length_singleton]
                  omega
                · exact Nat.le_succ_of_le (hle l' (List.mem_cons_of_mem _ (List.mem_cons_of_mem _ hm)))
          · rw [stp_else ts rest c1 c2 c3] at hrn
            cases hrn
  · rintro σ G ⟨st, x2, x3, x4, rfl, sm, ⟨as, hp, nd, hpa, hp0, ha0, hP⟩, hl, hle, hrn⟩
    have e0 : t.txt.cps.toList.drop t.txt.cps.size = [] := List.drop_eq_nil_of_le (by simp)
    rw [e0] at hrn
    have hrn : st = [[t]] := Option.some.inj hrn
    subst hrn
    cases hP with
    | @cons a vs ts as rest hA hD hP =>
      cases hP
      cases hD with
      | cons h1 h2 =>
        cases h2
        have hp : G p = some (.lst [.ref a]) := hp
        refine ⟨_, rfl, p, _, 0, _, rfl, rfl, SqL.here hp, rfl, a, _, rfl, .inl (SqL.here hA), rfl, _, rfl, ite_no (by show decide (V.int ((1 : Nat) : Int) = V.int 0) = false; decide +kernel) ?_⟩
        exact ⟨_, rfl, p, _, 0, _, rfl, rfl, SqL.here hp, rfl, a, _, 0, _, rfl, rfl, SqL.here hA, rfl, q _ _ h1 sm⟩

abbrev s_parse_term : Stmt := top 12
theorem sc_parse_term : FnScope ["text", "term"] ["text"] (defScope s_parse_term) := ⟨rfl, rfl, rfl, by decide +kernel, rfl, by decide +kernel, by decide +kernel⟩
theorem ok_parse_term {fp fi fc fr fh : Addr} {fpd fid fcd frd fhd : FuncData} (d : D K mg "parse_term" s_parse_term ["text"] f fd) (B : Blt mg) (C : Cst mg) (d_is_pair : D K mg "is_pair" s_is_pair ["part"] fp fpd) (d_is_term : D K mg "is_term" s_is_term ["term"] fi fid)
    (d_check_term : D K mg "check_term" s_check_term ["term"] fc fcd) (d_read_term : D K mg "read_term" s_read_term ["text"] fr frd) (d_has_room : D K mg "has_room" s_has_room ["open_lists"] fh fhd) : FnOk P w K mg base CX0 4 f fd ["text"] (spParse K) := by
  have G_check_term : FnOk P w K mg base CX0 3 fc fcd ["term"] (spOkTerm K .non) := ok_check_term d_check_term B C d_is_pair d_is_term
  have G_read_term : FnOk P w K mg base CX0 2 fr frd ["text"] (spRead K) := ok_read_term d_read_term B d_has_room
  refine d.F.ok sc_parse_term (fun vs H Q E h => ?_) (fun cdv A outer s H vs Q E hr h => ?_)
  · obtain ⟨_, rfl, _⟩ := h
    rfl
  obtain ⟨t, rfl, hz, hd, q⟩ := h
  refine ⟨_, (pss_cons (ps_set (i := 1) sc_parse_term.nd rfl (Or.inl rfl) (pe_call G_read_term (hr.mono (by decide)) rfl d_read_term.m d_read_term.F.kp d_read_term.b .nil pass0 (pa_cons (pv 0) pa_nil)))
 (pss_cons (ps_expr (pe_call G_check_term (hr.mono (by decide)) rfl d_check_term.m d_check_term.F.kp d_check_term.b .nil pass0 (pa_cons (pv 1) pa_nil)))
 (pss_one (ps_ret (pv 1))))), ?_⟩
  exact ⟨_, rfl, t, rfl, by omega, fun v H1 a1 s1 => ⟨_, rfl, v, t, rfl, a1, hz, hd, fun H2 s2 => ⟨_, rfl, q v H2 (ta_mono (Tp.same s2) a1) (s1.trans s2)⟩⟩⟩

abbrev s_law : Stmt := top 23
theorem sc_law : FnScope ["_law_script", "_law_rng", "_law_turn", "_law_term_here", "_law_text"] ["_law_script"] (defScope s_law) := ⟨rfl, rfl, rfl, by decide +kernel, rfl, by decide +kernel, by decide +kernel⟩
theorem d_wide : ∀ t : Tree, wide t.d = true
  | .L => rfl
  | .N l r => by
    show (decide (2 ≤ 1000) && (wide l.d && (wide r.d && true))) = true
    rw [d_wide l, d_wide r]
    rfl
theorem ok_law {f1 f2 f3 f4 f5 f6 f7 f8 f9 f10 f11 f12 f13 f14 f15 : Addr} {e1 e2 e3 e4 e5 e6 e7 e8 e9 e10 e11 e12 e13 e14 e15 : FuncData} (d : D K mg "law" s_law ["_law_script"] f fd) (B : Blt mg) (C : Cst mg)
    (d__law_draws : D K mg "_law_draws" s__law_draws ["_law_script"] f1 e1) (d__law_draw : D K mg "_law_draw" s__law_draw ["_law_rng", "_law_amount"] f2 e2) (d__law_same : D K mg "_law_same" s__law_same ["_law_result", "_law_expected"] f3 e3)
    (d__law_term : D K mg "_law_term" s__law_term ["_law_rng", "_law_many", "_law_cap"] f4 e4) (d__law_comb : D K mg "_law_comb" s__law_comb ["_law_many", "_law_onleft"] f5 e5) (d__law_any_term : D K mg "_law_any_term" s__law_any_term ["_law_rng", "_law_top"] f6 e6)
    (d__law_format : D K mg "_law_format" s__law_format ["_law_term_here"] f7 e7)
    (d_is_term : D K mg "is_term" s_is_term ["term"] f9 e9) (d_is_pair : D K mg "is_pair" s_is_pair ["part"] f10 e10) (d_check_term : D K mg "check_term" s_check_term ["term"] f11 e11) (d_format_term : D K mg "format_term" s_format_term ["term"] f12 e12)
    (d_written : D K mg "written" s_written ["term"] f13 e13) (d_parse_term : D K mg "parse_term" s_parse_term ["text"] f14 e14) (d_read_term : D K mg "read_term" s_read_term ["text"] f15 e15) (d_has_room : D K mg "has_room" s_has_room ["open_lists"] f8 e8) :
    FnOk P w K mg base CX0 14 f fd ["_law_script"] (spLaw K) := by
  have G__law_draws : FnOk P w K mg base CX0 1 f1 e1 ["_law_script"] (spDraws K) := ok__law_draws d__law_draws B
  have G__law_any_term : FnOk P w K mg base CX0 9 f6 e6 ["_law_rng", "_law_top"] (spAny K) := ok__law_any_term d__law_any_term B d__law_draw d__law_comb d__law_term
  have G__law_same : FnOk P w K mg base CX0 12 f3 e3 ["_law_result", "_law_expected"] (spSame K 12) := ok__law_same d__law_same B 12
  have G__law_format : FnOk P w K mg base CX0 7 f7 e7 ["_law_term_here"] (spText K 7) := ok__law_format d__law_format 7
  have G_format_term : FnOk P w K mg base CX0 8 f12 e12 ["term"] (spOkText K) := ok_format_term d_format_term B C d_is_pair d_is_term d_check_term d_written
  have G_parse_term : FnOk P w K mg base CX0 4 f14 e14 ["text"] (spParse K) := ok_parse_term d_parse_term B C d_is_pair d_is_term d_check_term d_read_term d_has_room
  refine d.F.ok sc_law (fun vs H Q E h => ?_) (fun cdv A outer s H vs Q E hr h => ?_)
  · obtain ⟨_, _, rfl, _⟩ := h
    rfl
  obtain ⟨a, ns, rfl, hS, q⟩ := h
  refine ⟨_, (pss_cons (ps_set (i := 1) sc_law.nd rfl (Or.inl rfl) (pe_call G__law_draws (hr.mono (by decide)) rfl d__law_draws.m d__law_draws.F.kp d__law_draws.b .nil pass0 (pa_cons (pv 0) pa_nil)))
 (pss_cons (ps_for PassesOwn.never rfl (pi_range1 (by rfl) B.range (pa_cons pe_int pa_nil)) (pg_name (i := 2) sc_law.nd rfl (Or.inl rfl))
  (pss_cons (ps_set (i := 3) sc_law.nd rfl (Or.inl rfl) (pe_call G__law_any_term (hr.mono (by decide)) rfl d__law_any_term.m d__law_any_term.F.kp d__law_any_term.b .nil pass0 (pa_cons (pv 1) (pa_cons pe_int pa_nil))))
 (pss_cons (ps_set (i := 4) sc_law.nd rfl (Or.inl rfl) (pe_call G_format_term (hr.mono (by decide)) rfl d_format_term.m d_format_term.F.kp d_format_term.b .nil pass0 (pa_cons (pv 3) pa_nil)))
 (pss_one (ps_if (PW.pt (pw_or (pt_not (pt_val (pe_call G__law_same (hr.mono (by decide)) rfl d__law_same.m d__law_same.F.kp d__law_same.b .nil pass0 (pa_cons (pv 4) (pa_cons (pe_call G__law_format (hr.mono (by decide)) rfl d__law_format.m d__law_format.F.kp d__law_format.b .nil pass0 (pa_cons (pv 3) pa_nil)) pa_nil))))) (pw_or1 (pt_not (pt_val (pe_call G__law_same (hr.mono (by decide)) rfl d__law_same.m d__law_same.F.kp d__law_same.b .nil pass0 (pa_cons (pe_call G_parse_term (hr.mono (by decide)) rfl d_parse_term.m d_parse_term.F.kp d_parse_term.b .nil pass0 (pa_cons (pv 4) pa_nil)) (pa_cons (pv 3) pa_nil)))))))) (pss_one (ps_ret pe_bl)) pss_nil)))))
 (pss_one (ps_ret (pe_and (pe_cmpR (op_eqD hr.units) (pe_call G_parse_term (hr.mono (by decide)) rfl d_parse_term.m d_parse_term.F.kp d_parse_term.b .nil pass0 (pa_cons pe_str pa_nil)) (pe_tup pa_nil) (nomark _)) (pe_one (pe_cmpR op_eq (pe_call G_format_term (hr.mono (by decide)) rfl d_format_term.m d_format_term.F.kp d_format_term.b .nil pass0 (pa_cons (pe_tup pa_nil) pa_nil)) pe_str (nomark _)))))))), ?_⟩
  refine ⟨_, rfl, a, ns, rfl, hS, fun r H1 s1 _ R1 => ?_⟩
  refine ⟨8, rfl, by decide, by decide, for_range (lo := 0) (n := 8) (fun i σ H' => ∃ (x2 x3 x4 : Option V), σ = [some (.ref a), some (.ref r), x2, x3, x4] ∧ Rng H' r) ⟨none, none, none, rfl, R1⟩ ?_ ?_⟩
  · rintro i σ H' hi ⟨x2, x3, x4, rfl, R⟩
    refine ⟨_, rfl, r, 12, rfl, by decide, by decide, R, fun v t H2 a2 z2 d2 R2 b2 => ?_⟩
    have z2 : t.sz ≤ 12 := by omega
    have tl := tlen (t := t) (by omega)
    have hso : PyData.strOk t.txt = true := txt_ok t
    refine ⟨_, rfl, v, t, rfl, a2, z2, d2, fun H3 s3 => ?_⟩
    refine ⟨_, rfl, _, rfl, v, t, rfl, ta_mono (Tp.same s3) a2, by omega, by decide, by omega, fun H4 s4 => ?_⟩
    refine ⟨_, _, .str t.txt, rfl, .str _, .str _, ?_, by show 0 < 12; decide, rfl, fun H5 s5 => ⟨true, rfl, iteF ?_⟩⟩
    · unfold SeqAt.shaped
      rw [show (PyData.str t.txt).canLay0 = PyData.strOk t.txt from rfl, hso]
      rfl
    refine ⟨_, rfl, t, rfl, z2, d2, fun v2 H6 a6 s6 => ⟨_, rfl, _, _, t.d, rfl, a6, ta_mono (Tp.same (((s3.trans s4).trans s5).trans s6)) a2, Tree.shaped (by omega), by rw [t.d_depth]; omega, d_wide t, fun H7 s7 => ⟨true, rfl, iteF ?_⟩⟩⟩
    exact ⟨_, _, _, rfl, R2.same ((((s3.trans s4).trans s5).trans s6).trans s7)⟩
  · rintro σ H' ⟨x2, x3, x4, rfl, R⟩
    refine ⟨.L, rfl, by decide, by decide, fun v H2 a2 s2 => ⟨zero_le', fun p hp => ⟨Tree.L.d, .tuple [], ta_mono (Tp.same (Same.new hp _)) a2, Dp.tup (SqT.here upd_same) .nil, by decide +kernel, shapedE, true, rfl, iteT ?_⟩⟩⟩
    refine ⟨zero_le', fun p2 hp2 => ⟨.ref p2, .L, rfl, ta_leaf (SqT.here upd_same), by decide, by decide, fun H3 s3 => ⟨rfl, ?_⟩⟩⟩
    exact q H3

end
theorem all_mk {l : PySem.W.OpenLaw} {w : World} {K : PySem.W.Frag} {h : Heap} {mg : Str → Option Value} {fa : Addr} (X : K.In h) (G : h.Ns mainGlobals mg) (hfa : mg "law" = some (.ref fa))
    {g0 g1 g2 g3 g4 g5 g6 g7 g8 g9 g10 g11 g12 g13 g14 g15 : Addr}
    {od0 an0 od1 an1 od2 an2 od3 an3 od4 an4 od5 an5 od6 an6 od7 an7 od8 an8 od9 an9 od10 an10 od11 an11 od12 an12 od13 an13 od14 an14 od15 an15 : Option Addr}
    {sl0 sl1 sl2 sl3 sl4 sl5 sl6 sl7 sl8 sl9 sl10 sl11 sl12 sl13 sl14 sl15 : Array (Option Value)}
    {oc0 kV0 dc0 pm0 cd0 ct0 oc1 kV1 dc1 pm1 cd1 ct1 oc2 kV2 dc2 pm2 cd2 ct2 oc3 kV3 dc3 pm3 cd3 ct3 oc4 kV4 dc4 pm4 cd4 ct4 oc5 kV5 dc5 pm5 cd5 ct5 oc6 kV6 dc6 pm6 cd6 ct6 oc7 kV7 dc7 pm7 cd7 ct7 oc8 kV8 dc8 pm8 cd8 ct8 oc9 kV9 dc9 pm9 cd9 ct9 oc10 kV10 dc10 pm10 cd10 ct10 oc11 kV11 dc11 pm11 cd11 ct11 oc12 kV12 dc12 pm12 cd12 ct12 oc13 kV13 dc13 pm13 cd13 ct13 oc14 kV14 dc14 pm14 cd14 ct14 oc15 kV15 dc15 pm15 cd15 ct15 : Value}
    {t_MAX_SIZE : Tok}
    {t_MAX_DEPTH : Tok}
    (a0 : PySem.W.nsIn K mainGlobals "_law_draws" = some (some (.ref g0))) (l0 : K.lookup g0 = some ⟨oc0, od0, .func (PySem.W.fnOf "_law_draws" "_law_draws" (defArgs s__law_draws) (defBody s__law_draws) (defScope s__law_draws) .none kV0 dc0 pm0 an0 cd0 ct0), sl0⟩) (c0 : PySem.W.codeIn K cd0 "_law_draws" = true) (k0 : PySem.W.keepIn K (.ref g0) = true)
    (a1 : PySem.W.nsIn K mainGlobals "_law_draw" = some (some (.ref g1))) (l1 : K.lookup g1 = some ⟨oc1, od1, .func (PySem.W.fnOf "_law_draw" "_law_draw" (defArgs s__law_draw) (defBody s__law_draw) (defScope s__law_draw) .none kV1 dc1 pm1 an1 cd1 ct1), sl1⟩) (c1 : PySem.W.codeIn K cd1 "_law_draw" = true) (k1 : PySem.W.keepIn K (.ref g1) = true)
    (a2 : PySem.W.nsIn K mainGlobals "_law_comb" = some (some (.ref g2))) (l2 : K.lookup g2 = some ⟨oc2, od2, .func (PySem.W.fnOf "_law_comb" "_law_comb" (defArgs s__law_comb) (defBody s__law_comb) (defScope s__law_comb) .none kV2 dc2 pm2 an2 cd2 ct2), sl2⟩) (c2 : PySem.W.codeIn K cd2 "_law_comb" = true) (k2 : PySem.W.keepIn K (.ref g2) = true)
    (a3 : PySem.W.nsIn K mainGlobals "is_pair" = some (some (.ref g3))) (l3 : K.lookup g3 = some ⟨oc3, od3, .func (PySem.W.fnOf "is_pair" "is_pair" (defArgs s_is_pair) (defBody s_is_pair) (defScope s_is_pair) .none kV3 dc3 pm3 an3 cd3 ct3), sl3⟩) (c3 : PySem.W.codeIn K cd3 "is_pair" = true) (k3 : PySem.W.keepIn K (.ref g3) = true)
    (a4 : PySem.W.nsIn K mainGlobals "_law_same" = some (some (.ref g4))) (l4 : K.lookup g4 = some ⟨oc4, od4, .func (PySem.W.fnOf "_law_same" "_law_same" (defArgs s__law_same) (defBody s__law_same) (defScope s__law_same) .none kV4 dc4 pm4 an4 cd4 ct4), sl4⟩) (c4 : PySem.W.codeIn K cd4 "_law_same" = true) (k4 : PySem.W.keepIn K (.ref g4) = true)
    (a5 : PySem.W.nsIn K mainGlobals "_law_term" = some (some (.ref g5))) (l5 : K.lookup g5 = some ⟨oc5, od5, .func (PySem.W.fnOf "_law_term" "_law_term" (defArgs s__law_term) (defBody s__law_term) (defScope s__law_term) .none kV5 dc5 pm5 an5 cd5 ct5), sl5⟩) (c5 : PySem.W.codeIn K cd5 "_law_term" = true) (k5 : PySem.W.keepIn K (.ref g5) = true)
    (a6 : PySem.W.nsIn K mainGlobals "_law_any_term" = some (some (.ref g6))) (l6 : K.lookup g6 = some ⟨oc6, od6, .func (PySem.W.fnOf "_law_any_term" "_law_any_term" (defArgs s__law_any_term) (defBody s__law_any_term) (defScope s__law_any_term) .none kV6 dc6 pm6 an6 cd6 ct6), sl6⟩) (c6 : PySem.W.codeIn K cd6 "_law_any_term" = true) (k6 : PySem.W.keepIn K (.ref g6) = true)
    (a7 : PySem.W.nsIn K mainGlobals "is_term" = some (some (.ref g7))) (l7 : K.lookup g7 = some ⟨oc7, od7, .func (PySem.W.fnOf "is_term" "is_term" (defArgs s_is_term) (defBody s_is_term) (defScope s_is_term) .none kV7 dc7 pm7 an7 cd7 ct7), sl7⟩) (c7 : PySem.W.codeIn K cd7 "is_term" = true) (k7 : PySem.W.keepIn K (.ref g7) = true)
    (a8 : PySem.W.nsIn K mainGlobals "check_term" = some (some (.ref g8))) (l8 : K.lookup g8 = some ⟨oc8, od8, .func (PySem.W.fnOf "check_term" "check_term" (defArgs s_check_term) (defBody s_check_term) (defScope s_check_term) .none kV8 dc8 pm8 an8 cd8 ct8), sl8⟩) (c8 : PySem.W.codeIn K cd8 "check_term" = true) (k8 : PySem.W.keepIn K (.ref g8) = true)
    (a9 : PySem.W.nsIn K mainGlobals "written" = some (some (.ref g9))) (l9 : K.lookup g9 = some ⟨oc9, od9, .func (PySem.W.fnOf "written" "written" (defArgs s_written) (defBody s_written) (defScope s_written) .none kV9 dc9 pm9 an9 cd9 ct9), sl9⟩) (c9 : PySem.W.codeIn K cd9 "written" = true) (k9 : PySem.W.keepIn K (.ref g9) = true)
    (a10 : PySem.W.nsIn K mainGlobals "_law_format" = some (some (.ref g10))) (l10 : K.lookup g10 = some ⟨oc10, od10, .func (PySem.W.fnOf "_law_format" "_law_format" (defArgs s__law_format) (defBody s__law_format) (defScope s__law_format) .none kV10 dc10 pm10 an10 cd10 ct10), sl10⟩) (c10 : PySem.W.codeIn K cd10 "_law_format" = true) (k10 : PySem.W.keepIn K (.ref g10) = true)
    (a11 : PySem.W.nsIn K mainGlobals "format_term" = some (some (.ref g11))) (l11 : K.lookup g11 = some ⟨oc11, od11, .func (PySem.W.fnOf "format_term" "format_term" (defArgs s_format_term) (defBody s_format_term) (defScope s_format_term) .none kV11 dc11 pm11 an11 cd11 ct11), sl11⟩) (c11 : PySem.W.codeIn K cd11 "format_term" = true) (k11 : PySem.W.keepIn K (.ref g11) = true)
    (a12 : PySem.W.nsIn K mainGlobals "has_room" = some (some (.ref g12))) (l12 : K.lookup g12 = some ⟨oc12, od12, .func (PySem.W.fnOf "has_room" "has_room" (defArgs s_has_room) (defBody s_has_room) (defScope s_has_room) .none kV12 dc12 pm12 an12 cd12 ct12), sl12⟩) (c12 : PySem.W.codeIn K cd12 "has_room" = true) (k12 : PySem.W.keepIn K (.ref g12) = true)
    (a13 : PySem.W.nsIn K mainGlobals "read_term" = some (some (.ref g13))) (l13 : K.lookup g13 = some ⟨oc13, od13, .func (PySem.W.fnOf "read_term" "read_term" (defArgs s_read_term) (defBody s_read_term) (defScope s_read_term) .none kV13 dc13 pm13 an13 cd13 ct13), sl13⟩) (c13 : PySem.W.codeIn K cd13 "read_term" = true) (k13 : PySem.W.keepIn K (.ref g13) = true)
    (a14 : PySem.W.nsIn K mainGlobals "parse_term" = some (some (.ref g14))) (l14 : K.lookup g14 = some ⟨oc14, od14, .func (PySem.W.fnOf "parse_term" "parse_term" (defArgs s_parse_term) (defBody s_parse_term) (defScope s_parse_term) .none kV14 dc14 pm14 an14 cd14 ct14), sl14⟩) (c14 : PySem.W.codeIn K cd14 "parse_term" = true) (k14 : PySem.W.keepIn K (.ref g14) = true)
    (a15 : PySem.W.nsIn K mainGlobals "law" = some (some (.ref g15))) (l15 : K.lookup g15 = some ⟨oc15, od15, .func (PySem.W.fnOf "law" "law" (defArgs s_law) (defBody s_law) (defScope s_law) .none kV15 dc15 pm15 an15 cd15 ct15), sl15⟩) (c15 : PySem.W.codeIn K cd15 "law" = true) (k15 : PySem.W.keepIn K (.ref g15) = true)
    (z_len : PySem.W.nsIn K mainGlobals "len" = some none)
    (z_list : PySem.W.nsIn K mainGlobals "list" = some none)
    (z_tuple : PySem.W.nsIn K mainGlobals "tuple" = some none)
    (z_dict : PySem.W.nsIn K mainGlobals "dict" = some none)
    (z_bool : PySem.W.nsIn K mainGlobals "bool" = some none)
    (z_isinstance : PySem.W.nsIn K mainGlobals "isinstance" = some none)
    (z_max : PySem.W.nsIn K mainGlobals "max" = some none)
    (z_min : PySem.W.nsIn K mainGlobals "min" = some none)
    (z_range : PySem.W.nsIn K mainGlobals "range" = some none)
    (z_all : PySem.W.nsIn K mainGlobals "all" = some none)
    (z_sorted : PySem.W.nsIn K mainGlobals "sorted" = some none)
    (z_enumerate : PySem.W.nsIn K mainGlobals "enumerate" = some none)
    (z_sum : PySem.W.nsIn K mainGlobals "sum" = some none)
    (z_str : PySem.W.nsIn K mainGlobals "str" = some none)
    (z_int : PySem.W.nsIn K mainGlobals "int" = some none)
    (q_MAX_SIZE : PySem.W.nsIn K mainGlobals "MAX_SIZE" = some (some (.int 12 t_MAX_SIZE)))
    (q_MAX_DEPTH : PySem.W.nsIn K mainGlobals "MAX_DEPTH" = some (some (.int 6 t_MAX_DEPTH))) :
    ∃ fd : FuncData, (∀ (s : Shared) (v : Value), BindsTo s fd ⟨[v], []⟩ [("_law_script", v)]) ∧ ∀ base : Heap, K.In base → base.Ns mainGlobals mg → FnOk l.prog w K mg base CX0 14 fa fd ["_law_script"] (spLaw K) := by
  have e := hfa.symm.trans (PySem.W.mg_of X G a15)
  cases e
  have F0 := fun_mk (st := s__law_draws) l0 c0 k0
  have d__law_draws : D K mg "_law_draws" s__law_draws ["_law_script"] _ _ := ⟨F0, F0.binds (ps := ["_law_script"]) fun _ _ _ _ _ _ us hl => match us, hl with | [_], _ => rfl, PySem.W.mg_of X G a0⟩
  have F1 := fun_mk (st := s__law_draw) l1 c1 k1
  have d__law_draw : D K mg "_law_draw" s__law_draw ["_law_rng", "_law_amount"] _ _ := ⟨F1, F1.binds (ps := ["_law_rng", "_law_amount"]) fun _ _ _ _ _ _ us hl => match us, hl with | [_, _], _ => rfl, PySem.W.mg_of X G a1⟩
  have F2 := fun_mk (st := s__law_comb) l2 c2 k2
  have d__law_comb : D K mg "_law_comb" s__law_comb ["_law_many", "_law_onleft"] _ _ := ⟨F2, F2.binds (ps := ["_law_many", "_law_onleft"]) fun _ _ _ _ _ _ us hl => match us, hl with | [_, _], _ => rfl, PySem.W.mg_of X G a2⟩
  have F3 := fun_mk (st := s_is_pair) l3 c3 k3
  have d_is_pair : D K mg "is_pair" s_is_pair ["part"] _ _ := ⟨F3, F3.binds (ps := ["part"]) fun _ _ _ _ _ _ us hl => match us, hl with | [_], _ => rfl, PySem.W.mg_of X G a3⟩
  have F4 := fun_mk (st := s__law_same) l4 c4 k4
  have d__law_same : D K mg "_law_same" s__law_same ["_law_result", "_law_expected"] _ _ := ⟨F4, F4.binds (ps := ["_law_result", "_law_expected"]) fun _ _ _ _ _ _ us hl => match us, hl with | [_, _], _ => rfl, PySem.W.mg_of X G a4⟩
  have F5 := fun_mk (st := s__law_term) l5 c5 k5
  have d__law_term : D K mg "_law_term" s__law_term ["_law_rng", "_law_many", "_law_cap"] _ _ := ⟨F5, F5.binds (ps := ["_law_rng", "_law_many", "_law_cap"]) fun _ _ _ _ _ _ us hl => match us, hl with | [_, _, _], _ => rfl, PySem.W.mg_of X G a5⟩
  have F6 := fun_mk (st := s__law_any_term) l6 c6 k6
  have d__law_any_term : D K mg "_law_any_term" s__law_any_term ["_law_rng", "_law_top"] _ _ := ⟨F6, F6.binds (ps := ["_law_rng", "_law_top"]) fun _ _ _ _ _ _ us hl => match us, hl with | [_, _], _ => rfl, PySem.W.mg_of X G a6⟩
  have F7 := fun_mk (st := s_is_term) l7 c7 k7
  have d_is_term : D K mg "is_term" s_is_term ["term"] _ _ := ⟨F7, F7.binds (ps := ["term"]) fun _ _ _ _ _ _ us hl => match us, hl with | [_], _ => rfl, PySem.W.mg_of X G a7⟩
  have F8 := fun_mk (st := s_check_term) l8 c8 k8
  have d_check_term : D K mg "check_term" s_check_term ["term"] _ _ := ⟨F8, F8.binds (ps := ["term"]) fun _ _ _ _ _ _ us hl => match us, hl with | [_], _ => rfl, PySem.W.mg_of X G a8⟩
  have F9 := fun_mk (st := s_written) l9 c9 k9
  have d_written : D K mg "written" s_written ["term"] _ _ := ⟨F9, F9.binds (ps := ["term"]) fun _ _ _ _ _ _ us hl => match us, hl with | [_], _ => rfl, PySem.W.mg_of X G a9⟩
  have F10 := fun_mk (st := s__law_format) l10 c10 k10
  have d__law_format : D K mg "_law_format" s__law_format ["_law_term_here"] _ _ := ⟨F10, F10.binds (ps := ["_law_term_here"]) fun _ _ _ _ _ _ us hl => match us, hl with | [_], _ => rfl, PySem.W.mg_of X G a10⟩
  have F11 := fun_mk (st := s_format_term) l11 c11 k11
  have d_format_term : D K mg "format_term" s_format_term ["term"] _ _ := ⟨F11, F11.binds (ps := ["term"]) fun _ _ _ _ _ _ us hl => match us, hl with | [_], _ => rfl, PySem.W.mg_of X G a11⟩
  have F12 := fun_mk (st := s_has_room) l12 c12 k12
  have d_has_room : D K mg "has_room" s_has_room ["open_lists"] _ _ := ⟨F12, F12.binds (ps := ["open_lists"]) fun _ _ _ _ _ _ us hl => match us, hl with | [_], _ => rfl, PySem.W.mg_of X G a12⟩
  have F13 := fun_mk (st := s_read_term) l13 c13 k13
  have d_read_term : D K mg "read_term" s_read_term ["text"] _ _ := ⟨F13, F13.binds (ps := ["text"]) fun _ _ _ _ _ _ us hl => match us, hl with | [_], _ => rfl, PySem.W.mg_of X G a13⟩
  have F14 := fun_mk (st := s_parse_term) l14 c14 k14
  have d_parse_term : D K mg "parse_term" s_parse_term ["text"] _ _ := ⟨F14, F14.binds (ps := ["text"]) fun _ _ _ _ _ _ us hl => match us, hl with | [_], _ => rfl, PySem.W.mg_of X G a14⟩
  have F15 := fun_mk (st := s_law) l15 c15 k15
  have d_law : D K mg "law" s_law ["_law_script"] _ _ := ⟨F15, F15.binds (ps := ["_law_script"]) fun _ _ _ _ _ _ us hl => match us, hl with | [_], _ => rfl, PySem.W.mg_of X G a15⟩
  have B : Blt mg := ⟨PySem.W.mg_none_of X G z_len, PySem.W.mg_none_of X G z_list, PySem.W.mg_none_of X G z_tuple, PySem.W.mg_none_of X G z_dict, PySem.W.mg_none_of X G z_bool, PySem.W.mg_none_of X G z_isinstance, PySem.W.mg_none_of X G z_max, PySem.W.mg_none_of X G z_min, PySem.W.mg_none_of X G z_range, PySem.W.mg_none_of X G z_all, PySem.W.mg_none_of X G z_sorted, PySem.W.mg_none_of X G z_enumerate, PySem.W.mg_none_of X G z_sum, PySem.W.mg_none_of X G z_str, PySem.W.mg_none_of X G z_int⟩
  have C : Cst mg := ⟨⟨_, PySem.W.mg_of X G q_MAX_SIZE⟩, ⟨_, PySem.W.mg_of X G q_MAX_DEPTH⟩⟩
  exact ⟨PySem.W.fnOf "law" "law" (defArgs s_law) (defBody s_law) (defScope s_law) .none kV15 dc15 pm15 an15 cd15 ct15, fun s v => .of_eq rfl, fun base _ _ => ok_law d_law B C d__law_draws d__law_draw d__law_same d__law_term d__law_comb d__law_any_term d__law_format d_is_term d_is_pair d_check_term d_format_term d_written d_parse_term d_read_term d_has_room⟩
theorem walk {l : PySem.W.OpenLaw} {q : Program} {loose : List Str} {XP : (Str → Option Value) → Heap → Prop} {YP : World → Heap → Prop} {d : DefRec} {K : Params → PySem.W.Frag} (hn : l.most = some 63) (hdf : d.params.defaults = [])
    (hY : ∀ (w : World) (h : Heap), YP w h → (K w.params).In h)
    (F : ∀ (w : World) (mg : Str → Option Value) (fa : Addr) (h : Heap), (K w.params).In h → h.Ns mainGlobals mg → mg d.name = some (.ref fa) →
      ∃ fd : FuncData, (∀ (s : Shared) (u : Value), BindsTo s fd ⟨[u], []⟩ [("_law_script", u)]) ∧ ∀ base : Heap, (K w.params).In base → base.Ns mainGlobals mg → FnOk l.prog w (K w.params) mg base CX0 14 fa fd ["_law_script"] (spLaw (K w.params))) :
    PySem.W.WalkO q loose XP YP l.row.toRowW d [] (fun f vs => PySem.call f vs) :=
  L2.walk_of (n := 63) (k := 14) (x := "_law_script") (CX := fun _ => CX0) (sp := fun w => spLaw (K w.params)) hn (by decide) hdf ⟨rfl, by decide, by decide⟩ hY F (fun _ _ a ns hl _ hS => ⟨a, ns, rfl, hS, fun _ => rfl⟩) fun _ _ _ _ _ z => z
end U
open PySem PySem.W PyProof.Rows
set_option maxRecDepth 100000 in
set_option maxHeartbeats 0 in
theorem PySem.Challenge.cw_uponboth_k01_term_text_holds : PySem.Challenge.rw_uponboth_k01_term_text.Holds := by
  w_on; o_law; k_head; (case hw => w_witness2)
  k_fill
  refine U.walk (l := PySem.Challenge.rw_uponboth_k01_term_text) rfl rfl (fun w h Y => PySem.W.kIn_of Y) ?F
  case F =>
    intro w mg fa h KX G hmg
    refine' U.all_mk KX G hmg ?a0 ?l0 ?c0 ?k0 ?a1 ?l1 ?c1 ?k1 ?a2 ?l2 ?c2 ?k2 ?a3 ?l3 ?c3 ?k3 ?a4 ?l4 ?c4 ?k4 ?a5 ?l5 ?c5 ?k5 ?a6 ?l6 ?c6 ?k6 ?a7 ?l7 ?c7 ?k7 ?a8 ?l8 ?c8 ?k8 ?a9 ?l9 ?c9 ?k9 ?a10 ?l10 ?c10 ?k10 ?a11 ?l11 ?c11 ?k11 ?a12 ?l12 ?c12 ?k12 ?a13 ?l13 ?c13 ?k13 ?a14 ?l14 ?c14 ?k14 ?a15 ?l15 ?c15 ?k15 ?z_len ?z_list ?z_tuple ?z_dict ?z_bool ?z_isinstance ?z_max ?z_min ?z_range ?z_all ?z_sorted ?z_enumerate ?z_sum ?z_str ?z_int ?q_MAX_SIZE ?q_MAX_DEPTH
    (case a0 => k_is)
    (case l0 => k_is)
    (case c0 => k_is)
    (case k0 => k_is)
    (case a1 => k_is)
    (case l1 => k_is)
    (case c1 => k_is)
    (case k1 => k_is)
    (case a2 => k_is)
    (case l2 => k_is)
    (case c2 => k_is)
    (case k2 => k_is)
    (case a3 => k_is)
    (case l3 => k_is)
    (case c3 => k_is)
    (case k3 => k_is)
    (case a4 => k_is)
    (case l4 => k_is)
    (case c4 => k_is)
    (case k4 => k_is)
    (case a5 => k_is)
    (case l5 => k_is)
    (case c5 => k_is)
    (case k5 => k_is)
    (case a6 => k_is)
    (case l6 => k_is)
    (case c6 => k_is)
    (case k6 => k_is)
    (case a7 => k_is)
    (case l7 => k_is)
    (case c7 => k_is)
    (case k7 => k_is)
    (case a8 => k_is)
    (case l8 => k_is)
    (case c8 => k_is)
    (case k8 => k_is)
    (case a9 => k_is)
    (case l9 => k_is)
    (case c9 => k_is)
    (case k9 => k_is)
    (case a10 => k_is)
    (case l10 => k_is)
    (case c10 => k_is)
    (case k10 => k_is)
    (case a11 => k_is)
    (case l11 => k_is)
    (case c11 => k_is)
    (case k11 => k_is)
    (case a12 => k_is)
    (case l12 => k_is)
    (case c12 => k_is)
    (case k12 => k_is)
    (case a13 => k_is)
    (case l13 => k_is)
    (case c13 => k_is)
    (case k13 => k_is)
    (case a14 => k_is)
    (case l14 => k_is)
    (case c14 => k_is)
    (case k14 => k_is)
    (case a15 => k_is)
    (case l15 => k_is)
    (case c15 => k_is)
    (case k15 => k_is)
    (case z_len => k_is)
    (case z_list => k_is)
    (case z_tuple => k_is)
    (case z_dict => k_is)
    (case z_bool => k_is)
    (case z_isinstance => k_is)
    (case z_max => k_is)
    (case z_min => k_is)
    (case z_range => k_is)
    (case z_all => k_is)
    (case z_sorted => k_is)
    (case z_enumerate => k_is)
    (case z_sum => k_is)
    (case z_str => k_is)
    (case z_int => k_is)
    (case q_MAX_SIZE => k_is)
    (case q_MAX_DEPTH => k_is)
