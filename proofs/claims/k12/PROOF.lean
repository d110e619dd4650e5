import PyProof.Rows.All
import Wide.All
import OpenK.AllK
import Wide.FinOn
import HandS.ForMost
import HandS.ForExc
import HandS.FStr
import HandS.IsInst
import HandS.Codes
import HandS.Style
import KE.GoesMore
import PySem.Challenge.RW_uponboth_k12_whole_full_expansion_paths
set_option Elab.async false
set_option linter.all false
set_option maxRecDepth 100000
set_option maxHeartbeats 4000000
namespace U
open PySem L2
/-! ### what stands behind the top: a def by its name; the built-in names -/
structure D (K : PySem.W.Frag) (mg : Str → Option Value) (x : Str) (st : Stmt) (ps : List Str) (f : Addr) (fd : FuncData) : Prop where
  F : Fun K x x st f fd
  b : Binds K fd ps []
  m : mg x = some (.ref f)

/-! ### trees -/
inductive Tree where
  | L
  | N (l r : Tree)
namespace Tree
def sz : Tree → Nat
  | L => 1
  | N l r => sz l + sz r
def dp : Tree → Nat
  | L => 0
  | N l r => max (dp l) (dp r) + 1
def d : Tree → PyData
  | L => .tuple []
  | N l r => .tuple [d l, d r]
theorem sz_pos : ∀ t : Tree, 0 < t.sz
  | L => Nat.zero_lt_one
  | N l r => by
    have h := sz_pos l
    show 0 < l.sz + r.sz
    omega
theorem d_lay : ∀ t : Tree, t.d.canLay0 = true
  | L => rfl
  | N l r => by
    show ((PyData.canLay0 l.d) && ((PyData.canLay0 r.d) && true)) = true
    rw [d_lay l, d_lay r]
    rfl
theorem d_depth : ∀ t : Tree, t.d.depth = t.dp + 1
  | L => rfl
  | N l r => by
    show max l.d.depth (max r.d.depth 0) + 1 = max l.dp r.dp + 1 + 1
    rw [d_depth l, d_depth r]
    omega
theorem shaped {t : Tree} (h : t.dp ≤ 63) : SeqAt.shaped t.d = true := by
  unfold SeqAt.shaped
  rw [d_lay, d_depth, decide_eq_true (by omega)]
  rfl
def isL : Tree → Bool
  | L => true
  | N _ _ => false
theorem eqvL (t : Tree) : PyData.eqv t.d (.tuple []) = t.isL := by cases t <;> rfl
end Tree
abbrev TA (K : PySem.W.Frag) (H : Hp) (v : V) (t : Tree) : Prop := Dp K H v t.d
theorem shapedE : SeqAt.shaped (.tuple []) = true := by decide +kernel

/-! ### heaps: what is a tuple stays one -/
def Tp (H H' : Hp) : Prop := ∀ b xs, Rd H b (.tup xs) → Rd H' b (.tup xs)
theorem Tp.refl (H : Hp) : Tp H H := fun _ _ h => h
theorem Tp.trans {H H1 H2 : Hp} (a : Tp H H1) (b : Tp H1 H2) : Tp H H2 := fun c o h => b c o (a c o h)
theorem Tp.same {H H' : Hp} (e : Same H H') : Tp H H' := fun b xs h => by
  rcases h with h | ⟨o, h⟩
  · exact .inl (e _ _ h)
  · exact .inr ⟨o, e _ _ h⟩
def But (r : Addr) (H H' : Hp) : Prop := ∀ b o, b ≠ r → H b = some o → H' b = some o
theorem But.trans {r : Addr} {H H1 H2 : Hp} (a : But r H H1) (b : But r H1 H2) : But r H H2 := fun c o n h => b c o n (a c o n h)
theorem But.same {r : Addr} {H H' : Hp} (e : Same H H') : But r H H' := fun b o _ h => e b o h
theorem But.set {r : Addr} {H : Hp} {o : HO} : But r H (upd H r o) := fun b z n h => by rw [upd_ne n]; exact h
theorem Tp.but {r : Addr} {H H' : Hp} {ys : List V} (hr : H r = some (.lst ys)) (e : But r H H') : Tp H H' := fun b xs h => by
  rcases h with h | ⟨o, h⟩
  · exact .inl (e _ _ (ne_of h hr (by intro z; cases z)) h)
  · exact .inr ⟨o, e _ _ (ne_of h hr (by intro z; cases z)) h⟩
theorem Same.new {H : Hp} {p : Addr} (h : H p = none) (o : HO) : Same H (upd H p o) := fun b u q => by rw [upd_ne (ne_of_none q h)]; exact q
theorem Tp.sqT {K : PySem.W.Frag} {H H' : Hp} {a : Addr} {xs : List V} (e : Tp H H') (h : SqT K H a xs) : SqT K H' a xs := by
  rcases h with h | h
  · exact .inl (e _ _ h)
  · exact .inr h
theorem SqT.here {K : PySem.W.Frag} {H : Hp} {a : Addr} {xs : List V} (h : H a = some (.tup xs)) : SqT K H a xs := .inl (.inl h)
theorem SqL.here {K : PySem.W.Frag} {H : Hp} {a : Addr} {xs : List V} (h : H a = some (.lst xs)) : SqL K H a xs := .inl (.inl h)

section
variable {K : PySem.W.Frag} {H H' : Hp}
theorem ta_leaf {a : Addr} (h : SqT K H a []) : TA K H (.ref a) .L := Dp.tup h .nil
theorem ta_node {a : Addr} {x y : V} {l r : Tree} (h : SqT K H a [x, y]) (hl : TA K H x l) (hr : TA K H y r) : TA K H (.ref a) (.N l r) := Dp.tup h (.cons hl (.cons hr .nil))
theorem ta_invL {v : V} (h : TA K H v .L) : ∃ a, v = .ref a ∧ SqT K H a [] := by
  cases h with
  | tup hs ha =>
    cases ha
    exact ⟨_, rfl, hs⟩
theorem ta_invN {v : V} {l r : Tree} (h : TA K H v (.N l r)) : ∃ a x y, v = .ref a ∧ SqT K H a [x, y] ∧ TA K H x l ∧ TA K H y r := by
  cases h with
  | tup hs ha =>
    cases ha with
    | cons h1 h2 =>
      cases h2 with
      | cons h3 h4 =>
        cases h4
        exact ⟨_, _, _, rfl, hs, h1, h3⟩
theorem ta_inv : ∀ {v : V} {t : Tree}, TA K H v t → ∃ a xs, v = .ref a ∧ SqT K H a xs
  | _, .L, h => by
    obtain ⟨a, e, q⟩ := ta_invL h
    exact ⟨a, _, e, q⟩
  | _, .N _ _, h => by
    obtain ⟨a, x, y, e, q, _⟩ := ta_invN h
    exact ⟨a, _, e, q⟩
theorem ta_mono (e : Tp H H') : ∀ {t : Tree} {v : V}, TA K H v t → TA K H' v t
  | .L, v, h => by
    obtain ⟨a, rfl, q⟩ := ta_invL h
    exact ta_leaf (e.sqT q)
  | .N l r, v, h => by
    obtain ⟨a, x, y, rfl, q, h1, h2⟩ := ta_invN h
    exact ta_node (e.sqT q) (ta_mono e h1) (ta_mono e h2)
mutual
theorem dp_same (e : Same H H') : ∀ (d : PyData) {v : V}, Dp K H v d → Dp K H' v d
  | .none, _, h => by
    cases h
    exact .non
  | .bool b, _, h => by
    cases h
    exact .bl b
  | .int i, _, h => by
    cases h
    exact .int i
  | .str x, _, h => by
    cases h
    exact .str x
  | .list ds, _, h => by
    cases h with
    | lst hs ha => exact .lst (e.seq hs) (dp_sameAll e ds ha)
  | .tuple ds, _, h => by
    cases h with
    | tup hs ha => exact .tup ((Tp.same e).sqT hs) (dp_sameAll e ds ha)
  | .dict _, _, h => by cases h
theorem dp_sameAll (e : Same H H') : ∀ (ds : List PyData) {vs : List V}, DpAll K H vs ds → DpAll K H' vs ds
  | [], _, h => by
    cases h
    exact .nil
  | d :: ds, _, h => by
    cases h with
    | cons h1 h2 => exact .cons (dp_same e d h1) (dp_sameAll e ds h2)
end
end
theorem one_le : 1 ≤ sizeLine := by decide
theorem two_le : 2 ≤ sizeLine := by decide
theorem zero_le' : 0 ≤ sizeLine := by decide
theorem four_le : 4 ≤ sizeLine := by decide
theorem ite_eq {b c : Bool} {A B : Prop} (e : b = c) (h : if c = true then A else B) : if b = true then A else B := e ▸ h
theorem ite_yes {b : Bool} {A B : Prop} (e : b = true) (h : A) : if b = true then A else B := by rw [if_pos e]; exact h
theorem ite_no {b : Bool} {A B : Prop} (e : b = false) (h : B) : if b = true then A else B := by rw [e]; exact iteF h
theorem tyx_tup {K : PySem.W.Frag} {H : Hp} {a : Addr} {xs : List V} (h : SqT K H a xs) : TyX K H (.ref a) (.type "tuple") := by
  rcases h with (h | ⟨o, h⟩) | ⟨o, its, n, h, c, _⟩
  · exact .base (.tup h)
  · exact .fTuple h
  · exact .kTuple h c
theorem tyx_lst {K : PySem.W.Frag} {H : Hp} {a : Addr} {xs : List V} (h : SqL K H a xs) : TyX K H (.ref a) (.type "list") := by
  rcases h with (h | ⟨o, h⟩) | ⟨o, its, n, h, c, _⟩
  · exact .base (.lst h)
  · exact .base (.frz h)
  · exact .kList h c
def Tree.nodes : Tree → Nat
  | .L => 1
  | .N l r => l.nodes + r.nodes + 1
/-! ### enumerate(a text): each sign in a new pair -/
def ItES (z : Str) : It :=
  ⟨fun j _ => j < z.cps.size, fun j G v G' => ∃ q c, v = .ref q ∧ G q = none ∧ G' = upd G q (.tup [.int (j : Nat), .str ⟨#[c]⟩]) ∧ z.cps[j]? = some c, fun j _ => z.cps.size ≤ j⟩
theorem draws_text {Pr : Program} {wo : World} {Ar : Around} (calm : Ar.handled = none) (it : Addr) (z : Str) (tk : Tok) :
    PySem.Draws Pr wo Ar it [it] z.cps.size (fun j v => ∃ c u, z.cps[j]? = some c ∧ v = .str ⟨#[c]⟩ u) (fun j g => g.IsStrIter it (PySem.strIterType z) z tk j) := by
  unfold PySem.strIterType
  cases z.cps.all (· < 128)
  · exact PySem.Draws.strWide calm it z tk
  · exact PySem.Draws.strAscii calm it z tk
theorem turn_ES {Pr : Program} {wo : World} {Kf : PySem.W.Frag} {ts : List Expr} {nn : Nat} {tp : Pos} (en it : Addr) (z : Str) (tk : Tok) :
    Turn Pr wo Kf (.Tuple ts nn tp) (ItES z) [en, it] en (fun j g => (∃ old, PySem.IsEnum g en it ((j : Nat) : Int) old) ∧ g.IsStrIter it (PySem.strIterType z) z tk j ∧ en ≠ it ∧ j ≤ z.cps.size) where
  mem := List.mem_cons_self
  obj := fun j g st b hb => by
    obtain ⟨⟨old, h1⟩, ⟨ob, h2, h3, h4⟩, _⟩ := st
    rcases List.mem_cons.mp hb with rfl | hb
    · exact ⟨_, h1, fun v q => nomatch q⟩
    · cases List.mem_singleton.mp hb
      refine ⟨ob, h2, fun v q => ?_⟩
      rw [h4] at q
      cases q
  keep := fun j g g' st kk => by
    obtain ⟨⟨old, h1⟩, ⟨ob, h2, h3⟩, h5⟩ := st
    exact ⟨⟨old, kk en List.mem_cons_self _ h1⟩, ⟨ob, kk it (List.mem_cons_of_mem _ List.mem_cons_self) _ h2, h3⟩, h5⟩
  item := by
    intro X e1 e2 e3 calm j pins s σ G Ex inv fp st lt
    cases e1
    cases e2
    cases e3
    obtain ⟨⟨old, h1⟩, h2, ne, le⟩ := st
    have l1 : en < s.heap.objs.size := Heap.lt_size h1
    have l2 : it < s.heap.objs.size := by
      obtain ⟨_, y, _⟩ := h2
      exact Heap.lt_size y
    refine PySem.wpAny_pyNext_enum_itemD (draws_text (show X.A.in1.handled = none from inv.ok.hd calm) it z tk) h1 h2 lt ne (fun y => ne (List.mem_singleton.mp y)) fun u g' t2 hu out h2' hT sz kp => ?_
    obtain ⟨c, u', hc, rfl⟩ := hu
    refine ⟨_, rfl, PySem.wpAny_letOwnedTupleGo_enum (s := { s with heap := g', toks := t2 + 1 }) out fun g'' h1' sb => ?_⟩
    have hT' : g''.get? s.heap.objs.size = some { cls := .type "tuple", data := .seq #[.int j t2, .str ⟨#[c]⟩ u'] } := (sb.2 _ (Nat.ne_of_gt l1)).trans hT
    have made : ObjOk X.prog X.w (upd G s.heap.objs.size (.tup [.int (j : Nat), .str ⟨#[c]⟩])) g'' s.heap.objs.size (.tup [.int (j : Nat), .str ⟨#[c]⟩]) :=
      ⟨two_le, [.int j t2, .str ⟨#[c]⟩ u'], .cons ⟨_, rfl⟩ (.cons ⟨_, rfl⟩ .nil), ⟨_, hT', rfl, _, rfl⟩⟩
    have inv' : Inv X pins σ (upd G s.heap.objs.size (.tup [.int (j : Nat), .str ⟨#[c]⟩])) { s with heap := g'', toks := t2 + 1 } := by
      refine Inv.turnedNew (ch := [en, it]) inv (fun b ob nb y => ?_) fp (Nat.le_refl _) made
      have n1 : b ≠ en := fun y => nb (by rw [y]; exact List.mem_cons_self)
      have n2 : b ≠ it := fun y => nb (by rw [y]; exact List.mem_cons_of_mem _ List.mem_cons_self)
      exact (sb.2 b n1).trans (kp b ob n1 n2 y)
    refine ⟨.ref s.heap.objs.size, _, inv', rfl, ⟨_, c, rfl, inv.hok.fresh (Nat.le_refl _), rfl, hc⟩, ⟨⟨.str ⟨#[c]⟩ u', ?_⟩, ?_, ne, lt⟩, fun b hb => ?_⟩
    · rw [show (((j + 1 : Nat) : Nat) : Int) = (j : Int) + 1 by omega]
      exact h1'
    · obtain ⟨ob, y1, y2⟩ := h2'
      exact ⟨ob, (sb.2 it (Ne.symm ne)).trans y1, y2⟩
    · have lb : b < s.heap.objs.size := by
        rcases List.mem_cons.mp hb with rfl | hb
        · exact l1
        · cases List.mem_singleton.mp hb
          exact l2
      rw [upd_ne (Nat.ne_of_lt lb)]
      exact (fp b hb).1
  done := by
    intro X e1 e2 e3 calm j pins s σ G Ex inv fp st ge
    cases e1
    cases e2
    cases e3
    obtain ⟨⟨old, h1⟩, h2, ne, le⟩ := st
    have ej : j = z.cps.size := Nat.le_antisymm le ge
    subst ej
    obtain ⟨f0, f1, f2, f3, f4, f5⟩ := fp it (List.mem_cons_of_mem _ List.mem_cons_self)
    exact PySem.wpAny_pyNext_enum_endD (draws_text (show X.A.in1.handled = none from inv.ok.hd calm) it z tk) h1 h2 fun g' eb => ⟨rfl, inv.turned (t' := s.toks) (fun b o nb y => eb b o nb y) f0 f1 f3 f4 f5⟩
  self := fun Ar j s Q Ex st y => by
    obtain ⟨⟨_, h1⟩, _⟩ := st
    exact PySem.wpAny_pyIter_enum h1 y
def iES (ta : L2.TA) : TI := fun σ G R => ta σ G fun vs G1 => ∃ z : Str, vs = [.str z] ∧ R (ItES z) G1
theorem pi_ES {X : Cx} {ex : Expr} {ta : L2.TA} {p pos tp : Pos} {ts : List Expr} {nn : Nat} (gl : Gl X "enumerate") (mm : X.mg "enumerate" = none) (ha : PA X [ex] ta) (hs : starEach [ex] X.env = [(false, eval ex X.env)] := by rfl) :
    PI X (.Tuple ts nn tp) (.Call (.Name "enumerate" p) [ex] [] pos) (iES ta) := by
  refine ⟨fun pins s σ G R inv y => ?_⟩
  refine PyProof.Rows.Call_ (ld_blt inv gl mm PyProof.Rows.boot_enumerate (PyProof.Rows.callWith_type1 (thn (ha.run pos pins s σ G _ inv y) fun us s1 ⟨vs, G1, inv1, r1, q1⟩ => ?_) hs rfl))
  obtain ⟨z, rfl, q⟩ := q1
  cases r1 with
  | cons r rr =>
    cases rr
    obtain ⟨tk, rfl⟩ := r
    refine PySem.call_enumerate_str fun g' h1 h2 sz kp => PySem.wpAny_pyIter_enum h1 ?_
    refine ⟨s1.heap.objs.size + 1, [s1.heap.objs.size + 1, s1.heap.objs.size], _, _, G1, rfl, inv1.kept (t' := s1.toks) kp, turn_ES (s1.heap.objs.size + 1) s1.heap.objs.size z tk, ⟨⟨.none, h1⟩, h2, Nat.succ_ne_self _, Nat.zero_le _⟩, fun b hb => ?_, q⟩
    have ge : s1.heap.objs.size ≤ b := by
      rcases List.mem_cons.mp hb with rfl | hb
      · exact Nat.le_succ _
      · cases List.mem_singleton.mp hb
        exact Nat.le_refl _
    exact inv1.fpOk ge (inv1.hok.fresh ge)
theorem for_ES {z : Str} {g : TG} {tb : TS} {D : Ends} {σ : L2.St} {G : Hp} (Pv : Nat → L2.St → Hp → Prop) (h0 : Pv 0 σ G)
    (hs : ∀ j c σ G, z.cps[j]? = some c → Pv j σ G → ∀ q, G q = none → g (.ref q) σ (upd G q (.tup [.int (j : Nat), .str ⟨#[c]⟩])) fun σ2 G2 => tb { D with nx := Pv (j + 1), ct := Pv (j + 1), bk := D.nx } σ2 G2) (hd : ∀ σ G, Pv z.cps.size σ G → D.nx σ G) :
    ∃ Wd : Nat → Nat → L2.St → Hp → Prop, (∃ m, Wd 0 m σ G) ∧ ∀ j m σ G, Wd j m σ G →
      ((ItES z).stop j G ∧ D.nx σ G) ∨ ((ItES z).go j G ∧ ∃ Nn : L2.St → Hp → Prop, (∀ σ' G', Nn σ' G' → ∃ m', m' < m ∧ Wd (j + 1) m' σ' G') ∧ ∀ v G', (ItES z).yld j G v G' → g v σ G' fun σ2 G2 => tb { D with nx := Nn, ct := Nn, bk := D.nx } σ2 G2) := by
  refine ⟨fun j m σ G => m = z.cps.size - j ∧ j ≤ z.cps.size ∧ Pv j σ G, ⟨_, rfl, Nat.zero_le _, h0⟩, ?_⟩
  rintro j m σ G ⟨rfl, le, pv⟩
  rcases Nat.lt_or_ge j z.cps.size with lt | ge
  · refine .inr ⟨lt, Pv (j + 1), fun σ' G' y => ⟨z.cps.size - (j + 1), by omega, rfl, lt, y⟩, fun v G' y => ?_⟩
    obtain ⟨q, c, rfl, nq, rfl, hc⟩ := y
    exact hs j c σ G hc pv q nq
  · have ej : j = z.cps.size := Nat.le_antisymm le ge
    subst ej
    exact .inl ⟨Nat.le_refl _, hd σ G pv⟩
def top (i : Nat) : Stmt := PySem.Challenge.pw_uponboth_k12_whole_full_expansion_paths.main.body.getD i (.Pass ⟨0, 0, 0, 0⟩)
structure Blt (mg : Str → Option Value) : Prop where
  len : mg "len" = none
  list : mg "list" = none
  tuple : mg "tuple" = none
  dict : mg "dict" = none
  bool : mg "bool" = none
  isinstance : mg "isinstance" = none
  max : mg "max" = none
  min : mg "min" = none
  range : mg "range" = none
  all : mg "all" = none
  sorted : mg "sorted" = none
  enumerate : mg "enumerate" = none
  sum : mg "sum" = none
  str : mg "str" = none
  int : mg "int" = none
/-- the state of the draws: a list of ints, a place, a rest, a seed -/
def Rng (H : Hp) (r : Addr) : Prop := ∃ (c : Addr) (ns : List Int) (i b s : Int), H r = some (.lst [.ref c, .int i, .int b, .int s]) ∧ H c = some (.lst (ns.map V.int)) ∧ c ≠ r ∧ 0 ≤ i ∧ 0 ≤ b ∧ 0 ≤ s ∧ s < 2147483647
theorem Rng.lst {H : Hp} {r : Addr} (h : Rng H r) : ∃ ys, H r = some (.lst ys) := by
  obtain ⟨c, ns, i, b, s, h, _⟩ := h
  exact ⟨_, h⟩
theorem Rng.same {H H' : Hp} {r : Addr} (e : Same H H') (h : Rng H r) : Rng H' r := by
  obtain ⟨c, ns, i, b, s, h1, h2, h3⟩ := h
  exact ⟨c, ns, i, b, s, e _ _ h1, e _ _ h2, h3⟩
theorem cut63 {ns : List Int} : cutV (ns.map V.int) none (some 63) = (ns.take 63).map V.int := by
  unfold cutV
  rw [HT.sIx_none, show HT.sIx (ns.map V.int).length (ns.map V.int).length (some 63) = min 63 (ns.map V.int).length from HT.sIx_nat _ _ 63]
  rw [List.drop_zero, Nat.sub_zero, List.map_take]
  rcases Nat.le_total 63 (ns.map V.int).length with h | h
  · rw [Nat.min_eq_left h]
  · rw [Nat.min_eq_right h, List.take_of_length_le (Nat.le_refl _), List.take_of_length_le h]
def spDraws (K : PySem.W.Frag) : Sp := fun vs H Q _ => ∃ (a : Addr) (ns : List Int), vs = [.ref a] ∧ SqL K H a (ns.map V.int) ∧ ∀ (r : Addr) (H' : Hp), Same H H' → H r = none → Rng H' r → Q (.ref r) H'
def spDraw : Sp := fun vs H Q _ => ∃ (r : Addr) (n : Int), vs = [.ref r, .int n] ∧ Rng H r ∧ 0 < n ∧ n < 1073741824 ∧ ∀ (v : Int) (H' : Hp), 0 ≤ v → v < n → Rng H' r → But r H H' → Q (.int v) H'
theorem fn_none {P : Program} {w : World} {K : PySem.W.Frag} {mg : Str → Option Value} {base : Heap} {f : Addr} {fd : FuncData} {CX : CXT} {ps : List Str} {sp : Sp} {k : Nat} (no : ∀ vs H Q E, ¬ sp vs H Q E) : FnOk P w K mg base CX k f fd ps sp :=
  ⟨fun vs H Q E h => absurd h (no vs H Q E), fun A outer s H args us vs Q E _ _ _ _ h => absurd h (no vs H Q E)⟩
def spTerm (K : PySem.W.Frag) (n : Nat) : Sp := fun vs H Q _ => ∃ (r : Addr) (many : Int) (k : Nat), k < n ∧ vs = [.ref r, .int many, .int (2 ^ k)] ∧ k ≤ 6 ∧ 1 ≤ many ∧ many ≤ 2 ^ k ∧ Rng H r ∧
  ∀ (v : V) (t : Tree) (H' : Hp), TA K H' v t → (t.sz : Int) = many → t.dp ≤ k → Rng H' r → But r H H' → Q v H'
def spComb (K : PySem.W.Frag) : Sp := fun vs H Q _ => ∃ (m : Int) (b : Bool), vs = [.int m, .bl b] ∧ 1 ≤ m ∧ m ≤ 40 ∧
  ∀ (v : V) (t : Tree) (H' : Hp), TA K H' v t → (t.sz : Int) = m → (t.dp : Int) = m - 1 → Same H H' → Q v H'
def spAny (K : PySem.W.Frag) : Sp := fun vs H Q _ => ∃ (r : Addr) (top : Int), vs = [.ref r, .int top] ∧ 1 ≤ top ∧ top ≤ 64 ∧ Rng H r ∧
  ∀ (v : V) (t : Tree) (H' : Hp), TA K H' v t → (t.sz : Int) ≤ top → t.dp ≤ 6 → Rng H' r → But r H H' → Q v H'
/-- a def over one tree that gives g of it and makes nothing that stays -/
def spTree (K : PySem.W.Frag) (g : Tree → V) (n : Nat) : Sp := fun vs H Q _ => ∃ (v : V) (t : Tree), vs = [v] ∧ TA K H v t ∧ t.dp < n ∧ n ≤ 40 ∧ ∀ H', Same H H' → Q (g t) H'
theorem spTree_no {K : PySem.W.Frag} {g : Tree → V} : ∀ vs H Q E, ¬ spTree K g 0 vs H Q E := fun vs H Q E h => by
  obtain ⟨v, t, _, _, h, _⟩ := h
  omega
def spIsPair (K : PySem.W.Frag) : Sp := fun vs H Q _ => ∃ (v : V) (t : Tree), vs = [v] ∧ TA K H v t ∧ Q (.bl (!t.isL)) H
def spOkTerm (K : PySem.W.Frag) (g : V) : Sp := fun vs H Q _ => ∃ (v : V) (t : Tree), vs = [v] ∧ TA K H v t ∧ t.sz ≤ 12 ∧ t.dp ≤ 6 ∧ ∀ H', Same H H' → Q g H'
/-- an item of the pile: a term and how deep it stands -/
def Item (K : PySem.W.Frag) (H : Hp) (p : V × Tree × Nat) : Prop := ∃ (a : Addr) (u : V), p.1 = .ref a ∧ SqT K H a [u, .int p.2.2] ∧ TA K H u p.2.1 ∧ p.2.2 + p.2.1.dp ≤ 6
theorem Item.mono {K : PySem.W.Frag} {H H' : Hp} (e : Tp H H') {p : V × Tree × Nat} (h : Item K H p) : Item K H' p := by
  obtain ⟨a, u, h1, h2, h3, h4⟩ := h
  exact ⟨a, u, h1, e.sqT h2, ta_mono e h3, h4⟩
def szs (ps : List (V × Tree × Nat)) : Nat := (ps.map fun p => p.2.1.sz).sum
def nds (ps : List (V × Tree × Nat)) : Nat := (ps.map fun p => p.2.1.nodes).sum
theorem szs_snoc (ps : List (V × Tree × Nat)) (p) : szs (ps ++ [p]) = szs ps + p.2.1.sz := by
  unfold szs
  rw [List.map_append, List.sum_append]
  simp
theorem nds_snoc (ps : List (V × Tree × Nat)) (p) : nds (ps ++ [p]) = nds ps + p.2.1.nodes := by
  unfold nds
  rw [List.map_append, List.sum_append]
  simp
theorem szs_len : ∀ ps : List (V × Tree × Nat), ps.length ≤ szs ps
  | [] => Nat.zero_le _
  | p :: ps => by
    have h := szs_len ps
    have h2 := p.2.1.sz_pos
    show ps.length + 1 ≤ (p.2.1.sz :: ps.map fun p => p.2.1.sz).sum
    rw [List.sum_cons]
    unfold szs at h
    omega
structure Cst (mg : Str → Option Value) : Prop where
  MAX_SIZE : ∃ t, mg "MAX_SIZE" = some (.int 12 t)
  MAX_DEPTH : ∃ t, mg "MAX_DEPTH" = some (.int 6 t)
def spOkTree (K : PySem.W.Frag) (g : Tree → V) : Sp := fun vs H Q _ => ∃ (v : V) (t : Tree), vs = [v] ∧ TA K H v t ∧ t.sz ≤ 12 ∧ t.dp ≤ 6 ∧ ∀ H', Same H H' → Q (g t) H'
def Tree.spine : Tree → List Tree
  | .L => [.L]
  | .N l r => .N l r :: l.spine
def spSpine (K : PySem.W.Frag) : Sp := fun vs H Q _ => ∃ (v : V) (t : Tree), vs = [v] ∧ TA K H v t ∧ t.sz ≤ 12 ∧ t.dp ≤ 6 ∧ ∀ (p : Addr) (vs : List V) (H' : Hp), Same H H' → H p = none → H' p = some (.lst vs) → DpAll K H' vs (t.spine.map Tree.d) → Q (.ref p) H'
theorem dpAll_snoc {K : PySem.W.Frag} {H : Hp} : ∀ {vs : List V} {ds : List PyData} {v : V} {d : PyData}, DpAll K H vs ds → Dp K H v d → DpAll K H (vs ++ [v]) (ds ++ [d])
  | _, _, _, _, .nil, h => .cons h .nil
  | _, _, _, _, .cons h1 h2, h => .cons h1 (dpAll_snoc h2 h)
theorem dpAll_len {K : PySem.W.Frag} {H : Hp} : ∀ {vs : List V} {ds : List PyData}, DpAll K H vs ds → vs.length = ds.length
  | _, _, .nil => rfl
  | _, _, .cons _ h2 => congrArg (· + 1) (dpAll_len h2)
theorem dpAll_at {K : PySem.W.Frag} {H : Hp} : ∀ {vs : List V} {ds : List PyData}, DpAll K H vs ds → ∀ (i : Nat) (d : PyData), ds[i]? = some d → ∃ v, vs[i]? = some v ∧ Dp K H v d
  | _, _, .nil, i, d, e => by simp at e
  | _, _, .cons h1 h2, 0, d, e => ⟨_, rfl, by cases e; exact h1⟩
  | _, _, .cons h1 h2, i + 1, d, e => dpAll_at h2 i d e
theorem dpAll_tp {K : PySem.W.Frag} {H H' : Hp} (e : Tp H H') : ∀ {ts : List Tree} {vs : List V}, DpAll K H vs (ts.map Tree.d) → DpAll K H' vs (ts.map Tree.d)
  | [], _, h => by
    cases h
    exact .nil
  | t :: ts, _, h => by
    cases h with
    | cons h1 h2 => exact .cons (ta_mono e h1) (dpAll_tp e h2)
theorem Tree.spine_len : ∀ t : Tree, t.spine.length ≤ t.dp + 1
  | .L => Nat.le_refl _
  | .N l r => by
    have h := spine_len l
    show l.spine.length + 1 ≤ max l.dp r.dp + 1 + 1
    omega
theorem Tree.spine_mem : ∀ {t u : Tree}, u ∈ t.spine → u.dp ≤ t.dp
  | .L, u, h => by
    cases List.mem_singleton.mp h
    exact Nat.le_refl _
  | .N l r, u, h => by
    rcases List.mem_cons.mp h with e | h
    · rw [e]
      exact Nat.le_refl _
    · have h2 := spine_mem h
      show u.dp ≤ max l.dp r.dp + 1
      omega
theorem Tree.spine_self : ∀ t : Tree, t ∈ t.spine
  | .L => List.mem_singleton.mpr rfl
  | .N _ _ => List.mem_cons_self
/-- the walk down the left: at p stands the list of what was met, its last one is still to be looked at -/
def Spn (K : PySem.W.Frag) (H H' : Hp) (p : Addr) (t : Tree) (m : Nat) : Prop := ∃ (vs : List V) (u : V) (ts : List Tree) (t' : Tree), Same H H' ∧ H' p = some (.lst (vs ++ [u])) ∧ DpAll K H' vs (ts.map Tree.d) ∧ TA K H' u t' ∧ ts ++ t'.spine = t.spine ∧ m = t'.nodes
theorem Spn.dp {t t' : Tree} {ts : List Tree} (et : ts ++ t'.spine = t.spine) (hd : t.dp ≤ 6) : t'.dp ≤ 63 := by
  have h : t' ∈ t.spine := by
    rw [← et]
    exact List.mem_append_right _ t'.spine_self
  have := Tree.spine_mem h
  omega
theorem Spn.lt {K : PySem.W.Frag} {H' : Hp} {vs : List V} {u : V} {t t' : Tree} {ts : List Tree} (hA : DpAll K H' vs (ts.map Tree.d)) (et : ts ++ t'.spine = t.spine) (hd : t.dp ≤ 6) : (vs ++ [u]).length < sizeLine := by
  have h1 := dpAll_len hA
  have h2 := congrArg List.length et
  have h3 := t.spine_len
  rw [List.length_map] at h1
  rw [List.length_append] at h2
  rw [List.length_append, List.length_singleton]
  exact small1000 (by omega)
theorem Spn.next {K : PySem.W.Frag} {H H' : Hp} {p p5 b : Addr} {vs : List V} {x1 x2 : V} {t l r : Tree} {ts : List Tree} (hp0 : H p = none) (sm : Same H H') (s5 : Same H' (upd H' p5 (.tup []))) (hl : H' p = some (.lst (vs ++ [.ref b]))) (hA : DpAll K H' vs (ts.map Tree.d)) (hS : SqT K H' b [x1, x2]) (hL : TA K H' x1 l) (hR : TA K H' x2 r)
    (et : ts ++ (Tree.N l r).spine = t.spine) : Spn K H (upd (upd H' p5 (.tup [])) p (.lst ((vs ++ [.ref b]) ++ [x1]))) p t l.nodes := by
  have tp : Tp H' (upd (upd H' p5 (.tup [])) p (.lst ((vs ++ [.ref b]) ++ [x1]))) := (Tp.same s5).trans (Tp.but (s5 _ _ hl) But.set)
  refine ⟨vs ++ [.ref b], x1, ts ++ [.N l r], l, fun c o e => ?_, upd_same, ?_, ta_mono tp hL, ?_, rfl⟩
  · rw [upd_ne (ne_of_none e hp0)]
    exact s5 _ _ (sm _ _ e)
  · rw [List.map_append]
    exact dpAll_snoc (dpAll_tp tp hA) (ta_node (tp.sqT hS) (ta_mono tp hL) (ta_mono tp hR))
  · rw [List.append_assoc]
    exact et
/-! ### data and their built-in types -/
def tn : PyData → String
  | .none => "NoneType"
  | .bool _ => "bool"
  | .int _ => "int"
  | .str _ => "str"
  | .list _ => "list"
  | .tuple _ => "tuple"
  | .dict _ => "dict"
def isT : PyData → Bool
  | .tuple _ => true
  | _ => false
def isLs : PyData → Bool
  | .list _ => true
  | _ => false
def isB : PyData → Bool
  | .bool _ => true
  | _ => false
theorem dp_ty {K : PySem.W.Frag} {H : Hp} {x : V} {d : PyData} (h : Dp K H x d) : TyX K H x (.type (tn d)) := by
  cases h with
  | non => exact .base .non
  | bl b => exact .base (.bl b)
  | int i => exact .base (.int i)
  | str z => exact .base (.str z)
  | lst hs _ => exact tyx_lst hs
  | tup hs _ => exact tyx_tup hs
theorem kit_dict {K : PySem.W.Frag} {H : Hp} {x : V} {d : PyData} (h : Dp K H x d) : PySem.W.kitOne K (.type (tn d)) (.type "dict") = some false := by
  cases h with
  | non => exact kit_ty (show kitB "NoneType" "dict" = some false by decide +kernel)
  | bl _ => exact kit_ty (show kitB "bool" "dict" = some false by decide +kernel)
  | int _ => exact kit_ty (show kitB "int" "dict" = some false by decide +kernel)
  | str _ => exact kit_ty (show kitB "str" "dict" = some false by decide +kernel)
  | lst _ _ => exact kit_ty (show kitB "list" "dict" = some false by decide +kernel)
  | tup _ _ => exact kit_ty (show kitB "tuple" "dict" = some false by decide +kernel)
theorem kit_tuple {K : PySem.W.Frag} {H : Hp} {x : V} {d : PyData} (h : Dp K H x d) : PySem.W.kitOne K (.type (tn d)) (.type "tuple") = some (isT d) := by
  cases h with
  | non => exact kit_ty (show kitB "NoneType" "tuple" = some false by decide +kernel)
  | bl _ => exact kit_ty (show kitB "bool" "tuple" = some false by decide +kernel)
  | int _ => exact kit_ty (show kitB "int" "tuple" = some false by decide +kernel)
  | str _ => exact kit_ty (show kitB "str" "tuple" = some false by decide +kernel)
  | lst _ _ => exact kit_ty (show kitB "list" "tuple" = some false by decide +kernel)
  | tup _ _ => exact kit_ty (show kitB "tuple" "tuple" = some true by decide +kernel)
theorem kit_list {K : PySem.W.Frag} {H : Hp} {x : V} {d : PyData} (h : Dp K H x d) : PySem.W.kitOne K (.type (tn d)) (.type "list") = some (isLs d) := by
  cases h with
  | non => exact kit_ty (show kitB "NoneType" "list" = some false by decide +kernel)
  | bl _ => exact kit_ty (show kitB "bool" "list" = some false by decide +kernel)
  | int _ => exact kit_ty (show kitB "int" "list" = some false by decide +kernel)
  | str _ => exact kit_ty (show kitB "str" "list" = some false by decide +kernel)
  | lst _ _ => exact kit_ty (show kitB "list" "list" = some true by decide +kernel)
  | tup _ _ => exact kit_ty (show kitB "tuple" "list" = some false by decide +kernel)
theorem kit_bool {K : PySem.W.Frag} {H : Hp} {x : V} {d : PyData} (h : Dp K H x d) : PySem.W.kitOne K (.type (tn d)) (.type "bool") = some (isB d) := by
  cases h with
  | non => exact kit_ty (show kitB "NoneType" "bool" = some false by decide +kernel)
  | bl _ => exact kit_ty (show kitB "bool" "bool" = some true by decide +kernel)
  | int _ => exact kit_ty (show kitB "int" "bool" = some false by decide +kernel)
  | str _ => exact kit_ty (show kitB "str" "bool" = some false by decide +kernel)
  | lst _ _ => exact kit_ty (show kitB "list" "bool" = some false by decide +kernel)
  | tup _ _ => exact kit_ty (show kitB "tuple" "bool" = some false by decide +kernel)
theorem kit_seq {K : PySem.W.Frag} {H : Hp} {x : V} {d : PyData} (h : Dp K H x d) : PySem.W.kitAny K (.type (tn d)) [.type "tuple", .type "list"] = some (isT d || isLs d) := by
  refine kitAny_cons (kit_tuple h) (fun e => kitAny_cons (kit_list h) (fun e2 => ?_) (fun e2 => ?_)) (fun e => ?_)
  · rw [e, e2]
    exact kitAny_nil
  · rw [e, e2]
    rfl
  · rw [e]
    rfl
mutual
/-- no list or tuple in it is longer than 1000 -/
def wide : PyData → Bool
  | .list xs | .tuple xs => decide (xs.length ≤ 1000) && wideAll xs
  | .none | .bool _ | .int _ | .str _ | .dict _ => true
def wideAll : List PyData → Bool
  | [] => true
  | x :: xs => wide x && wideAll xs
end
/-- two data that are the same are told to be the same -/
def spSame (K : PySem.W.Frag) (n : Nat) : Sp := fun vs H Q _ => ∃ (x y : V) (d : PyData), vs = [x, y] ∧ Dp K H x d ∧ Dp K H y d ∧ SeqAt.shaped d = true ∧ d.depth < n ∧ wide d = true ∧ ∀ H', Same H H' → Q (.bl true) H'
theorem shaped_at {ds : List PyData} {d : PyData} (hc : PyData.canLayAll0 ds = true) (hm : d ∈ ds) : d.canLay0 = true := by
  induction ds with
  | nil => cases hm
  | cons a r ih =>
    have h' : a.canLay0 = true ∧ PyData.canLayAll0 r = true := by simpa [PyData.canLayAll0] using hc
    rcases List.mem_cons.mp hm with e | hm
    · rw [e]
      exact h'.1
    · exact ih h'.2 hm
theorem depth_at {ds : List PyData} {d : PyData} (hm : d ∈ ds) : d.depth ≤ PyData.depthAll ds := by
  induction ds with
  | nil => cases hm
  | cons a r ih =>
    show d.depth ≤ max a.depth (PyData.depthAll r)
    rcases List.mem_cons.mp hm with e | hm
    · rw [e]
      omega
    · have := ih hm
      omega
theorem wide_at {ds : List PyData} {d : PyData} (hc : wideAll ds = true) (hm : d ∈ ds) : wide d = true := by
  induction ds with
  | nil => cases hm
  | cons a r ih =>
    have h' : wide a = true ∧ wideAll r = true := by simpa [wideAll] using hc
    rcases List.mem_cons.mp hm with e | hm
    · rw [e]
      exact h'.1
    · exact ih h'.2 hm
theorem all_rep : ∀ n : Nat, (List.replicate n true).all id = true
  | 0 => rfl
  | n + 1 => all_rep n
def spLaw (K : PySem.W.Frag) : Sp := fun vs H Q _ => ∃ (a : Addr) (ns : List Int), vs = [.ref a] ∧ SqL K H a (ns.map V.int) ∧ ∀ H', Q (.bl true) H'
/-! ### texts of trees -/
namespace Tree
def cs : Tree → List Nat
  | L => [120]
  | N l r => 40 :: (l.cs ++ (r.cs ++ [41]))
def txt (t : Tree) : Str := ⟨t.cs.toArray⟩
theorem cs_len : ∀ t : Tree, t.cs.length + 2 = 3 * t.sz
  | L => rfl
  | N l r => by
    have h1 := cs_len l
    have h2 := cs_len r
    show (40 :: (l.cs ++ (r.cs ++ [41]))).length + 2 = 3 * (l.sz + r.sz)
    rw [List.length_cons, List.length_append, List.length_append, List.length_singleton]
    omega
theorem txt_len (t : Tree) : t.txt.length = t.cs.length := by
  show t.cs.toArray.size = _
  simp
theorem txtN (l r : Tree) : (((Str.ofString "(" ++ l.txt) ++ r.txt) ++ Str.ofString ")") = (N l r).txt := by
  show (⟨((#[40] ++ l.cs.toArray) ++ r.cs.toArray) ++ #[41]⟩ : Str) = ⟨(40 :: (l.cs ++ (r.cs ++ [41]))).toArray⟩
  congr 1
  apply Array.toList_inj.mp
  simp
theorem txtL : Str.ofString "x" = L.txt := rfl
end Tree
def spText (K : PySem.W.Frag) (n : Nat) : Sp := fun vs H Q _ => ∃ (v : V) (t : Tree), vs = [v] ∧ TA K H v t ∧ t.dp < n ∧ n ≤ 40 ∧ t.sz ≤ 1000 ∧ ∀ H', Same H H' → Q (.str t.txt) H'
theorem spText_no {K : PySem.W.Frag} : ∀ vs H Q E, ¬ spText K 0 vs H Q E := fun vs H Q E h => by
  obtain ⟨v, t, _, _, h, _⟩ := h
  omega
theorem fits {n : Nat} (h : n ≤ 10000) : n ≤ sizeLine := Nat.le_trans h (by decide)
/-- the reader's pile: the lists of operands that are open, the innermost first -/
def room (ts : List Tree) (rest : List (List Tree)) : Nat := if rest.length = 0 then 1 else 2
def stp : List (List Tree) → Nat → Option (List (List Tree))
  | [], _ => none
  | ts :: rest, c => if c = 120 then (if ts.length < room ts rest then some ((ts ++ [.L]) :: rest) else none)
    else if c = 40 then (if ts.length < room ts rest then some ([] :: ts :: rest) else none)
    else if c = 41 then (match ts, rest with
      | [a, b], us :: more => some ((us ++ [.N a b]) :: more)
      | _, _ => none)
    else none
theorem stp_x (ts : List Tree) (rest : List (List Tree)) : stp (ts :: rest) 120 = if ts.length < room ts rest then some ((ts ++ [.L]) :: rest) else none := rfl
theorem stp_o (ts : List Tree) (rest : List (List Tree)) : stp (ts :: rest) 40 = if ts.length < room ts rest then some ([] :: ts :: rest) else none := rfl
theorem stp_c (ts : List Tree) (rest : List (List Tree)) : stp (ts :: rest) 41 = (match ts, rest with
      | [a, b], us :: more => some ((us ++ [.N a b]) :: more)
      | _, _ => none) := rfl
theorem stp_else (ts : List Tree) (rest : List (List Tree)) {c : Nat} (h1 : c ≠ 120) (h2 : c ≠ 40) (h3 : c ≠ 41) : stp (ts :: rest) c = none := by
  show (if c = 120 then _ else if c = 40 then _ else if c = 41 then _ else none) = none
  rw [if_neg h1, if_neg h2, if_neg h3]
def rn : List (List Tree) → List Nat → Option (List (List Tree))
  | st, [] => some st
  | st, c :: cs => (stp st c).bind fun st' => rn st' cs
theorem rn_tree : ∀ (t : Tree) (ts : List Tree) (rest : List (List Tree)) (more : List Nat), ts.length < room ts rest → rn (ts :: rest) (t.cs ++ more) = rn ((ts ++ [t]) :: rest) more
  | .L, ts, rest, more, h => by
    show (stp (ts :: rest) 120).bind (fun st' => rn st' more) = _
    rw [stp_x, if_pos h]
    rfl
  | .N l r, ts, rest, more, h => by
    have e : (Tree.N l r).cs ++ more = 40 :: (l.cs ++ (r.cs ++ (41 :: more))) := by
      show (40 :: (l.cs ++ (r.cs ++ [41]))) ++ more = _
      simp
    rw [e]
    show (stp (ts :: rest) 40).bind (fun st' => rn st' (l.cs ++ (r.cs ++ (41 :: more)))) = _
    have e1 : stp (ts :: rest) 40 = some ([] :: ts :: rest) := by
      rw [stp_o, if_pos h]
    rw [e1]
    show rn ([] :: ts :: rest) (l.cs ++ (r.cs ++ (41 :: more))) = _
    rw [rn_tree l [] (ts :: rest) _ (by show 0 < if (ts :: rest).length = 0 then 1 else 2; rw [if_neg (by simp)]; decide)]
    rw [rn_tree r _ (ts :: rest) _ (by show 1 < if (ts :: rest).length = 0 then 1 else 2; rw [if_neg (by simp)]; decide)]
    rfl
theorem rn_all (t : Tree) : rn [[]] t.cs = some [[t]] := by
  have h := rn_tree t [] [] [] (by decide)
  rw [List.append_nil] at h
  rw [h]
  rfl
theorem tlen {t : Tree} (h : t.sz ≤ 1000) : t.txt.length ≤ 3000 := by
  have h1 := t.cs_len
  have h2 := t.txt_len
  omega
theorem slen (a b : Str) : (a ++ b).length = a.length + b.length := by
  show (a.cps ++ b.cps).size = a.cps.size + b.cps.size
  simp
def spOkText (K : PySem.W.Frag) : Sp := fun vs H Q _ => ∃ (v : V) (t : Tree), vs = [v] ∧ TA K H v t ∧ t.sz ≤ 12 ∧ t.dp ≤ 6 ∧ ∀ H', Same H H' → Q (.str t.txt) H'
def spRoom : Sp := fun vs H Q _ => ∃ (p a : Addr) (as : List Addr) (ws : List V), vs = [.ref p] ∧ H p = some (.lst ((as ++ [a]).map V.ref)) ∧ H a = some (.lst ws) ∧ as.length ≤ 10000 ∧ ws.length ≤ 10000 ∧ Q (.bl (decide ((ws.length : Int) < if as.length = 0 then 1 else 2))) H
/-- reading the text of a tree gives the tree -/
def spRead (K : PySem.W.Frag) : Sp := fun vs H Q _ => ∃ t : Tree, vs = [.str t.txt] ∧ t.sz ≤ 1000 ∧ ∀ (v : V) (H' : Hp), TA K H' v t → Same H H' → Q v H'
def spParse (K : PySem.W.Frag) : Sp := fun vs H Q _ => ∃ t : Tree, vs = [.str t.txt] ∧ t.sz ≤ 12 ∧ t.dp ≤ 6 ∧ ∀ (v : V) (H' : Hp), TA K H' v t → Same H H' → Q v H'
inductive Pile (K : PySem.W.Frag) (G : Hp) : List Addr → List (List Tree) → Prop
  | nil : Pile K G [] []
  | cons {a : Addr} {vs : List V} {ts : List Tree} {as : List Addr} {st : List (List Tree)} : G a = some (.lst vs) → DpAll K G vs (ts.map Tree.d) → Pile K G as st → Pile K G (a :: as) (ts :: st)
theorem Pile.mono {K : PySem.W.Frag} {G G' : Hp} (tp : Tp G G') : ∀ {as : List Addr} {st : List (List Tree)}, (∀ a ∈ as, ∀ o, G a = some o → G' a = some o) → Pile K G as st → Pile K G' as st
  | _, _, _, .nil => .nil
  | _, _, k, .cons h1 h2 h3 => .cons (k _ List.mem_cons_self _ h1) (dpAll_tp tp h2) (Pile.mono tp (fun a ha => k a (List.mem_cons_of_mem _ ha)) h3)
/-- the pile at p, all of it new since H -/
def PileAt (K : PySem.W.Frag) (H G : Hp) (p : Addr) (st : List (List Tree)) : Prop := ∃ as : List Addr, G p = some (.lst (as.reverse.map V.ref)) ∧ as.Nodup ∧ p ∉ as ∧ H p = none ∧ (∀ a ∈ as, H a = none) ∧ Pile K G as st
theorem cs_small : ∀ (t : Tree) (c : Nat), c ∈ t.cs → c < 128
  | .L, c, h => by
    rw [List.mem_singleton.mp h]
    decide
  | .N l r, c, h => by
    have h : c ∈ 40 :: (l.cs ++ (r.cs ++ [41])) := h
    rcases List.mem_cons.mp h with e | h
    · rw [e]
      decide
    rcases List.mem_append.mp h with h | h
    · exact cs_small l c h
    rcases List.mem_append.mp h with h | h
    · exact cs_small r c h
    · rw [List.mem_singleton.mp h]
      decide
theorem txt_ok (t : Tree) : PyData.strOk t.txt = true := by
  show t.cs.toArray.all (· < 0x110000) = true
  rw [Array.all_eq_true']
  intro c hc
  have h := cs_small t c (by simpa using hc)
  exact decide_eq_true (by omega)
/-! ### full expansions -/
namespace Tree
def sub : Tree → Tree → Tree
  | L, a => N a L
  | N l r, a => N (l.sub a) (r.sub a)
def fe : Tree → Tree
  | L => L
  | N a b => b.fe.sub a.fe
def fsz : Tree → Nat
  | L => 1
  | N a b => (a.fsz + 1) * b.fsz
theorem sub_sz (a : Tree) : ∀ b : Tree, (b.sub a).sz = (a.sz + 1) * b.sz
  | L => by
    show a.sz + 1 = (a.sz + 1) * 1
    omega
  | N l r => by
    show (l.sub a).sz + (r.sub a).sz = (a.sz + 1) * (l.sz + r.sz)
    rw [sub_sz a l, sub_sz a r, Nat.mul_add]
theorem fe_sz : ∀ t : Tree, t.fe.sz = t.fsz
  | L => rfl
  | N a b => by
    show (b.fe.sub a.fe).sz = (a.fsz + 1) * b.fsz
    rw [sub_sz, fe_sz a, fe_sz b]
theorem fsz_pos (t : Tree) : 0 < t.fsz := by
  rw [← fe_sz]
  exact sz_pos _
theorem fsz_le : ∀ t : Tree, t.fsz + 1 ≤ 4 ^ t.sz
  | L => by decide
  | N a b => by
    have h1 := fsz_le a
    have h2 := fsz_le b
    show (a.fsz + 1) * b.fsz + 1 ≤ 4 ^ (a.sz + b.sz)
    rw [Nat.pow_add]
    have h3 : (a.fsz + 1) * (b.fsz + 1) ≤ 4 ^ a.sz * 4 ^ b.sz := Nat.mul_le_mul h1 h2
    rw [Nat.mul_succ] at h3
    omega
theorem sub_dp (a : Tree) : ∀ b : Tree, (b.sub a).dp ≤ b.dp + a.dp + 1
  | L => by
    show max a.dp 0 + 1 ≤ 0 + a.dp + 1
    omega
  | N l r => by
    have h1 := sub_dp a l
    have h2 := sub_dp a r
    show max (l.sub a).dp (r.sub a).dp + 1 ≤ max l.dp r.dp + 1 + a.dp + 1
    omega
theorem fe_dp : ∀ t : Tree, t.fe.dp + 1 ≤ t.sz
  | L => Nat.le_refl _
  | N a b => by
    have h1 := fe_dp a
    have h2 := fe_dp b
    have h3 := sub_dp a.fe b.fe
    show (b.fe.sub a.fe).dp + 1 ≤ a.sz + b.sz
    omega
/-- an expansion at the root, at a path -/
def ex0 : Tree → Option Tree
  | N a (N b c) => some (N (N a b) (N a c))
  | N _ L => none
  | L => none
def ex : Tree → List Bool → Option Tree
  | t, [] => t.ex0
  | L, _ :: _ => none
  | N l r, b :: p => match b with
    | false => (l.ex p).map fun l' => N l' r
    | true => (r.ex p).map fun r' => N l r'
theorem ex_nil (t : Tree) : t.ex [] = t.ex0 := by cases t <;> rfl
theorem ex_0 (l r : Tree) (p : List Bool) : (N l r).ex (false :: p) = (l.ex p).map fun l' => N l' r := rfl
theorem ex_1 (l r : Tree) (p : List Bool) : (N l r).ex (true :: p) = (r.ex p).map fun r' => N l r' := rfl
def rl : Tree → List (List Bool) → Option Tree
  | t, [] => some t
  | t, p :: ps => (t.ex p).bind fun t' => t'.rl ps
theorem rl_app : ∀ (ps qs : List (List Bool)) (t : Tree), t.rl (ps ++ qs) = (t.rl ps).bind fun t' => t'.rl qs
  | [], _, _ => rfl
  | p :: ps, qs, t => by
    show (t.ex p).bind (fun t' => t'.rl (ps ++ qs)) = ((t.ex p).bind fun t' => t'.rl ps).bind fun t' => t'.rl qs
    cases t.ex p with
    | none => rfl
    | some t' => exact rl_app ps qs t'
theorem rl_0 : ∀ (ps : List (List Bool)) (l r l' : Tree), l.rl ps = some l' → (N l r).rl (ps.map (false :: ·)) = some (N l' r)
  | [], l, r, l', h => by
    cases h
    rfl
  | p :: ps, l, r, l', h => by
    have h : (l.ex p).bind (fun t' => t'.rl ps) = some l' := h
    show ((N l r).ex (false :: p)).bind (fun t' => t'.rl (ps.map (false :: ·))) = _
    rw [ex_0]
    cases e : l.ex p with
    | none =>
      rw [e] at h
      cases h
    | some m =>
      rw [e] at h
      exact rl_0 ps m r l' h
theorem rl_1 : ∀ (ps : List (List Bool)) (l r r' : Tree), r.rl ps = some r' → (N l r).rl (ps.map (true :: ·)) = some (N l r')
  | [], l, r, r', h => by
    cases h
    rfl
  | p :: ps, l, r, r', h => by
    have h : (r.ex p).bind (fun t' => t'.rl ps) = some r' := h
    show ((N l r).ex (true :: p)).bind (fun t' => t'.rl (ps.map (true :: ·))) = _
    rw [ex_1]
    cases e : r.ex p with
    | none =>
      rw [e] at h
      cases h
    | some m =>
      rw [e] at h
      exact rl_1 ps l m r' h
/-- the paths of the pairs, in the order of texts -/
def nd : Tree → List (List Bool)
  | L => []
  | N l r => [] :: (l.nd.map (false :: ·) ++ r.nd.map (true :: ·))
def fp : Tree → List (List Bool)
  | L => []
  | N a b => (a.fp.map (false :: ·) ++ b.fp.map (true :: ·)) ++ b.fe.nd
theorem rl_nd (a : Tree) : ∀ b : Tree, (N a b).rl b.nd = some (b.sub a)
  | L => rfl
  | N l r => by
    show ((N a (N l r)).ex []).bind (fun t' => t'.rl (l.nd.map (false :: ·) ++ r.nd.map (true :: ·))) = _
    show (N (N a l) (N a r)).rl (l.nd.map (false :: ·) ++ r.nd.map (true :: ·)) = _
    rw [rl_app, rl_0 l.nd (N a l) (N a r) (l.sub a) (rl_nd a l)]
    exact rl_1 r.nd (l.sub a) (N a r) (r.sub a) (rl_nd a r)
theorem rl_fp : ∀ t : Tree, t.rl t.fp = some t.fe
  | L => rfl
  | N a b => by
    show (N a b).rl ((a.fp.map (false :: ·) ++ b.fp.map (true :: ·)) ++ b.fe.nd) = _
    rw [rl_app, rl_app, rl_0 a.fp a b a.fe (rl_fp a)]
    show ((N a.fe b).rl (b.fp.map (true :: ·))).bind (fun t' => t'.rl b.fe.nd) = _
    rw [rl_1 b.fp a.fe b b.fe (rl_fp b)]
    exact rl_nd a.fe b.fe
theorem ex_dp : ∀ (t : Tree) (p : List Bool) (t' : Tree), t.ex p = some t' → t.dp ≤ t'.dp
  | N a (N b c), [], t', h => by
    cases h
    show max a.dp (max b.dp c.dp + 1) + 1 ≤ max (max a.dp b.dp + 1) (max a.dp c.dp + 1) + 1
    omega
  | N _ L, [], _, h => by cases h
  | L, [], _, h => by cases h
  | L, _ :: _, _, h => by cases h
  | N l r, false :: p, t', h => by
    rw [ex_0] at h
    cases e : l.ex p with
    | none =>
      rw [e] at h
      cases h
    | some m =>
      rw [e] at h
      cases h
      have := ex_dp l p m e
      show max l.dp r.dp + 1 ≤ max m.dp r.dp + 1
      omega
  | N l r, true :: p, t', h => by
    rw [ex_1] at h
    cases e : r.ex p with
    | none =>
      rw [e] at h
      cases h
    | some m =>
      rw [e] at h
      cases h
      have := ex_dp r p m e
      show max l.dp r.dp + 1 ≤ max l.dp m.dp + 1
      omega
theorem rl_dp : ∀ (ps : List (List Bool)) (t t' : Tree), t.rl ps = some t' → t.dp ≤ t'.dp
  | [], t, t', h => by
    cases h
    exact Nat.le_refl _
  | p :: ps, t, t', h => by
    have h : (t.ex p).bind (fun t' => t'.rl ps) = some t' := h
    cases e : t.ex p with
    | none =>
      rw [e] at h
      cases h
    | some m =>
      rw [e] at h
      exact Nat.le_trans (ex_dp t p m e) (rl_dp ps m t' h)
end Tree
/-! ### texts of paths -/
def pcs (p : List Bool) : List Nat := p.map fun b => if b then 49 else 48
def ptx (p : List Bool) : Str := ⟨(pcs p).toArray⟩
def Tree.st : Tree → List Bool → Option Tree
  | t, [] => some t
  | .L, _ :: _ => none
  | .N l r, b :: p => if b then r.st p else l.st p
def Tree.rp : Tree → List Bool → Tree → Option Tree
  | _, [], u => some u
  | .L, _ :: _, _ => none
  | .N l r, b :: p, u => if b then (r.rp p u).map fun r' => .N l r' else (l.rp p u).map fun l' => .N l' r
theorem Tree.st_nil (t : Tree) : t.st [] = some t := by cases t <;> rfl
theorem Tree.rp_nil (t u : Tree) : t.rp [] u = some u := by cases t <;> rfl
theorem Tree.ex_parts : ∀ (t : Tree) (p : List Bool) (t' : Tree), t.ex p = some t' → ∃ u u', t.st p = some u ∧ u.ex0 = some u' ∧ t.rp p u' = some t'
  | t, [], t', h => ⟨t, t', t.st_nil, by rw [← ex_nil]; exact h, t.rp_nil t'⟩
  | .L, _ :: _, _, h => by cases h
  | .N l r, false :: p, t', h => by
    rw [ex_0] at h
    cases e : l.ex p with
    | none =>
      rw [e] at h
      cases h
    | some m =>
      rw [e] at h
      cases h
      obtain ⟨u, u', h1, h2, h3⟩ := ex_parts l p m e
      refine ⟨u, u', h1, h2, ?_⟩
      show (l.rp p u').map (fun l' => Tree.N l' r) = _
      rw [h3]
      rfl
  | .N l r, true :: p, t', h => by
    rw [ex_1] at h
    cases e : r.ex p with
    | none =>
      rw [e] at h
      cases h
    | some m =>
      rw [e] at h
      cases h
      obtain ⟨u, u', h1, h2, h3⟩ := ex_parts r p m e
      refine ⟨u, u', h1, h2, ?_⟩
      show (r.rp p u').map (fun r' => Tree.N l r') = _
      rw [h3]
      rfl
theorem Tree.st_len : ∀ (t : Tree) (p : List Bool) (u : Tree), t.st p = some u → p.length + u.dp ≤ t.dp
  | t, [], u, h => by
    rw [st_nil] at h
    cases h
    show 0 + t.dp ≤ t.dp
    omega
  | .L, _ :: _, _, h => by cases h
  | .N l r, false :: p, u, h => by
    have h : l.st p = some u := h
    have := st_len l p u h
    show p.length + 1 + u.dp ≤ max l.dp r.dp + 1
    omega
  | .N l r, true :: p, u, h => by
    have h : r.st p = some u := h
    have := st_len r p u h
    show p.length + 1 + u.dp ≤ max l.dp r.dp + 1
    omega
/-! ### a loop over a text; an expression that is never asked -/
theorem pe_never {X : Cx} {e : Expr} : PE X e (fun _ _ _ => False) := ⟨fun _ _ _ _ _ _ h => h.elim⟩
theorem for_S {z : Str} {g : TG} {tb : TS} {D : Ends} {σ : L2.St} {G : Hp} (Pv : Nat → L2.St → Hp → Prop) (h0 : Pv 0 σ G)
    (hs : ∀ j c σ G, z.cps[j]? = some c → Pv j σ G → g (.str ⟨#[c]⟩) σ G fun σ2 G2 => tb { D with nx := Pv (j + 1), ct := Pv (j + 1), bk := D.nx } σ2 G2) (hd : ∀ σ G, Pv z.cps.size σ G → D.nx σ G) :
    ∃ Wd : Nat → Nat → L2.St → Hp → Prop, (∃ m, Wd 0 m σ G) ∧ ∀ j m σ G, Wd j m σ G →
      ((Its z).stop j G ∧ D.nx σ G) ∨ ((Its z).go j G ∧ ∃ Nn : L2.St → Hp → Prop, (∀ σ' G', Nn σ' G' → ∃ m', m' < m ∧ Wd (j + 1) m' σ' G') ∧ ∀ v G', (Its z).yld j G v G' → g v σ G' fun σ2 G2 => tb { D with nx := Nn, ct := Nn, bk := D.nx } σ2 G2) := by
  refine ⟨fun j m σ G => m = z.cps.size - j ∧ j ≤ z.cps.size ∧ Pv j σ G, ⟨_, rfl, Nat.zero_le _, h0⟩, ?_⟩
  rintro j m σ G ⟨rfl, le, pv⟩
  rcases Nat.lt_or_ge j z.cps.size with lt | ge
  · refine .inr ⟨lt, Pv (j + 1), fun σ' G' y => ⟨z.cps.size - (j + 1), by omega, rfl, lt, y⟩, fun v G' y => ?_⟩
    obtain ⟨rfl, c, hc, rfl⟩ := y
    exact hs j c σ _ hc pv
  · have ej : j = z.cps.size := Nat.le_antisymm le ge
    subst ej
    exact .inl ⟨Nat.le_refl _, hd σ G pv⟩
/-! ### promises -/
def spFsz (K : PySem.W.Frag) (n : Nat) : Sp := fun vs H Q _ => ∃ (v : V) (t : Tree), vs = [v] ∧ TA K H v t ∧ t.dp < n ∧ n ≤ 40 ∧ t.sz ≤ 20 ∧ ∀ H', Same H H' → Q (.int t.fsz) H'
def spSub (K : PySem.W.Frag) (n : Nat) : Sp := fun vs H Q _ => ∃ (v o : V) (t a : Tree), vs = [v, o] ∧ TA K H v t ∧ TA K H o a ∧ t.dp < n ∧ n ≤ 40 ∧ ∀ (u : V) (H' : Hp), TA K H' u (t.sub a) → Same H H' → Q u H'
def spFe (K : PySem.W.Frag) (n : Nat) : Sp := fun vs H Q _ => ∃ (v : V) (t : Tree), vs = [v] ∧ TA K H v t ∧ t.dp < n ∧ n ≤ 20 ∧ t.sz ≤ 12 ∧ ∀ (u : V) (H' : Hp), TA K H' u t.fe → Same H H' → Q u H'
def spSt (K : PySem.W.Frag) : Sp := fun vs H Q _ => ∃ (v : V) (t u : Tree) (p : List Bool), vs = [v, .str (ptx p)] ∧ TA K H v t ∧ t.dp ≤ 60 ∧ t.st p = some u ∧ ∀ (x : V) (H' : Hp), TA K H' x u → Same H H' → Q x H'
def spRp (K : PySem.W.Frag) (n : Nat) : Sp := fun vs H Q _ => ∃ (v w : V) (t u t' : Tree) (p : List Bool), vs = [v, .str (ptx p), w] ∧ TA K H v t ∧ TA K H w u ∧ p.length < n ∧ n ≤ 70 ∧ t.rp p u = some t' ∧ ∀ (x : V) (H' : Hp), TA K H' x t' → Same H H' → Q x H'
def spExp (K : PySem.W.Frag) : Sp := fun vs H Q _ => ∃ (v : V) (t u : Tree), vs = [v] ∧ TA K H v t ∧ t.dp ≤ 60 ∧ t.ex0 = some u ∧ ∀ (x : V) (H' : Hp), TA K H' x u → Same H H' → Q x H'
def spRw (K : PySem.W.Frag) : Sp := fun vs H Q _ => ∃ (v : V) (t t' : Tree) (p : List Bool), vs = [v, .str (ptx p), .bl true] ∧ TA K H v t ∧ t.dp ≤ 60 ∧ t.ex p = some t' ∧ ∀ (x : V) (H' : Hp), TA K H' x t' → Same H H' → Q x H'
theorem ptx_cps (p : List Bool) : (ptx p).cps.toList = pcs p := by
  show (pcs p).toArray.toList = _
  simp
theorem ptx_len (p : List Bool) : (ptx p).length = p.length := by
  show (pcs p).toArray.size = _
  simp [pcs]
theorem ptx_size (p : List Bool) : (ptx p).cps.size = p.length := ptx_len p
theorem pcs_at (p : List Bool) (j c : Nat) (h : (ptx p).cps[j]? = some c) : ∃ b, p[j]? = some b ∧ c = if b then 49 else 48 := by
  have h : (pcs p).toArray[j]? = some c := h
  rw [List.getElem?_toArray] at h
  unfold pcs at h
  rw [List.getElem?_map] at h
  cases e : p[j]? with
  | none =>
    rw [e] at h
    cases h
  | some b =>
    rw [e] at h
    cases h
    exact ⟨b, rfl, rfl⟩
theorem ptx_tail (b : Bool) (p : List Bool) : cutS (ptx (b :: p)) (some 1) none = ptx p := by
  unfold cutS
  rw [ptx_cps, ptx_len, show HT.sIx (b :: p).length 0 (some 1) = min 1 (b :: p).length from HT.sIx_nat _ _ 1, HT.sIx_none]
  have e : min 1 (b :: p).length = 1 := by
    rw [List.length_cons]
    omega
  rw [e]
  show (⟨((pcs p).take ((b :: p).length - 1)).toArray⟩ : Str) = ⟨(pcs p).toArray⟩
  rw [List.take_of_length_le]
  show (p.map _).length ≤ _
  rw [List.length_map, List.length_cons]
  exact Nat.le_refl _
theorem not_empty (b : Bool) (p : List Bool) : decide (V.str (ptx (b :: p)) = V.str (Str.ofString "")) = false := by
  refine decide_eq_false fun h => ?_
  have h1 := congrArg Str.length (V.str.inj h)
  rw [ptx_len] at h1
  cases h1
/-! ### enumerate(a tuple) -/
theorem enumT_new (q : Addr) (its : Array Value) (m : Nat) (dc : Option Addr) (so : Array (Option Value)) :
    PySem.Meets (Builtin.«enumerate.__new__» ⟨[.type "enumerate", .ref q], []⟩) (fun _ Rr st => st.heap.get? q = some { cls := .type "tuple", dict := dc, data := .seq its m, slots := so } ∧
      Rr (.ok (.ret (.ref (st.heap.push { cls := .type "tuple_iterator", data := .fields #[.ref q, .int 0 0] }).objs.size)))
        { st with heap := (st.heap.push { cls := .type "tuple_iterator", data := .fields #[.ref q, .int 0 0] }).push { cls := .type "enumerate", data := .fields #[.none, .bool false, .ref st.heap.objs.size, rawInt 0, .none, .none] } }) :=
  .of_wp fun prog w A Rr st y => by
    obtain ⟨hp, gg, dd, tk, oo⟩ := st
    obtain ⟨hl, y⟩ := y
    have hsub := PySem.sub_enumerate
    have hT : PySem.Heap.IsTuple (Shared.heap ⟨hp, gg, dd, tk, oo⟩) q its := ⟨_, hl, rfl, m, rfl⟩
    wp_walk using PySem.AutoSeq1.wpAny_loadPart' hl
    refine wpAny_stack_any fun ss => wpAny_pure ?_
    split
    · rename_i cc _ _ _ _ _
      cases (cc == Value.type "enumerate")
      · wp_walk using PySem.AutoSeq1.wpAny_loadPart' hl, PySem.wpAny_pyIter_tuple hT
        exact ⟨_, rfl, y⟩
      · wp_walk using PySem.AutoSeq1.wpAny_loadPart' hl, PySem.wpAny_pyIter_tuple hT
        exact ⟨_, rfl, y⟩
    · wp_walk using PySem.AutoSeq1.wpAny_loadPart' hl, PySem.wpAny_pyIter_tuple hT
      exact ⟨_, rfl, y⟩
theorem enumT_call {prog : Program} {w : World} {A : Around} {Ex : Value → Shared → Prop} {st : Shared} {q : Addr} {its : Array Value} {Qq : Value → Shared → Prop} (hT : st.heap.IsTuple q its)
    (y : ∀ g', PySem.IsEnum g' (st.heap.objs.size + 1) st.heap.objs.size 0 .none → g'.IsTupleIter st.heap.objs.size q 0 → (∀ b o, st.heap.get? b = some o → g'.get? b = some o) → Qq (.ref (st.heap.objs.size + 1)) { st with heap := g' }) :
    wpAny (model prog w) A (call (.type "enumerate") [.ref q]) Qq Ex st := by
  obtain ⟨⟨cc, dc, dt, so⟩, hl, h1, m, h2⟩ := hT
  have h1 : cc = .type "tuple" := h1
  have h2 : dt = .seq its m := h2
  subst h1 h2
  refine PySem.callType_new PySem.F.called_enumerate (by decide) (PySem.F.typeCall_enumerate_1 _) (PySem.F.newCall_enumerate_1 _) (fun ob => PySem.F.args_object_init_2 ob _) PySem.F.entry_enumerate_new (enumT_new q its m dc so) ⟨hl, ?_⟩
  have e1 : (st.heap.push { cls := .type "tuple_iterator", data := .fields #[.ref q, .int 0 0] }).objs.size = st.heap.objs.size + 1 := Heap.size_push ..
  show _ ∧ _
  rw [e1]
  have e2 : PySem.IsEnum ((st.heap.push { cls := .type "tuple_iterator", data := .fields #[.ref q, .int 0 0] }).push { cls := .type "enumerate", data := .fields #[.none, .bool false, .ref st.heap.objs.size, rawInt 0, .none, .none] }) (st.heap.objs.size + 1) st.heap.objs.size 0 .none := by
    have e3 := Heap.get?_push_size (st.heap.push { cls := .type "tuple_iterator", data := .fields #[.ref q, .int 0 0] }) (o := { cls := .type "enumerate", data := .fields #[.none, .bool false, .ref st.heap.objs.size, rawInt 0, .none, .none] }) rfl
    rw [e1] at e3
    exact e3
  exact ⟨⟨_, e2, rfl⟩, y _ e2 ⟨_, Heap.get?_push_of_some _ (Heap.get?_push_size _ rfl), rfl, rfl⟩ fun b o z => Heap.get?_push_of_some _ (Heap.get?_push_of_some _ z)⟩
/-- the tuple at q, each item in a new pair -/
def ItET (Kf : PySem.W.Frag) (q : Addr) : It :=
  ⟨fun j G => ∃ (xs : List V) (v : V), SqT Kf G q xs ∧ xs[j]? = some v, fun j G v G' => ∃ p u, v = .ref p ∧ G p = none ∧ G' = upd G p (.tup [.int (j : Nat), u]) ∧ ∀ xs, SqT Kf G q xs → xs[j]? = some u, fun j G => ∃ xs : List V, SqT Kf G q xs ∧ xs.length = j⟩
theorem turn_ET {Pr : Program} {wo : World} {Kf : PySem.W.Frag} {ts : List Expr} {nn : Nat} {tp : Pos} (q en it : Addr) :
    Turn Pr wo Kf (.Tuple ts nn tp) (ItET Kf q) [en, it] en (fun j g => (∃ old, PySem.IsEnum g en it ((j : Nat) : Int) old) ∧ g.IsTupleIter it q j ∧ en ≠ it) where
  mem := List.mem_cons_self
  obj := fun j g st b hb => by
    obtain ⟨⟨old, h1⟩, ⟨ob, h2, h3, h4⟩, _⟩ := st
    rcases List.mem_cons.mp hb with rfl | hb
    · exact ⟨_, h1, fun v y => nomatch y⟩
    · cases List.mem_singleton.mp hb
      refine ⟨ob, h2, fun v y => ?_⟩
      rw [h4] at y
      cases y
  keep := fun j g g' st kk => by
    obtain ⟨⟨old, h1⟩, ⟨ob, h2, h3⟩, h5⟩ := st
    exact ⟨⟨old, kk en List.mem_cons_self _ h1⟩, ⟨ob, kk it (List.mem_cons_of_mem _ List.mem_cons_self) _ h2, h3⟩, h5⟩
  item := by
    intro X e1 e2 e3 calm j pins s σ G Ex inv fp st lt
    cases e1
    cases e2
    cases e3
    obtain ⟨⟨old, h1⟩, h2, ne⟩ := st
    obtain ⟨xs, v, hq, hv⟩ := lt
    obtain ⟨its, rv, hT, hz⟩ := inv.tuple hq
    obtain ⟨u, hu, ru⟩ := rv.get hv
    have l1 : en < s.heap.objs.size := Heap.lt_size h1
    have l2 : it < s.heap.objs.size := by
      obtain ⟨_, y, _⟩ := h2
      exact Heap.lt_size y
    have nqi : q ≠ it := fun z => by
      obtain ⟨o1, y1, y2, _⟩ := hT
      obtain ⟨o2, y3, y4, _⟩ := h2
      rw [z, y3] at y1
      cases y1
      rw [y4] at y2
      exact absurd y2 (by decide +kernel)
    have nqe : en ≠ q := fun z => by
      obtain ⟨o1, y1, y2, _⟩ := hT
      rw [← z, h1] at y1
      cases y1
      exact absurd (show Value.type "enumerate" = Value.type "tuple" from y2) (by decide +kernel)
    have lt : j < its.toArray.size := by
      have y := (List.getElem?_eq_some_iff.mp hu).1
      simpa using y
    refine PySem.wpAny_pyNext_enum_itemD (PySem.Draws.tuple (show X.A.in1.handled = none from inv.ok.hd calm) it q nqi its.toArray) h1 ⟨h2, hT⟩ lt ne (fun y => ?_) fun u' g' t2 hu' out h2' hT' sz kp => ?_
    · rcases List.mem_cons.mp y with z | z
      · exact ne z
      · exact nqe (List.mem_singleton.mp z)
    have eu : u' = u := by
      have y : its.toArray[j]? = some u' := hu'
      rw [List.getElem?_toArray, hu] at y
      exact (Option.some.inj y).symm
    subst eu
    refine ⟨_, rfl, PySem.wpAny_letOwnedTupleGo_enum (s := { s with heap := g', toks := t2 + 1 }) out fun g'' h1' sb => ?_⟩
    have hT2 : g''.get? s.heap.objs.size = some { cls := .type "tuple", data := .seq #[.int j t2, u'] } := (sb.2 _ (Nat.ne_of_gt l1)).trans hT'
    have made : ObjOk X.prog X.w (upd G s.heap.objs.size (.tup [.int (j : Nat), v])) g'' s.heap.objs.size (.tup [.int (j : Nat), v]) :=
      ⟨two_le, [.int j t2, u'], .cons ⟨_, rfl⟩ (.cons ru .nil), ⟨_, hT2, rfl, _, rfl⟩⟩
    have inv' : Inv X pins σ (upd G s.heap.objs.size (.tup [.int (j : Nat), v])) { s with heap := g'', toks := t2 + 1 } := by
      refine Inv.turnedNew (ch := [en, it]) inv (fun b ob nb y => ?_) fp (Nat.le_refl _) made
      have n1 : b ≠ en := fun y => nb (by rw [y]; exact List.mem_cons_self)
      have n2 : b ≠ it := fun y => nb (by rw [y]; exact List.mem_cons_of_mem _ List.mem_cons_self)
      exact (sb.2 b n1).trans (kp b ob n1 n2 y)
    refine ⟨.ref s.heap.objs.size, _, inv', rfl, ⟨_, v, rfl, inv.hok.fresh (Nat.le_refl _), rfl, fun ys hy => by rw [inv.tuple_inj hy hq]; exact hv⟩, ⟨⟨u', ?_⟩, ?_, ne⟩, fun b hb => ?_⟩
    · rw [show (((j + 1 : Nat) : Nat) : Int) = (j : Int) + 1 by omega]
      exact h1'
    · obtain ⟨ob, y1, y2⟩ := h2'.1
      exact ⟨ob, (sb.2 it (Ne.symm ne)).trans y1, y2⟩
    · have lb : b < s.heap.objs.size := by
        rcases List.mem_cons.mp hb with rfl | hb
        · exact l1
        · cases List.mem_singleton.mp hb
          exact l2
      rw [upd_ne (Nat.ne_of_lt lb)]
      exact (fp b hb).1
  done := by
    intro X e1 e2 e3 calm j pins s σ G Ex inv fp st ge
    cases e1
    cases e2
    cases e3
    obtain ⟨⟨old, h1⟩, h2, ne⟩ := st
    obtain ⟨xs, hq, hl⟩ := ge
    obtain ⟨its, rv, hT, hz⟩ := inv.tuple hq
    have nqi : q ≠ it := fun z => by
      obtain ⟨o1, y1, y2, _⟩ := hT
      obtain ⟨o2, y3, y4, _⟩ := h2
      rw [z, y3] at y1
      cases y1
      rw [y4] at y2
      exact absurd y2 (by decide +kernel)
    have ej : j = its.toArray.size := by
      have := rv.length
      rw [List.size_toArray]
      omega
    subst ej
    obtain ⟨f0, f1, f2, f3, f4, f5⟩ := fp it (List.mem_cons_of_mem _ List.mem_cons_self)
    exact PySem.wpAny_pyNext_enum_endD (PySem.Draws.tuple (show X.A.in1.handled = none from inv.ok.hd calm) it q nqi its.toArray) h1 ⟨h2, hT⟩ fun g' eb => ⟨rfl, inv.turned (t' := s.toks) (fun b o nb y => eb b o nb y) f0 f1 f3 f4 f5⟩
  self := fun Ar j s Q Ex st y => by
    obtain ⟨⟨_, h1⟩, _⟩ := st
    exact PySem.wpAny_pyIter_enum h1 y
def iET (Kf : PySem.W.Frag) (ta : L2.TA) : TI := fun σ G R => ta σ G fun vs G1 => ∃ q xs, vs = [.ref q] ∧ SqT Kf G1 q xs ∧ R (ItET Kf q) G1
theorem pi_ET {X : Cx} {ex : Expr} {ta : L2.TA} {p pos tp : Pos} {ts : List Expr} {nn : Nat} (gl : Gl X "enumerate") (mm : X.mg "enumerate" = none) (ha : PA X [ex] ta) (hs : starEach [ex] X.env = [(false, eval ex X.env)] := by rfl) :
    PI X (.Tuple ts nn tp) (.Call (.Name "enumerate" p) [ex] [] pos) (iET X.K ta) := by
  refine ⟨fun pins s σ G R inv y => ?_⟩
  refine PyProof.Rows.Call_ (ld_blt inv gl mm PyProof.Rows.boot_enumerate (PyProof.Rows.callWith_type1 (thn (ha.run pos pins s σ G _ inv y) fun us s1 ⟨vs, G1, inv1, r1, q1⟩ => ?_) hs rfl))
  obtain ⟨q, xs, rfl, hq, k⟩ := q1
  cases r1 with
  | cons r rr =>
    cases rr
    cases r
    obtain ⟨its, rv, hT, hz⟩ := inv1.tuple hq
    refine enumT_call hT fun g' h1 h2 kp => PySem.wpAny_pyIter_enum h1 ?_
    refine ⟨s1.heap.objs.size + 1, [s1.heap.objs.size + 1, s1.heap.objs.size], _, _, G1, rfl, inv1.kept (t' := s1.toks) kp, turn_ET q (s1.heap.objs.size + 1) s1.heap.objs.size, ⟨⟨.none, h1⟩, h2, Nat.succ_ne_self _⟩, fun b hb => ?_, k⟩
    have ge : s1.heap.objs.size ≤ b := by
      rcases List.mem_cons.mp hb with rfl | hb
      · exact Nat.le_succ _
      · cases List.mem_singleton.mp hb
        exact Nat.le_refl _
    exact inv1.fpOk ge (inv1.hok.fresh ge)
theorem for_ET {Kf : PySem.W.Frag} {q : Addr} {xs : List V} {g : TG} {tb : TS} {D : Ends} {σ : L2.St} {G : Hp} (Pv : Nat → L2.St → Hp → Prop) (h0 : Pv 0 σ G) (hl : ∀ j σ G, Pv j σ G → SqT Kf G q xs)
    (hs : ∀ j v σ G, xs[j]? = some v → Pv j σ G → ∀ p, G p = none → g (.ref p) σ (upd G p (.tup [.int (j : Nat), v])) fun σ2 G2 => tb { D with nx := Pv (j + 1), ct := Pv (j + 1), bk := D.nx } σ2 G2) (hd : ∀ σ G, Pv xs.length σ G → D.nx σ G) :
    ∃ Wd : Nat → Nat → L2.St → Hp → Prop, (∃ m, Wd 0 m σ G) ∧ ∀ j m σ G, Wd j m σ G →
      ((ItET Kf q).stop j G ∧ D.nx σ G) ∨ ((ItET Kf q).go j G ∧ ∃ Nn : L2.St → Hp → Prop, (∀ σ' G', Nn σ' G' → ∃ m', m' < m ∧ Wd (j + 1) m' σ' G') ∧ ∀ v G', (ItET Kf q).yld j G v G' → g v σ G' fun σ2 G2 => tb { D with nx := Nn, ct := Nn, bk := D.nx } σ2 G2) := by
  refine ⟨fun j m σ G => m = xs.length - j ∧ j ≤ xs.length ∧ Pv j σ G, ⟨_, rfl, Nat.zero_le _, h0⟩, ?_⟩
  rintro j m σ G ⟨rfl, le, pv⟩
  have hq := hl j σ G pv
  rcases Nat.lt_or_ge j xs.length with lt | ge
  · refine .inr ⟨⟨xs, xs[j], hq, List.getElem?_eq_getElem lt⟩, Pv (j + 1), fun σ' G' y => ⟨xs.length - (j + 1), by omega, rfl, lt, y⟩, fun v G' y => ?_⟩
    obtain ⟨p, u, rfl, np, rfl, hu⟩ := y
    exact hs j u σ G (hu xs hq) pv p np
  · have ej : j = xs.length := Nat.le_antisymm le ge
    subst ej
    exact .inl ⟨⟨xs, hq, rfl⟩, hd σ G pv⟩
/-! ### the pool: numbered terms -/
theorem fne1 : ¬ (("numbers" : Str) = "pairs") := by decide +kernel
theorem fne2 : ¬ (("numbers" : Str) = "sizes") := by decide +kernel
theorem fne3 : ¬ (("numbers" : Str) = "terms") := by decide +kernel
theorem fne4 : ¬ (("pairs" : Str) = "sizes") := by decide +kernel
theorem fne5 : ¬ (("pairs" : Str) = "terms") := by decide +kernel
theorem fne6 : ¬ (("sizes" : Str) = "terms") := by decide +kernel
def pf (d a b c : Addr) : List (Str × V) := putF "terms" (.ref c) (putF "sizes" (.ref b) (putF "pairs" (.ref a) (putF "numbers" (.ref d) [])))
theorem pf_n (d a b c : Addr) : (pf d a b c).lookup ("numbers" : Str) = some (.ref d) := by
  unfold pf
  rw [lookup_putF, if_neg fne3, lookup_putF, if_neg fne2, lookup_putF, if_neg fne1, lookup_putF, if_pos rfl]
theorem pf_p (d a b c : Addr) : (pf d a b c).lookup ("pairs" : Str) = some (.ref a) := by
  unfold pf
  rw [lookup_putF, if_neg fne5, lookup_putF, if_neg fne4, lookup_putF, if_pos rfl]
theorem pf_s (d a b c : Addr) : (pf d a b c).lookup ("sizes" : Str) = some (.ref b) := by
  unfold pf
  rw [lookup_putF, if_neg fne6, lookup_putF, if_pos rfl]
theorem pf_t (d a b c : Addr) : (pf d a b c).lookup ("terms" : Str) = some (.ref c) := by
  unfold pf
  rw [lookup_putF, if_pos rfl]
theorem pf_no (d a b c : Addr) {m : Str} (h1 : ¬ m = "terms") (h2 : ¬ m = "sizes") (h3 : ¬ m = "pairs") (h4 : ¬ m = "numbers") : (pf d a b c).lookup m = none := by
  unfold pf
  rw [lookup_putF, if_neg h1, lookup_putF, if_neg h2, lookup_putF, if_neg h3, lookup_putF, if_neg h4]
  rfl
abbrev key2 (l r : Nat) : List Key := [Sum.inl (l : Int), Sum.inl (r : Int)]
def kv : List (Nat × Nat) → Nat → List (List Key × V)
  | [], _ => []
  | (l, r) :: es, i => (key2 l r, .int i) :: kv es (i + 1)
theorem kv_snoc : ∀ (es : List (Nat × Nat)) (i l r : Nat), kv (es ++ [(l, r)]) i = kv es i ++ [(key2 l r, .int ((i + es.length : Nat) : Int))]
  | [], i, l, r => rfl
  | (l', r') :: es, i, l, r => by
    show (key2 l' r', V.int i) :: kv (es ++ [(l, r)]) (i + 1) = (key2 l' r', V.int i) :: (kv es (i + 1) ++ _)
    rw [kv_snoc es (i + 1) l r, show i + 1 + es.length = i + (es.length + 1) by omega]
    rfl
theorem kv_len : ∀ (es : List (Nat × Nat)) (i : Nat), (kv es i).length = es.length
  | [], _ => rfl
  | (_, _) :: es, i => congrArg (· + 1) (kv_len es (i + 1))
theorem key2_inj {l r l' r' : Nat} (h : key2 l r = key2 l' r') : l = l' ∧ r = r' := by
  have h1 : (Sum.inl (l : Int) : Key) = Sum.inl (l' : Int) := (List.cons.inj h).1
  have h2 : (Sum.inl (r : Int) : Key) = Sum.inl (r' : Int) := (List.cons.inj (List.cons.inj h).2).1
  exact ⟨by have := Sum.inl.inj h1; omega, by have := Sum.inl.inj h2; omega⟩
theorem kv_some : ∀ (es : List (Nat × Nat)) (i l r : Nat) (v : V), valV (kv es i) (key2 l r) = some v → ∃ n : Nat, v = .int ((n + i : Nat) : Int) ∧ es[n]? = some (l, r)
  | [], i, l, r, v, h => by cases h
  | (l', r') :: es, i, l, r, v, h => by
    have h : valV ((key2 l' r', V.int i) :: kv es (i + 1)) (key2 l r) = some v := h
    by_cases e : key2 l' r' = key2 l r
    · rw [valV_pos e] at h
      cases h
      obtain ⟨rfl, rfl⟩ := key2_inj e
      exact ⟨0, by rw [Nat.zero_add], rfl⟩
    · rw [valV_neg e] at h
      obtain ⟨n, h1, h2⟩ := kv_some es (i + 1) l r v h
      exact ⟨n + 1, by rw [h1]; congr 2; omega, h2⟩
theorem val_none {kvs : List (List Key × V)} {k : List Key} (h : valV kvs k = none) : (kvs.any fun kv => decide (kv.1 = k)) = false := by
  induction kvs with
  | nil => rfl
  | cons p r ih =>
    by_cases e : p.1 = k
    · rw [valV_pos e] at h
      cases h
    · rw [valV_neg e] at h
      rw [List.any_cons, decide_eq_false e, ih h]
      rfl
theorem val_snoc {kvs : List (List Key × V)} {k : List Key} {v : V} (h : valV kvs k = none) : valV (kvs ++ [(k, v)]) k = some v := by
  induction kvs with
  | nil => exact valV_pos rfl
  | cons p r ih =>
    by_cases e : p.1 = k
    · rw [valV_pos e] at h
      cases h
    · rw [valV_neg e] at h
      show valV (p :: (r ++ [(k, v)])) k = some v
      rw [valV_neg e]
      exact ih h
/-- the numbers' operands and their terms -/
structure Good (es : List (Nat × Nat)) (ts : List Tree) : Prop where
  len : ts.length = es.length + 1
  zero : ts[0]? = some .L
  pair : ∀ i l r, es[i]? = some (l, r) → ∃ tl tr, ts[l]? = some tl ∧ ts[r]? = some tr ∧ ts[i + 1]? = some (.N tl tr)
structure Ops (K : PySem.W.Frag) (H : Hp) (ps : List V) (es : List (Nat × Nat)) : Prop where
  len : ps.length = es.length + 1
  zero : ∃ q, ps[0]? = some (.ref q) ∧ SqT K H q []
  pair : ∀ i l r, es[i]? = some (l, r) → ∃ q, ps[i + 1]? = some (.ref q) ∧ SqT K H q [.int (l : Nat), .int (r : Nat)]
theorem Ops.mono {K : PySem.W.Frag} {H H' : Hp} {ps : List V} {es : List (Nat × Nat)} (e : Tp H H') (o : Ops K H ps es) : Ops K H' ps es :=
  ⟨o.len, let ⟨q, h1, h2⟩ := o.zero; ⟨q, h1, e.sqT h2⟩, fun i l r h => let ⟨q, h1, h2⟩ := o.pair i l r h; ⟨q, h1, e.sqT h2⟩⟩
def PoolA (K : PySem.W.Frag) (C x d a b c : Addr) (H : Hp) (ts : List Tree) : Prop := ∃ (dx : Addr) (es : List (Nat × Nat)) (ps cs : List V),
  H x = some (.ins C dx (pf d a b c)) ∧ H d = some (.dT (kv es 1)) ∧ H a = some (.lst ps) ∧ H b = some (.lst (ts.map fun t => V.int (t.sz : Nat))) ∧ H c = some (.lst cs) ∧ a ≠ b ∧ a ≠ c ∧ b ≠ c ∧ Good es ts ∧ Ops K H ps es ∧ DpAll K H cs (ts.map Tree.d)
/-- all but the pool's own objects stays -/
def Ex4 (d a b c : Addr) (H H' : Hp) : Prop := ∀ q o, H q = some o → q ≠ d → q ≠ a → q ≠ b → q ≠ c → H' q = some o
theorem Ex4.trans {d a b c : Addr} {H H1 H2 : Hp} (e : Ex4 d a b c H H1) (e' : Ex4 d a b c H1 H2) : Ex4 d a b c H H2 := fun q o h h1 h2 h3 h4 => e' q o (e q o h h1 h2 h3 h4) h1 h2 h3 h4
theorem Ex4.same {d a b c : Addr} {H H' : Hp} (e : Same H H') : Ex4 d a b c H H' := fun q o h _ _ _ _ => e q o h
theorem Ex4.refl {d a b c : Addr} {H : Hp} : Ex4 d a b c H H := fun _ _ h _ _ _ _ => h
theorem PoolA.same {K : PySem.W.Frag} {C x d a b c : Addr} {H H' : Hp} {ts : List Tree} (e : Same H H') (p : PoolA K C x d a b c H ts) : PoolA K C x d a b c H' ts := by
  obtain ⟨dx, es, ps, cs, h1, h2, h3, h4, h5, n1, n2, n3, g, o, dd⟩ := p
  exact ⟨dx, es, ps, cs, e _ _ h1, e _ _ h2, e _ _ h3, e _ _ h4, e _ _ h5, n1, n2, n3, g, o.mono (Tp.same e), dp_sameAll e _ dd⟩
theorem PoolA.tp {K : PySem.W.Frag} {C x d a b c : Addr} {H H' : Hp} {ts : List Tree} (p : PoolA K C x d a b c H ts) (e : Ex4 d a b c H H') : Tp H H' := by
  obtain ⟨dx, es, ps, cs, h1, h2, h3, h4, h5, _⟩ := p
  intro q xs h
  have k : ∀ o, H q = some o → (∀ kvs, o ≠ .dT kvs) → (∀ ys, o ≠ .lst ys) → H' q = some o := fun o ho k1 k2 =>
    e q o ho (fun z => k1 _ (Option.some.inj (ho.symm.trans (z ▸ h2)))) (fun z => k2 _ (Option.some.inj (ho.symm.trans (z ▸ h3)))) (fun z => k2 _ (Option.some.inj (ho.symm.trans (z ▸ h4)))) (fun z => k2 _ (Option.some.inj (ho.symm.trans (z ▸ h5))))
  rcases h with h | ⟨o, h⟩
  · exact .inl (k _ h (fun _ z => by cases z) (fun _ z => by cases z))
  · exact .inr ⟨o, k _ h (fun _ z => by cases z) (fun _ z => by cases z)⟩
def Pre (ts ts' : List Tree) : Prop := ∀ (i : Nat) (t : Tree), ts[i]? = some t → ts'[i]? = some t
theorem Pre.trans {a b c : List Tree} (h : Pre a b) (h' : Pre b c) : Pre a c := fun i t e => h' i t (h i t e)
structure PoolT (K : PySem.W.Frag) (mg : Str → Option Value) (C : Addr) : Prop where
  cl : Cls K C
  n1 : NoAttr K C "numbers"
  n2 : NoAttr K C "pairs"
  n3 : NoAttr K C "sizes"
  n4 : NoAttr K C "terms"
  mgC : mg "Pool" = some (.ref C)
def spPInit (K : PySem.W.Frag) (C : Addr) : Sp := fun vs H Q _ => ∃ (H0 : Hp) (x dx : Addr), vs = [.ref x] ∧ Same H0 H ∧ H0 x = none ∧ H x = some (.ins C dx []) ∧
  ∀ (d a b c : Addr) (H' : Hp), PoolA K C x d a b c H' [.L] → Same H0 H' → H0 d = none → H0 a = none → H0 b = none → H0 c = none → Q .non H'
def spPair (K : PySem.W.Frag) (C : Addr) : Sp := fun vs H Q _ => ∃ (x d a b c : Addr) (l r : Nat) (ts : List Tree) (tl tr : Tree), vs = [.ref x, .int l, .int r] ∧ PoolA K C x d a b c H ts ∧ ts.length ≤ 1000000 ∧ ts[l]? = some tl ∧ ts[r]? = some tr ∧
  ∀ (n : Nat) (ts' : List Tree) (H' : Hp), PoolA K C x d a b c H' ts' → Ex4 d a b c H H' → Pre ts ts' → ts'[n]? = some (.N tl tr) → ts'.length ≤ ts.length + 1 → Q (.int n) H'
def spNum (K : PySem.W.Frag) (C : Addr) (n : Nat) : Sp := fun vs H Q _ => ∃ (x d a b c : Addr) (v : V) (t : Tree) (ts : List Tree), vs = [.ref x, v] ∧ PoolA K C x d a b c H ts ∧ TA K H v t ∧ t.dp < n ∧ n ≤ 40 ∧ ts.length + t.nodes ≤ 1000000 ∧
  ∀ (m : Nat) (ts' : List Tree) (H' : Hp), PoolA K C x d a b c H' ts' → Ex4 d a b c H H' → Pre ts ts' → ts'[m]? = some t → ts'.length ≤ ts.length + t.nodes → Q (.int m) H'
theorem mil {n : Nat} (h : n ≤ 1000000) : n < sizeLine := Nat.lt_of_le_of_lt h (by decide)
/-! ### what the pool tells of a number -/
theorem PoolA.at {K : PySem.W.Frag} {C x d a b c : Addr} {H : Hp} {ts : List Tree} (p : PoolA K C x d a b c H ts) {m : Nat} {t : Tree} (hm : ts[m]? = some t) :
    ∃ (dx : Addr) (ps : List V) (q : Addr) (ops : List V), H x = some (.ins C dx (pf d a b c)) ∧ H a = some (.lst ps) ∧ ps[m]? = some (.ref q) ∧ SqT K H q ops ∧
      match t with
      | .L => ops = []
      | .N tl tr => ∃ l r : Nat, ops = [.int (l : Nat), .int (r : Nat)] ∧ ts[l]? = some tl ∧ ts[r]? = some tr := by
  obtain ⟨dx, es, ps, cs, hx, hd, ha, hb, hc, n1, n2, n3, g, o, dd⟩ := p
  cases m with
  | zero =>
    rw [g.zero] at hm
    cases hm
    obtain ⟨q, h1, h2⟩ := o.zero
    exact ⟨dx, ps, q, [], hx, ha, h1, h2, rfl⟩
  | succ i =>
    have hi : i < es.length := by
      have := (List.getElem?_eq_some_iff.mp hm).1
      have := g.len
      omega
    obtain ⟨tl, tr, h1, h2, h3⟩ := g.pair i es[i].1 es[i].2 (List.getElem?_eq_getElem hi)
    rw [h3] at hm
    cases hm
    obtain ⟨q, h4, h5⟩ := o.pair i es[i].1 es[i].2 (List.getElem?_eq_getElem hi)
    exact ⟨dx, ps, q, _, hx, ha, h4, h5, es[i].1, es[i].2, rfl, h1, h2⟩
theorem ops_L {K : PySem.W.Frag} {H : Hp} {q : Addr} (h : SqT K H q []) : Dp K H (.ref q) (.tuple []) := Dp.tup h .nil
theorem ops_N {K : PySem.W.Frag} {H : Hp} {q : Addr} {l r : Nat} (h : SqT K H q [.int (l : Nat), .int (r : Nat)]) : Dp K H (.ref q) (.tuple [.int (l : Nat), .int (r : Nat)]) := Dp.tup h (.cons (.int _) (.cons (.int _) .nil))
theorem ops_sh (l r : Nat) : SeqAt.shaped (.tuple [.int (l : Nat), .int (r : Nat)]) = true := rfl
theorem ops_ne (l r : Nat) : PyData.eqv (.tuple [.int (l : Nat), .int (r : Nat)]) (.tuple []) = false := rfl
def spSpread (K : PySem.W.Frag) (C : Addr) (n : Nat) : Sp := fun vs H Q _ => ∃ (x d a b c : Addr) (k m : Nat) (ts : List Tree) (tk t : Tree), vs = [.ref x, .int k, .int m] ∧ PoolA K C x d a b c H ts ∧ ts[k]? = some tk ∧ ts[m]? = some t ∧ t.dp < n ∧ ts.length + t.nodes ≤ 1000000 ∧
  ∀ (j : Nat) (ts' : List Tree) (H' : Hp), PoolA K C x d a b c H' ts' → Ex4 d a b c H H' → Pre ts ts' → ts'[j]? = some (t.sub tk) → ts'.length ≤ ts.length + t.nodes → Q (.int j) H'
def Tree.fnc : Tree → Nat
  | .L => 0
  | .N a b => a.fnc + b.fnc + b.fe.nodes
def spFull (K : PySem.W.Frag) (C : Addr) (n : Nat) : Sp := fun vs H Q _ => ∃ (x d a b c : Addr) (m : Nat) (ts : List Tree) (t : Tree), vs = [.ref x, .int m] ∧ PoolA K C x d a b c H ts ∧ ts[m]? = some t ∧ t.dp < n ∧ n ≤ 40 ∧ t.sz ≤ 12 ∧ ts.length + t.fnc ≤ 1000000 ∧
  ∀ (j : Nat) (ts' : List Tree) (H' : Hp), PoolA K C x d a b c H' ts' → Ex4 d a b c H H' → Pre ts ts' → ts'[j]? = some t.fe → ts'.length ≤ ts.length + t.fnc → Q (.int j) H'
/-- the places of a term: a path and the term there -/
def Tree.pl : Tree → List Bool → List (List Bool × Tree)
  | .L, p => [(p, .L)]
  | .N l r, p => (p, .N l r) :: (l.pl (p ++ [false]) ++ r.pl (p ++ [true]))
inductive PlA (K : PySem.W.Frag) (H : Hp) (ts : List Tree) : List V → List (List Bool × Tree) → Prop
  | nil : PlA K H ts [] []
  | cons {q : Addr} {k : Nat} {p : List Bool} {t : Tree} {vs : List V} {ys : List (List Bool × Tree)} : SqT K H q [.str (ptx p), .int (k : Nat)] → ts[k]? = some t → PlA K H ts vs ys → PlA K H ts (.ref q :: vs) ((p, t) :: ys)
theorem PlA.mono {K : PySem.W.Frag} {H H' : Hp} {ts ts' : List Tree} (e : Tp H H') (pr : Pre ts ts') : ∀ {vs : List V} {ys : List (List Bool × Tree)}, PlA K H ts vs ys → PlA K H' ts' vs ys
  | _, _, .nil => .nil
  | _, _, .cons h1 h2 h3 => .cons (e.sqT h1) (pr _ _ h2) (PlA.mono e pr h3)
theorem PlA.app {K : PySem.W.Frag} {H : Hp} {ts : List Tree} : ∀ {vs ws : List V} {ys zs : List (List Bool × Tree)}, PlA K H ts vs ys → PlA K H ts ws zs → PlA K H ts (vs ++ ws) (ys ++ zs)
  | _, _, _, _, .nil, h => h
  | _, _, _, _, .cons h1 h2 h3, h => .cons h1 h2 (PlA.app h3 h)
theorem PlA.len {K : PySem.W.Frag} {H : Hp} {ts : List Tree} : ∀ {vs : List V} {ys : List (List Bool × Tree)}, PlA K H ts vs ys → vs.length = ys.length
  | _, _, .nil => rfl
  | _, _, .cons _ _ h3 => congrArg (· + 1) (PlA.len h3)
theorem Tree.pl_len : ∀ (t : Tree) (p : List Bool), (t.pl p).length = t.nodes
  | .L, _ => rfl
  | .N l r, p => by
    show ((p, Tree.N l r) :: (l.pl (p ++ [false]) ++ r.pl (p ++ [true]))).length = l.nodes + r.nodes + 1
    rw [List.length_cons, List.length_append, pl_len l, pl_len r]
theorem Tree.nodes_sz : ∀ t : Tree, t.nodes + 1 = 2 * t.sz
  | .L => rfl
  | .N l r => by
    have h1 := nodes_sz l
    have h2 := nodes_sz r
    show l.nodes + r.nodes + 1 + 1 = 2 * (l.sz + r.sz)
    omega
def spPlaces (K : PySem.W.Frag) (C : Addr) (n : Nat) : Sp := fun vs H Q _ => ∃ (x d a b c : Addr) (m : Nat) (p : List Bool) (ts : List Tree) (t : Tree), vs = [.ref x, .int m, .str (ptx p)] ∧ PoolA K C x d a b c H ts ∧ ts[m]? = some t ∧ t.dp < n ∧ p.length + n ≤ 100 ∧ t.nodes ≤ 5000 ∧
  ∀ (z : Addr) (ws : List V) (H' : Hp), Same H H' → H z = none → H' z = some (.lst ws) → PlA K H' ts ws (t.pl p) → Q (.ref z) H'
theorem ptx_snoc0 (p : List Bool) : ptx p ++ Str.ofString "0" = ptx (p ++ [false]) := by
  show (⟨(pcs p).toArray ++ #[48]⟩ : Str) = ⟨(pcs (p ++ [false])).toArray⟩
  unfold pcs
  rw [List.map_append]
  congr 1
  apply Array.toList_inj.mp
  simp
theorem ptx_snoc1 (p : List Bool) : ptx p ++ Str.ofString "1" = ptx (p ++ [true]) := by
  show (⟨(pcs p).toArray ++ #[49]⟩ : Str) = ⟨(pcs (p ++ [true])).toArray⟩
  unfold pcs
  rw [List.map_append]
  congr 1
  apply Array.toList_inj.mp
  simp
def spCheckFull (K : PySem.W.Frag) : Sp := fun vs H Q _ => ∃ (v : V) (t : Tree), vs = [v] ∧ TA K H v t ∧ t.sz ≤ 12 ∧ t.dp ≤ 6 ∧ t.fsz ≤ 500 ∧ ∀ H', Same H H' → Q .non H'
def Tree.fpc : Tree → Nat
  | .L => 0
  | .N a b => a.fpc + b.fpc + b.fnc
def ptxs (ps : List (List Bool)) : List V := ps.map fun p => .str (ptx p)
def spPaths (K : PySem.W.Frag) (C : Addr) (n : Nat) : Sp := fun vs H Q _ => ∃ (x d a b c : Addr) (m : Nat) (p : List Bool) (ts : List Tree) (t : Tree), vs = [.ref x, .int m, .str (ptx p)] ∧ PoolA K C x d a b c H ts ∧ ts[m]? = some t ∧ t.dp < n ∧ p.length + n ≤ 60 ∧ t.sz ≤ 12 ∧ t.fsz ≤ 500 ∧ ts.length + t.fpc ≤ 1000000 ∧
  ∀ (z : Addr) (ts' : List Tree) (H' : Hp), PoolA K C x d a b c H' ts' → Ex4 d a b c H H' → Pre ts ts' → ts'.length ≤ ts.length + t.fpc → H z = none → H' z = some (.lst (ptxs (t.fp.map (p ++ ·)))) → Q (.ref z) H'
def spPathsOf (K : PySem.W.Frag) : Sp := fun vs H Q _ => ∃ (v : V) (t : Tree), vs = [v] ∧ TA K H v t ∧ t.sz ≤ 12 ∧ t.dp ≤ 6 ∧ t.fsz ≤ 500 ∧ ∀ (z : Addr) (H' : Hp), Same H H' → H z = none → H' z = some (.lst (ptxs t.fp)) → Q (.ref z) H'
def kept (ys : List (List Bool × Tree)) : List (List Bool) := (ys.filter fun y => !y.2.isL).map (·.1)
theorem kept_app (ys zs : List (List Bool × Tree)) : kept (ys ++ zs) = kept ys ++ kept zs := by
  unfold kept
  rw [List.filter_append, List.map_append]
theorem kept_cons (p : List Bool) (l r : Tree) (ys : List (List Bool × Tree)) : kept ((p, Tree.N l r) :: ys) = p :: kept ys := rfl
theorem kept_pl : ∀ (t : Tree) (p : List Bool), kept (t.pl p) = t.nd.map (p ++ ·)
  | .L, p => rfl
  | .N l r, p => by
    have ea : l.nd.map (fun y => (p ++ [false]) ++ y) = (l.nd.map (false :: ·)).map (p ++ ·) := by
      rw [List.map_map]
      exact List.map_congr_left fun y _ => by simp
    have eb : r.nd.map (fun y => (p ++ [true]) ++ y) = (r.nd.map (true :: ·)).map (p ++ ·) := by
      rw [List.map_map]
      exact List.map_congr_left fun y _ => by simp
    show kept ((p, Tree.N l r) :: (l.pl (p ++ [false]) ++ r.pl (p ++ [true]))) = ([] :: (l.nd.map (false :: ·) ++ r.nd.map (true :: ·))).map (p ++ ·)
    rw [kept_cons, kept_app, kept_pl l, kept_pl r, List.map_cons, List.map_append, List.append_nil, ea, eb]
theorem Tree.nd_len : ∀ t : Tree, t.nd.length + 1 = t.sz
  | .L => rfl
  | .N l r => by
    have h1 := nd_len l
    have h2 := nd_len r
    show ([] :: (l.nd.map (false :: ·) ++ r.nd.map (true :: ·))).length + 1 = l.sz + r.sz
    rw [List.length_cons, List.length_append, List.length_map, List.length_map]
    omega
theorem mul_big {a b n : Nat} (ha : 0 < a) (h : a * b ≤ n) : b ≤ n := Nat.le_trans (Nat.le_mul_of_pos_left b ha) h
theorem Tree.fsz_l {l r : Tree} {n : Nat} (h : (Tree.N l r).fsz ≤ n) : l.fsz ≤ n := by
  have h : (l.fsz + 1) * r.fsz ≤ n := h
  have h1 := r.fsz_pos
  have : l.fsz + 1 ≤ (l.fsz + 1) * r.fsz := Nat.le_mul_of_pos_right _ h1
  omega
theorem Tree.fsz_r {l r : Tree} {n : Nat} (h : (Tree.N l r).fsz ≤ n) : r.fsz ≤ n := mul_big (Nat.succ_pos _) (show (l.fsz + 1) * r.fsz ≤ n from h)
theorem Tree.fp_len : ∀ t : Tree, t.fsz ≤ 500 → t.fp.length + 500 ≤ 500 * t.sz
  | .L, _ => Nat.le_refl _
  | .N l r, h => by
    have h1 := fp_len l (fsz_l h)
    have h2 := fp_len r (fsz_r h)
    have h3 := r.fe.nd_len
    have h4 := fsz_r h
    rw [r.fe_sz] at h3
    show ((l.fp.map (false :: ·) ++ r.fp.map (true :: ·)) ++ r.fe.nd).length + 500 ≤ 500 * (l.sz + r.sz)
    rw [List.length_append, List.length_append, List.length_map, List.length_map]
    omega
theorem Tree.fnc_le : ∀ t : Tree, t.fsz ≤ 500 → t.fnc + 1000 ≤ 1000 * t.sz
  | .L, _ => Nat.le_refl _
  | .N l r, h => by
    have h1 := fnc_le l (fsz_l h)
    have h2 := fnc_le r (fsz_r h)
    have h3 := r.fe.nodes_sz
    have h4 := fsz_r h
    rw [r.fe_sz] at h3
    show l.fnc + r.fnc + r.fe.nodes + 1000 ≤ 1000 * (l.sz + r.sz)
    omega
theorem Tree.fpc_le : ∀ t : Tree, t.fsz ≤ 500 → t.sz ≤ 12 → t.fpc + 12000 ≤ 12000 * t.sz
  | .L, _, _ => Nat.le_refl _
  | .N l r, h, hz => by
    have hz : l.sz + r.sz ≤ 12 := hz
    have h1 := fpc_le l (fsz_l h) (by omega)
    have h2 := fpc_le r (fsz_r h) (by omega)
    have h3 := fnc_le r (fsz_r h)
    show l.fpc + r.fpc + r.fnc + 12000 ≤ 12000 * (l.sz + r.sz)
    omega
theorem PoolA.fresh {K : PySem.W.Frag} {C x d a b c z : Addr} {H : Hp} {ts : List Tree} (p : PoolA K C x d a b c H ts) (h : H z = none) : z ≠ d ∧ z ≠ a ∧ z ≠ b ∧ z ≠ c := by
  obtain ⟨dx, es, ps, cs, hx, hd, ha, hb, hc, _⟩ := p
  exact ⟨(ne_of_none hd h).symm, (ne_of_none ha h).symm, (ne_of_none hb h).symm, (ne_of_none hc h).symm⟩
theorem Ex4.free {K : PySem.W.Frag} {C x d a b c z : Addr} {H H' : Hp} {ts : List Tree} (p : PoolA K C x d a b c H' ts) (e : Ex4 d a b c H H') (h : H' z = none) : H z = none := by
  obtain ⟨n1, n2, n3, n4⟩ := p.fresh h
  cases q : H z with
  | none => rfl
  | some o =>
    rw [e z o q n1 n2 n3 n4] at h
    cases h
theorem Ex4.list {K : PySem.W.Frag} {C x d a b c z : Addr} {H0 H H' : Hp} {ts : List Tree} {o : HO} (p : PoolA K C x d a b c H0 ts) (f : H0 z = none) (e : Ex4 d a b c H H') (h : H z = some o) : H' z = some o := by
  obtain ⟨n1, n2, n3, n4⟩ := p.fresh f
  exact e z o h n1 n2 n3 n4
theorem ptxs_app (ps qs : List (List Bool)) : ptxs (ps ++ qs) = ptxs ps ++ ptxs qs := List.map_append
theorem ptxs_len (ps : List (List Bool)) : (ptxs ps).length = ps.length := List.length_map _
theorem fp_N (l r : Tree) (p : List Bool) : (ptxs (l.fp.map ((p ++ [false]) ++ ·)) ++ ptxs (r.fp.map ((p ++ [true]) ++ ·))) ++ ptxs (kept (r.fe.pl p)) = ptxs ((Tree.N l r).fp.map (p ++ ·)) := by
  have ea : l.fp.map (fun y => (p ++ [false]) ++ y) = (l.fp.map (false :: ·)).map (p ++ ·) := by
    rw [List.map_map]
    exact List.map_congr_left fun y _ => by simp
  have eb : r.fp.map (fun y => (p ++ [true]) ++ y) = (r.fp.map (true :: ·)).map (p ++ ·) := by
    rw [List.map_map]
    exact List.map_congr_left fun y _ => by simp
  show _ = ptxs (((l.fp.map (false :: ·) ++ r.fp.map (true :: ·)) ++ r.fe.nd).map (p ++ ·))
  rw [List.map_append, List.map_append, ptxs_app, ptxs_app, kept_pl, ea, eb]
theorem Tree.dp_sz : ∀ t : Tree, t.dp + 1 ≤ t.sz
  | .L => Nat.le_refl _
  | .N l r => by
    have h1 := dp_sz l
    have h2 := dp_sz r
    show max l.dp r.dp + 1 + 1 ≤ l.sz + r.sz
    omega
section
variable {P : Program} {w : World} {K : PySem.W.Frag} {mg : Str → Option Value} {base : Heap} {f : Addr} {fd : FuncData}

abbrev s_PInit : Stmt := inClass (top 7) 0
abbrev s_PPair : Stmt := inClass (top 7) 1
abbrev s_PNum : Stmt := inClass (top 7) 2
theorem sc_PInit : FnScope ["self"] ["self"] (defScope s_PInit) := ⟨rfl, rfl, rfl, by decide +kernel, rfl, by decide +kernel, by decide +kernel⟩
theorem sc_PPair : FnScope ["self", "left", "right", "operands"] ["self", "left", "right"] (defScope s_PPair) := ⟨rfl, rfl, rfl, by decide +kernel, rfl, by decide +kernel, by decide +kernel⟩
theorem sc_PNum : FnScope ["self", "term"] ["self", "term"] (defScope s_PNum) := ⟨rfl, rfl, rfl, by decide +kernel, rfl, by decide +kernel, by decide +kernel⟩
theorem ok_PInit {C : Addr} (F : Fun K "__init__" "Pool.__init__" s_PInit f fd) (T : PoolT K mg C) : FnOk P w K mg base CX0 1 f fd ["self"] (spPInit K C) := by
  refine F.ok sc_PInit (fun vs H Q E h => ?_) (fun cdv A outer s H vs Q E hr h => ?_)
  · obtain ⟨_, _, _, rfl, _⟩ := h
    rfl
  obtain ⟨H0, x, dx, rfl, s0, x0, hx, q⟩ := h
  refine ⟨_, pss_cons (ps_fld (pv 0) pe_dnewT rfl) (pss_cons (ps_fld (pv 0) (pe_lst (pa_cons (pe_tup pa_nil) pa_nil)) rfl) (pss_cons (ps_fld (pv 0) (pe_lst (pa_cons pe_int pa_nil)) rfl) (pss_one (ps_fld (pv 0) (pe_lst (pa_cons (pe_tup pa_nil) pa_nil)) rfl)))), ?_⟩
  intro d hd
  have nxd : x ≠ d := ne_of_none hx hd
  refine ⟨_, rfl, x, C, dx, [], rfl, (by rw [upd_ne nxd]; exact hx), T.cl, T.n1, (by show 0 < 1000; decide), ?_⟩
  have d0 : H0 d = none := s0.free hd
  have k1 : ∀ q o, q ≠ x → H q = some o → (upd (upd H d (.dT [])) x (.ins C dx (putF "numbers" (.ref d) []))) q = some o := fun q o nq e => by
    rw [upd_ne nq, upd_ne (ne_of_none e hd)]
    exact e
  have hd1 : (upd (upd H d (.dT [])) x (.ins C dx (putF "numbers" (.ref d) []))) d = some (.dT []) := by rw [upd_ne nxd.symm, upd_same]
  have hx1 : (upd (upd H d (.dT [])) x (.ins C dx (putF "numbers" (.ref d) []))) x = some (.ins C dx (putF "numbers" (.ref d) [])) := upd_same
  generalize (upd (upd H d (.dT [])) x (.ins C dx (putF "numbers" (.ref d) []))) = H1 at *
  refine ⟨zero_le', fun q1 hq1 => ⟨one_le, fun a ha => ?_⟩⟩
  have sq1 := (Same.new hq1 (.tup [])).trans (Same.new ha (.lst [.ref q1]))
  have a0 : H0 a = none := by
    cases e : H0 a with
    | none => rfl
    | some o =>
      have := (Same.new hq1 (.tup [])) _ _ (k1 a o (fun z => by rw [z, x0] at e; cases e) (s0 _ _ e))
      rw [ha] at this
      cases this
  have hq1' : (upd (upd H1 q1 (.tup [])) a (.lst [.ref q1])) q1 = some (.tup []) := (Same.new ha _) _ _ upd_same
  have ha' : (upd (upd H1 q1 (.tup [])) a (.lst [.ref q1])) a = some (.lst [.ref q1]) := upd_same
  have k2 : ∀ q o, q ≠ x → H q = some o → (upd (upd H1 q1 (.tup [])) a (.lst [.ref q1])) q = some o := fun q o nq e => sq1 _ _ (k1 q o nq e)
  have hd2 := sq1 _ _ hd1
  have hx2 := sq1 _ _ hx1
  generalize (upd (upd H1 q1 (.tup [])) a (.lst [.ref q1])) = H2 at *
  refine ⟨_, rfl, x, C, dx, _, rfl, hx2, T.cl, T.n2, (by show 1 < 1000; decide), ?_⟩
  have nax : a ≠ x := ne_of ha' hx2 (by intro z; cases z)
  have ndx : d ≠ x := nxd.symm
  have nqx : q1 ≠ x := ne_of hq1' hx2 (by intro z; cases z)
  have k3 : ∀ q o, q ≠ x → H q = some o → (upd H2 x (.ins C dx (putF "pairs" (.ref a) (putF "numbers" (.ref d) [])))) q = some o := fun q o nq e => by rw [upd_ne nq]; exact k2 q o nq e
  have hd3 : (upd H2 x (.ins C dx (putF "pairs" (.ref a) (putF "numbers" (.ref d) [])))) d = some (.dT []) := by rw [upd_ne ndx]; exact hd2
  have ha3 : (upd H2 x (.ins C dx (putF "pairs" (.ref a) (putF "numbers" (.ref d) [])))) a = some (.lst [.ref q1]) := by rw [upd_ne nax]; exact ha'
  have hq3 : (upd H2 x (.ins C dx (putF "pairs" (.ref a) (putF "numbers" (.ref d) [])))) q1 = some (.tup []) := by rw [upd_ne nqx]; exact hq1'
  have hx3 : (upd H2 x (.ins C dx (putF "pairs" (.ref a) (putF "numbers" (.ref d) [])))) x = some (.ins C dx (putF "pairs" (.ref a) (putF "numbers" (.ref d) []))) := upd_same
  generalize (upd H2 x (.ins C dx (putF "pairs" (.ref a) (putF "numbers" (.ref d) [])))) = H3 at *
  refine ⟨one_le, fun b hb => ?_⟩
  have sb := Same.new hb (.lst [.int 1])
  have b0 : H0 b = none := by
    cases e : H0 b with
    | none => rfl
    | some o =>
      have := k3 b o (fun z => by rw [z, x0] at e; cases e) (s0 _ _ e)
      rw [hb] at this
      cases this
  have hb4 : (upd H3 b (.lst [.int 1])) b = some (.lst [.int 1]) := upd_same
  have nbx : b ≠ x := (ne_of_none hx3 hb).symm
  have nab : a ≠ b := ne_of_none ha3 hb
  have k4 : ∀ q o, q ≠ x → H q = some o → (upd H3 b (.lst [.int 1])) q = some o := fun q o nq e => sb _ _ (k3 q o nq e)
  have hd4 := sb _ _ hd3
  have ha4 := sb _ _ ha3
  have hq4 := sb _ _ hq3
  have hx4 := sb _ _ hx3
  generalize (upd H3 b (.lst [.int 1])) = H4 at *
  refine ⟨_, rfl, x, C, dx, _, rfl, hx4, T.cl, T.n3, (by show 2 < 1000; decide), ?_⟩
  have k5 : ∀ q o, q ≠ x → H q = some o → (upd H4 x (.ins C dx (putF "sizes" (.ref b) (putF "pairs" (.ref a) (putF "numbers" (.ref d) []))))) q = some o := fun q o nq e => by rw [upd_ne nq]; exact k4 q o nq e
  have hd5 : (upd H4 x (.ins C dx (putF "sizes" (.ref b) (putF "pairs" (.ref a) (putF "numbers" (.ref d) []))))) d = some (.dT []) := by rw [upd_ne ndx]; exact hd4
  have ha5 : (upd H4 x (.ins C dx (putF "sizes" (.ref b) (putF "pairs" (.ref a) (putF "numbers" (.ref d) []))))) a = some (.lst [.ref q1]) := by rw [upd_ne nax]; exact ha4
  have hq5 : (upd H4 x (.ins C dx (putF "sizes" (.ref b) (putF "pairs" (.ref a) (putF "numbers" (.ref d) []))))) q1 = some (.tup []) := by rw [upd_ne nqx]; exact hq4
  have hb5 : (upd H4 x (.ins C dx (putF "sizes" (.ref b) (putF "pairs" (.ref a) (putF "numbers" (.ref d) []))))) b = some (.lst [.int 1]) := by rw [upd_ne nbx]; exact hb4
  have hx5 : (upd H4 x (.ins C dx (putF "sizes" (.ref b) (putF "pairs" (.ref a) (putF "numbers" (.ref d) []))))) x = some (.ins C dx (putF "sizes" (.ref b) (putF "pairs" (.ref a) (putF "numbers" (.ref d) [])))) := upd_same
  generalize (upd H4 x (.ins C dx (putF "sizes" (.ref b) (putF "pairs" (.ref a) (putF "numbers" (.ref d) []))))) = H5 at *
  refine ⟨zero_le', fun q2 hq2 => ⟨one_le, fun c hc => ?_⟩⟩
  have sc := (Same.new hq2 (.tup [])).trans (Same.new hc (.lst [.ref q2]))
  have c0 : H0 c = none := by
    cases e : H0 c with
    | none => rfl
    | some o =>
      have := (Same.new hq2 (.tup [])) _ _ (k5 c o (fun z => by rw [z, x0] at e; cases e) (s0 _ _ e))
      rw [hc] at this
      cases this
  have hq26 : (upd (upd H5 q2 (.tup [])) c (.lst [.ref q2])) q2 = some (.tup []) := (Same.new hc _) _ _ upd_same
  have hc6 : (upd (upd H5 q2 (.tup [])) c (.lst [.ref q2])) c = some (.lst [.ref q2]) := upd_same
  have nac : a ≠ c := ne_of_none ((Same.new hq2 _) _ _ ha5) hc
  have nbc : b ≠ c := ne_of_none ((Same.new hq2 _) _ _ hb5) hc
  have hd6 := sc _ _ hd5
  have ha6 := sc _ _ ha5
  have hb6 := sc _ _ hb5
  have hq6 := sc _ _ hq5
  have hx6 := sc _ _ hx5
  have k6 : ∀ q o, q ≠ x → H q = some o → (upd (upd H5 q2 (.tup [])) c (.lst [.ref q2])) q = some o := fun q o nq e => sc _ _ (k5 q o nq e)
  generalize (upd (upd H5 q2 (.tup [])) c (.lst [.ref q2])) = H6 at *
  have ncx : c ≠ x := ne_of hc6 hx6 (by intro z; cases z)
  have nq2x : q2 ≠ x := ne_of hq26 hx6 (by intro z; cases z)
  refine ⟨_, rfl, x, C, dx, _, rfl, hx6, T.cl, T.n4, (by show 3 < 1000; decide), ?_⟩
  refine q d a b c _ ⟨dx, [], [.ref q1], [.ref q2], upd_same, ?_, ?_, ?_, ?_, nab, nac, nbc, ⟨rfl, rfl, fun i l r h => by simp at h⟩, ⟨rfl, ⟨q1, rfl, SqT.here ?_⟩, fun i l r h => by simp at h⟩, .cons (ta_leaf (SqT.here ?_)) .nil⟩ (fun q o e => ?_) d0 a0 b0 c0
  · rw [upd_ne ndx]
    exact hd6
  · rw [upd_ne nax]
    exact ha6
  · rw [upd_ne nbx]
    exact hb6
  · rw [upd_ne ncx]
    exact hc6
  · rw [upd_ne nqx]
    exact hq6
  · rw [upd_ne nq2x]
    exact hq26
  · have nq : q ≠ x := fun z => by
      rw [z, x0] at e
      cases e
    rw [upd_ne nq]
    exact k6 q o nq (s0 _ _ e)
theorem ok_PPair {C : Addr} (F : Fun K "pair" "Pool.pair" s_PPair f fd) (T : PoolT K mg C) (B : Blt mg) : FnOk P w K mg base CX0 1 f fd ["self", "left", "right"] (spPair K C) := by
  refine F.ok sc_PPair (fun vs H Q E h => ?_) (fun cdv A outer s H vs Q E hr h => ?_)
  · obtain ⟨_, _, _, _, _, _, _, _, _, _, rfl, _⟩ := h
    rfl
  obtain ⟨x, d, a, b, c, l, r, ts, tl, tr, rfl, hP, hlen, hl, hr', q⟩ := h
  refine ⟨_, pss_cons (ps_set (i := 3) sc_PPair.nd rfl (Or.inl rfl) (pe_tup (pa_cons (pv 1) (pa_cons (pv 2) pa_nil))))
    (pss_cons (ps_if (pt_cmp (pc_dnotin (hu_of hr) (pv 3) (pe_fld (pv 0) rfl)))
      (pss_cons (ps_dput (hu_of hr) (pe_fld (pv 0) rfl) (pv 3) (pe_callB call_len_seq (by rfl) B.len PySem.boot_len (pa_cons (pe_fld (pv 0) rfl) pa_nil)) rfl)
      (pss_cons (ps_expr (pe_bm PySem.F.plainAttrs_list PySem.F.slot_list_append PySem.F.type_list_append mt_append (pe_fld (pv 0) rfl) (pa_cons (pv 3) pa_nil)))
      (pss_cons (ps_expr (pe_bm PySem.F.plainAttrs_list PySem.F.slot_list_append PySem.F.type_list_append mt_append (pe_fld (pv 0) rfl) (pa_cons (pe_op op_add (pe_ix ix_list (pe_fld (pv 0) rfl) (pv 1) (fun _ _ => rfl)) (pe_ix ix_list (pe_fld (pv 0) rfl) (pv 2) (fun _ _ => rfl))) pa_nil)))
      (pss_one (ps_expr (pe_bm PySem.F.plainAttrs_list PySem.F.slot_list_append PySem.F.type_list_append mt_append (pe_fld (pv 0) rfl) (pa_cons (pe_tup (pa_cons (pe_ix ix_list (pe_fld (pv 0) rfl) (pv 1) (fun _ _ => rfl)) (pa_cons (pe_ix ix_list (pe_fld (pv 0) rfl) (pv 2) (fun _ _ => rfl)) pa_nil))) pa_nil))))))) pss_nil)
    (pss_one (ps_ret (pe_dget (hu_of hr) (pe_fld (pv 0) rfl) (pv 3) (fun _ _ => rfl))))), ?_⟩
  refine ⟨_, rfl, _, rfl, two_le, fun o ho => ?_⟩
  have so := Same.new ho (.tup [.int (l : Nat), .int (r : Nat)])
  have hP1 := hP.same so
  have ho1 : (upd H o (.tup [.int (l : Nat), .int (r : Nat)])) o = some (.tup ((key2 l r).map kV)) := upd_same
  generalize (upd H o (.tup [.int (l : Nat), .int (r : Nat)])) = H1 at *
  obtain ⟨dx, es, ps, cs, hx, hd, ha, hb, hc, nab, nac, nbc, gd, op, dd⟩ := id hP1
  refine ⟨_, rfl, _, rfl, x, C, dx, _, _, rfl, hx, T.cl, T.n1, pf_n _ _ _ _, d, _, rfl, DGet.t (k := key2 l r) hd ho1, _, rfl, ?_⟩
  cases e : valV (kv es 1) (key2 l r) with
  | some v =>
    obtain ⟨n, rfl, hn⟩ := kv_some es 1 l r v e
    have hg := DGet.t (k := key2 l r) hd ho1
    rw [e] at hg
    refine iteF ⟨_, rfl, x, C, dx, _, _, rfl, hx, T.cl, T.n1, pf_n _ _ _ _, _, rfl, d, _, rfl, hg, ?_⟩
    · obtain ⟨tl', tr', h1, h2, h3⟩ := gd.pair n l r hn
      have e1 : tl' = tl := Option.some.inj (h1.symm.trans hl)
      have e2 : tr' = tr := Option.some.inj (h2.symm.trans hr')
      subst e1 e2
      exact q (n + 1) ts H1 hP1 (Ex4.same so) (fun _ _ h => h) h3 (Nat.le_succ _)
  | none =>
    have hk := val_none e
    have lts := gd.len
    have lps := op.len
    have les : es.length ≤ 1000000 := by omega
    have eput : putK (kv es 1) (key2 l r) (.int ((ps.length : Nat) : Int)) = kv (es ++ [(l, r)]) 1 := by
      unfold putK
      rw [hk, if_neg Bool.false_ne_true, kv_snoc, lps, Nat.add_comm]
    have hput := DPut.t (v := V.int ((ps.length : Nat) : Int)) (k := key2 l r) hd ho1 (by rw [kv_len]; exact mil les)
    rw [eput] at hput
    have nda : d ≠ a := ne_of hd ha (by intro z; cases z)
    have ndb : d ≠ b := ne_of hd hb (by intro z; cases z)
    have ndc : d ≠ c := ne_of hd hc (by intro z; cases z)
    have ndx : x ≠ d := ne_of hx hd (by intro z; cases z)
    have nxa : x ≠ a := ne_of hx ha (by intro z; cases z)
    have nxb : x ≠ b := ne_of hx hb (by intro z; cases z)
    have nxc : x ≠ c := ne_of hx hc (by intro z; cases z)
    have nod : o ≠ d := ne_of ho1 hd (by intro z; cases z)
    have noa : o ≠ a := ne_of ho1 ha (by intro z; cases z)
    have nob : o ≠ b := ne_of ho1 hb (by intro z; cases z)
    have noc : o ≠ c := ne_of ho1 hc (by intro z; cases z)
    have il : l < ts.length := (List.getElem?_eq_some_iff.mp hl).1
    have ir : r < ts.length := (List.getElem?_eq_some_iff.mp hr').1
    have al : atI (ts.map fun t => V.int (t.sz : Nat)) (l : Int) = some (.int (tl.sz : Nat)) := atI_nat (by rw [List.getElem?_map, hl]; rfl)
    have ar : atI (ts.map fun t => V.int (t.sz : Nat)) (r : Int) = some (.int (tr.sz : Nat)) := atI_nat (by rw [List.getElem?_map, hr']; rfl)
    obtain ⟨vl, evl, dvl⟩ := dpAll_at dd l tl.d (by rw [List.getElem?_map, hl]; rfl)
    obtain ⟨vr, evr, dvr⟩ := dpAll_at dd r tr.d (by rw [List.getElem?_map, hr']; rfl)
    have lcs := dpAll_len dd
    rw [List.length_map] at lcs
    refine iteT ?_
    -- self.numbers[operands] = len(self.pairs)
    refine ⟨_, rfl, x, C, dx, _, _, rfl, hx, T.cl, T.n2, pf_p _ _ _ _, a, _, rfl, .inl (SqL.here ha), _, rfl, x, C, dx, _, _, rfl, hx, T.cl, T.n1, pf_n _ _ _ _, _, rfl, d, _, rfl, hput, ?_⟩
    have ex2 : Ex4 d a b c H1 (upd H1 d (.dT (kv (es ++ [(l, r)]) 1))) := fun q' o' e' n1 _ _ _ => by rw [upd_ne n1]; exact e'
    have hx2 : (upd H1 d (.dT (kv (es ++ [(l, r)]) 1))) x = some (.ins C dx (pf d a b c)) := by rw [upd_ne ndx]; exact hx
    have hd2 : (upd H1 d (.dT (kv (es ++ [(l, r)]) 1))) d = some (.dT (kv (es ++ [(l, r)]) 1)) := upd_same
    have ha2 : (upd H1 d (.dT (kv (es ++ [(l, r)]) 1))) a = some (.lst ps) := by rw [upd_ne nda.symm]; exact ha
    have hb2 : (upd H1 d (.dT (kv (es ++ [(l, r)]) 1))) b = some (.lst (ts.map fun t => V.int (t.sz : Nat))) := by rw [upd_ne ndb.symm]; exact hb
    have hc2 : (upd H1 d (.dT (kv (es ++ [(l, r)]) 1))) c = some (.lst cs) := by rw [upd_ne ndc.symm]; exact hc
    have ho2 : (upd H1 d (.dT (kv (es ++ [(l, r)]) 1))) o = some (.tup ((key2 l r).map kV)) := by rw [upd_ne nod]; exact ho1
    generalize (upd H1 d (.dT (kv (es ++ [(l, r)]) 1))) = H2 at *
    -- self.pairs.append(operands)
    refine ⟨_, rfl, x, C, dx, _, _, rfl, hx2, T.cl, T.n2, pf_p _ _ _ _, .inl ⟨rfl, _, SqL.here ha2⟩, _, rfl, a, _, _, rfl, rfl, ha2, mil (by omega), ?_⟩
    have ex3 : Ex4 d a b c H1 (upd H2 a (.lst (ps ++ [.ref o]))) := fun q' o' e' n1 n2 n3 n4 => by rw [upd_ne n2]; exact ex2 q' o' e' n1 n2 n3 n4
    have hx3 : (upd H2 a (.lst (ps ++ [.ref o]))) x = some (.ins C dx (pf d a b c)) := by rw [upd_ne nxa]; exact hx2
    have hd3 : (upd H2 a (.lst (ps ++ [.ref o]))) d = some (.dT (kv (es ++ [(l, r)]) 1)) := by rw [upd_ne nda]; exact hd2
    have ha3 : (upd H2 a (.lst (ps ++ [.ref o]))) a = some (.lst (ps ++ [.ref o])) := upd_same
    have hb3 : (upd H2 a (.lst (ps ++ [.ref o]))) b = some (.lst (ts.map fun t => V.int (t.sz : Nat))) := by rw [upd_ne nab.symm]; exact hb2
    have hc3 : (upd H2 a (.lst (ps ++ [.ref o]))) c = some (.lst cs) := by rw [upd_ne nac.symm]; exact hc2
    have ho3 : (upd H2 a (.lst (ps ++ [.ref o]))) o = some (.tup ((key2 l r).map kV)) := by rw [upd_ne noa]; exact ho2
    generalize (upd H2 a (.lst (ps ++ [.ref o]))) = H3 at *
    -- self.sizes.append(..)
    refine ⟨_, rfl, x, C, dx, _, _, rfl, hx3, T.cl, T.n3, pf_s _ _ _ _, .inl ⟨rfl, _, SqL.here hb3⟩, _, rfl, x, C, dx, _, _, rfl, hx3, T.cl, T.n3, pf_s _ _ _ _, _, rfl, b, _, _, _, rfl, rfl, SqL.here hb3, al, _, rfl, x, C, dx, _, _, rfl, hx3, T.cl, T.n3, pf_s _ _ _ _, _, rfl, b, _, _, _, rfl, rfl, SqL.here hb3, ar, _, _, rfl, rfl, b, _, _, rfl, rfl, hb3, mil (by rw [List.length_map]; omega), ?_⟩
    have esz : ((ts.map fun t => V.int (t.sz : Nat)) ++ [V.int ((tl.sz : Int) + (tr.sz : Int))]) = (ts ++ [Tree.N tl tr]).map fun t => V.int (t.sz : Nat) := by
      rw [List.map_append]
      show _ = _ ++ [V.int (((tl.sz + tr.sz : Nat) : Nat) : Int)]
      rw [Int.natCast_add]
    have ex4 : Ex4 d a b c H1 (upd H3 b (.lst ((ts.map fun t => V.int (t.sz : Nat)) ++ [V.int ((tl.sz : Int) + (tr.sz : Int))]))) := fun q' o' e' n1 n2 n3 n4 => by rw [upd_ne n3]; exact ex3 q' o' e' n1 n2 n3 n4
    have hx4 : (upd H3 b (.lst ((ts.map fun t => V.int (t.sz : Nat)) ++ [V.int ((tl.sz : Int) + (tr.sz : Int))]))) x = some (.ins C dx (pf d a b c)) := by rw [upd_ne nxb]; exact hx3
    have hd4 : (upd H3 b (.lst ((ts.map fun t => V.int (t.sz : Nat)) ++ [V.int ((tl.sz : Int) + (tr.sz : Int))]))) d = some (.dT (kv (es ++ [(l, r)]) 1)) := by rw [upd_ne ndb]; exact hd3
    have ha4 : (upd H3 b (.lst ((ts.map fun t => V.int (t.sz : Nat)) ++ [V.int ((tl.sz : Int) + (tr.sz : Int))]))) a = some (.lst (ps ++ [.ref o])) := by rw [upd_ne nab]; exact ha3
    have hb4 : (upd H3 b (.lst ((ts.map fun t => V.int (t.sz : Nat)) ++ [V.int ((tl.sz : Int) + (tr.sz : Int))]))) b = some (.lst ((ts ++ [Tree.N tl tr]).map fun t => V.int (t.sz : Nat))) := by rw [upd_same, esz]
    have hc4 : (upd H3 b (.lst ((ts.map fun t => V.int (t.sz : Nat)) ++ [V.int ((tl.sz : Int) + (tr.sz : Int))]))) c = some (.lst cs) := by rw [upd_ne nbc.symm]; exact hc3
    have ho4 : (upd H3 b (.lst ((ts.map fun t => V.int (t.sz : Nat)) ++ [V.int ((tl.sz : Int) + (tr.sz : Int))]))) o = some (.tup ((key2 l r).map kV)) := by rw [upd_ne nob]; exact ho3
    clear esz
    generalize (upd H3 b (.lst ((ts.map fun t => V.int (t.sz : Nat)) ++ [V.int ((tl.sz : Int) + (tr.sz : Int))]))) = H4 at *
    -- self.terms.append(..)
    refine ⟨_, rfl, x, C, dx, _, _, rfl, hx4, T.cl, T.n4, pf_t _ _ _ _, .inl ⟨rfl, _, SqL.here hc4⟩, _, rfl, x, C, dx, _, _, rfl, hx4, T.cl, T.n4, pf_t _ _ _ _, _, rfl, c, _, _, _, rfl, rfl, SqL.here hc4, atI_nat evl, _, rfl, x, C, dx, _, _, rfl, hx4, T.cl, T.n4, pf_t _ _ _ _, _, rfl, c, _, _, _, rfl, rfl, SqL.here hc4, atI_nat evr, two_le, fun q2 hq2 => ?_⟩
    have sq2 := Same.new hq2 (.tup [vl, vr])
    have nq2c : q2 ≠ c := (ne_of_none hc4 hq2).symm
    refine ⟨c, _, _, rfl, rfl, sq2 _ _ hc4, mil (by omega), ?_⟩
    have ex6 : Ex4 d a b c H1 (upd (upd H4 q2 (.tup [vl, vr])) c (.lst (cs ++ [.ref q2]))) := fun q' o' e' n1 n2 n3 n4 => by rw [upd_ne n4]; exact sq2 _ _ (ex4 q' o' e' n1 n2 n3 n4)
    have hx6 : (upd (upd H4 q2 (.tup [vl, vr])) c (.lst (cs ++ [.ref q2]))) x = some (.ins C dx (pf d a b c)) := by rw [upd_ne nxc]; exact sq2 _ _ hx4
    have hd6 : (upd (upd H4 q2 (.tup [vl, vr])) c (.lst (cs ++ [.ref q2]))) d = some (.dT (kv (es ++ [(l, r)]) 1)) := by rw [upd_ne ndc]; exact sq2 _ _ hd4
    have ha6 : (upd (upd H4 q2 (.tup [vl, vr])) c (.lst (cs ++ [.ref q2]))) a = some (.lst (ps ++ [.ref o])) := by rw [upd_ne nac]; exact sq2 _ _ ha4
    have hb6 : (upd (upd H4 q2 (.tup [vl, vr])) c (.lst (cs ++ [.ref q2]))) b = some (.lst ((ts ++ [Tree.N tl tr]).map fun t => V.int (t.sz : Nat))) := by rw [upd_ne nbc]; exact sq2 _ _ hb4
    have hc6 : (upd (upd H4 q2 (.tup [vl, vr])) c (.lst (cs ++ [.ref q2]))) c = some (.lst (cs ++ [.ref q2])) := upd_same
    have ho6 : (upd (upd H4 q2 (.tup [vl, vr])) c (.lst (cs ++ [.ref q2]))) o = some (.tup ((key2 l r).map kV)) := by rw [upd_ne noc]; exact sq2 _ _ ho4
    have hq6 : (upd (upd H4 q2 (.tup [vl, vr])) c (.lst (cs ++ [.ref q2]))) q2 = some (.tup [vl, vr]) := by rw [upd_ne nq2c, upd_same]
    generalize (upd (upd H4 q2 (.tup [vl, vr])) c (.lst (cs ++ [.ref q2]))) = H6 at *
    have tp := hP1.tp ex6
    have hg := DGet.t (k := key2 l r) hd6 ho6
    have ev : valV (kv (es ++ [(l, r)]) 1) (key2 l r) = some (.int ((es.length + 1 : Nat) : Int)) := by
      rw [kv_snoc, Nat.add_comm]
      exact val_snoc e
    rw [ev] at hg
    refine ⟨_, rfl, x, C, dx, _, _, rfl, hx6, T.cl, T.n1, pf_n _ _ _ _, _, rfl, d, _, rfl, hg, ?_⟩
    have pre : Pre ts (ts ++ [Tree.N tl tr]) := fun i t h => by
      have hi := (List.getElem?_eq_some_iff.mp h).1
      rw [List.getElem?_append_left hi]
      exact h
    have last : (ts ++ [Tree.N tl tr])[es.length + 1]? = some (.N tl tr) := by
      rw [← lts, List.getElem?_append_right (Nat.le_refl _), Nat.sub_self]
      rfl
    refine q (es.length + 1) (ts ++ [Tree.N tl tr]) H6 ⟨dx, es ++ [(l, r)], ps ++ [.ref o], cs ++ [.ref q2], hx6, hd6, ha6, hb6, hc6, nab, nac, nbc, ⟨?_, pre _ _ gd.zero, fun i l' r' h => ?_⟩, ⟨?_, ?_, fun i l' r' h => ?_⟩, ?_⟩ ((Ex4.same so).trans ex6) pre last (by rw [List.length_append]; exact Nat.le_refl _)
    · rw [List.length_append, List.length_append, lts]
      rfl
    · by_cases hi : i < es.length
      · rw [List.getElem?_append_left hi] at h
        obtain ⟨t1, t2, h1, h2, h3⟩ := gd.pair i l' r' h
        exact ⟨t1, t2, pre _ _ h1, pre _ _ h2, pre _ _ h3⟩
      · have ei : i = es.length := by
          have := (List.getElem?_eq_some_iff.mp h).1
          rw [List.length_append, List.length_singleton] at this
          omega
        subst ei
        rw [List.getElem?_append_right (Nat.le_refl _), Nat.sub_self] at h
        cases h
        exact ⟨tl, tr, pre _ _ hl, pre _ _ hr', last⟩
    · rw [List.length_append, List.length_append, lps]
      rfl
    · obtain ⟨q0, h1, h2⟩ := op.zero
      exact ⟨q0, by rw [List.getElem?_append_left (by omega)]; exact h1, tp.sqT h2⟩
    · by_cases hi : i < es.length
      · rw [List.getElem?_append_left hi] at h
        obtain ⟨q0, h1, h2⟩ := op.pair i l' r' h
        exact ⟨q0, by rw [List.getElem?_append_left (by omega)]; exact h1, tp.sqT h2⟩
      · have ei : i = es.length := by
          have := (List.getElem?_eq_some_iff.mp h).1
          rw [List.length_append, List.length_singleton] at this
          omega
        subst ei
        rw [List.getElem?_append_right (Nat.le_refl _), Nat.sub_self] at h
        cases h
        exact ⟨o, by rw [← lps, List.getElem?_append_right (Nat.le_refl _), Nat.sub_self]; rfl, SqT.here ho6⟩
    · rw [List.map_append]
      exact dpAll_snoc (dpAll_tp tp dd) (ta_node (SqT.here hq6) (ta_mono tp dvl) (ta_mono tp dvr))
theorem ok_PNum {C fP : Addr} {fdP : FuncData} (F : Fun K "number_of" "Pool.number_of" s_PNum f fd) (bN : Binds K fd ["self", "term"] []) (mN : Meth K C "number_of" f) (T : PoolT K mg C) (B : Blt mg) (GEN : ∃ t, mg "GENERATOR" = some (.int 0 t))
    (FP : Fun K "pair" "Pool.pair" s_PPair fP fdP) (bP : Binds K fdP ["self", "left", "right"] []) (mP : Meth K C "pair" fP) : ∀ n : Nat, FnOk P w K mg base CX0 (n + 1) f fd ["self", "term"] (spNum K C n)
  | 0 => fn_none fun vs H Q E h => by
    obtain ⟨_, _, _, _, _, _, _, _, _, _, _, h, _⟩ := h
    omega
  | n + 1 => by
    have GN := ok_PNum F bN mN T B GEN FP bP mP n
    have GP : FnOk P w K mg base CX0 1 fP fdP ["self", "left", "right"] (spPair K C) := ok_PPair FP T B
    obtain ⟨tg, C_GENERATOR⟩ := GEN
    refine F.ok sc_PNum (fun vs H Q E h => ?_) (fun cdv A outer s H vs Q E hr h => ?_)
    · obtain ⟨_, _, _, _, _, _, _, _, rfl, _⟩ := h
      rfl
    obtain ⟨x, d, a, b, c, v, t, ts, rfl, hP, ht, hd, hn, hlen, q⟩ := h
    refine ⟨_, pss_cons (ps_if (pt_cmpR (op_eqD hr.units) (pv 1) (pe_tup pa_nil) (nomark _)) (pss_one (ps_ret (pe_glob (v := .int 0) rfl C_GENERATOR ⟨_, rfl⟩))) pss_nil)
      (pss_one (ps_ret (pe_meth (pv 0) T.cl mP GP (hr.mono (by omega)) bP .nil pass0 (pa_cons (pe_meth (pv 0) T.cl mN GN hr bN .nil pass0 (pa_cons (pe_ix ix_tup (pv 1) pe_int (fun _ _ => rfl)) pa_nil)) (pa_cons (pe_meth (pv 0) T.cl mN GN hr bN .nil pass0 (pa_cons (pe_ix ix_tup (pv 1) pe_int (fun _ _ => rfl)) pa_nil)) pa_nil))))), ?_⟩
    refine ⟨_, rfl, zero_le', fun p hp => ⟨t.d, .tuple [], ta_mono (Tp.same (Same.new hp _)) ht, Dp.tup (SqT.here upd_same) .nil, Tree.shaped (by omega), shapedE, _, rfl, ite_eq (Tree.eqvL t) ?_⟩⟩
    have s1 := Same.new hp (.tup [])
    have hP1 := hP.same s1
    have n1 : ∀ {z : Str}, z = "number_of" ∨ z = "pair" → (pf d a b c).lookup z = none := fun {z} hz => by
      rcases hz with rfl | rfl
      · exact pf_no _ _ _ _ (by decide +kernel) (by decide +kernel) (by decide +kernel) (by decide +kernel)
      · exact pf_no _ _ _ _ (by decide +kernel) (by decide +kernel) (by decide +kernel) (by decide +kernel)
    cases t with
    | L =>
      obtain ⟨dx, es, ps, cs, hx, r1, r2, r3, r4, r5, r6, r7, gd, r8⟩ := id hP1
      exact iteT (q 0 ts _ hP1 (Ex4.same s1) (fun _ _ h => h) gd.zero (Nat.le_add_right _ _))
    | N l r =>
      have hd : max l.dp r.dp + 1 < n + 1 := hd
      have hlen : ts.length + (l.nodes + r.nodes + 1) ≤ 1000000 := hlen
      obtain ⟨qq, x1, x2, rfl, hS, hL, hR⟩ := ta_invN (ta_mono (Tp.same s1) ht)
      obtain ⟨dx, es, ps, cs, hx, _⟩ := id hP1
      refine iteF ⟨_, rfl, x, dx, _, rfl, hx, n1 (.inr rfl), _, rfl, x, dx, _, rfl, hx, n1 (.inl rfl), _, rfl, qq, _, 0, _, rfl, rfl, hS, rfl, x, d, a, b, c, x1, l, ts, rfl, hP1, hL, by omega, by omega, by omega, fun m1 ts1 H2 P2 e2 pr2 hm1 ln1 => ?_⟩
      have tp2 := hP1.tp e2
      obtain ⟨dx2, es2, ps2, cs2, hx2, _⟩ := id P2
      refine ⟨_, rfl, x, dx2, _, rfl, hx2, n1 (.inl rfl), _, rfl, qq, _, 1, _, rfl, rfl, tp2.sqT hS, rfl, x, d, a, b, c, x2, r, ts1, rfl, P2, ta_mono tp2 hR, by omega, by omega, by omega, fun m2 ts2 H3 P3 e3 pr3 hm2 ln2 => ?_⟩
      refine ⟨x, d, a, b, c, m1, m2, ts2, l, r, rfl, P3, by omega, pr3 _ _ hm1, hm2, fun m ts3 H4 P4 e4 pr4 hm ln3 => ?_⟩
      exact q m ts3 H4 P4 ((((Ex4.same s1).trans e2).trans e3).trans e4) ((pr2.trans pr3).trans pr4) hm (by show ts3.length ≤ ts.length + (l.nodes + r.nodes + 1); omega)
abbrev s__law_draws : Stmt := top 24
theorem sc__law_draws : FnScope ["_law_script", "_law_salt", "_law_cell"] ["_law_script"] (defScope s__law_draws) := ⟨rfl, rfl, rfl, by decide +kernel, rfl, by decide +kernel, by decide +kernel⟩
theorem ok__law_draws (d : D K mg "_law_draws" s__law_draws ["_law_script"] f fd) (B : Blt mg) : FnOk P w K mg base CX0 1 f fd ["_law_script"] (spDraws K) := by
  refine d.F.ok sc__law_draws (fun vs H Q E h => ?_) (fun cdv A outer s H vs Q E hr h => ?_)
  · obtain ⟨a, ns, rfl, _⟩ := h
    rfl
  obtain ⟨a, ns, rfl, hS, q⟩ := h
  refine ⟨_, (pss_cons (ps_set (i := 1) sc__law_draws.nd rfl (Or.inl rfl) pe_int)
 (pss_cons (ps_for PassesOwn.never rfl (pi_list (pe_slice sl_list (pv 0) po_none (po_some pe_int))) (pg_name (i := 2) sc__law_draws.nd rfl (Or.inl rfl))
  (pss_one (ps_set (i := 1) sc__law_draws.nd rfl (Or.inl rfl) (pe_op op_mod (pe_op op_add (pe_op op_add (pe_op op_mul (pv 1) pe_int) (pe_op op_mod (pv 2) pe_int)) pe_int) pe_int))))
 (pss_one (ps_ret (pe_lst (pa_cons (pe_callTy call_list_of (by rfl) B.list (by decide +kernel) (pa_cons (pe_slice sl_list (pv 0) po_none (po_some pe_int)) pa_nil)) (pa_cons pe_int (pa_cons pe_int (pa_cons (pv 1) pa_nil))))))))), ?_⟩
  refine ⟨_, rfl, 63, rfl, a, _, rfl, hS, fun p hp => ?_⟩
  rw [cut63]
  have s1 : Same H (upd H p (.lst ((ns.take 63).map V.int))) := Same.new hp _
  refine ⟨p, rfl, ⟨_, SqL.here upd_same⟩, for_list (K := K) (a := p) (xs := (ns.take 63).map V.int) (fun i σ H' => ∃ (s : Int) (v : Option V), σ = [some (.ref a), some (.int s), v] ∧ 0 ≤ s ∧ s < 2147483647 ∧ H' = upd H p (.lst ((ns.take 63).map V.int)))
    ⟨9471, none, rfl, by decide, by decide, rfl⟩ (fun i σ H' _ ⟨_, _, _, _, _, e⟩ => by rw [e]; exact SqL.here upd_same) ?_ ?_⟩
  · rintro i x σ H' hi ⟨s, v, rfl, h0, h1, rfl⟩
    obtain ⟨u, rfl⟩ : ∃ u, x = V.int u := by
      rw [List.getElem?_map] at hi
      cases e : (ns.take 63)[i]? with
      | none =>
        rw [e] at hi
        cases hi
      | some u =>
        rw [e] at hi
        exact ⟨u, (Option.some.inj hi).symm⟩
    refine ⟨_, rfl, _, _, rfl, rfl, .inl ⟨by omega, by omega⟩, _, rfl, _, _, rfl, rfl, (by show (0 : Int) < 2147483587; decide), _, _, rfl, rfl, _, _, rfl, rfl, _, _, rfl, rfl, (by show (0 : Int) < 2147483647; decide), ?_⟩
    exact ⟨_, _, rfl, Int.emod_nonneg _ (by decide), Int.emod_lt_of_pos _ (by decide), rfl⟩
  · rintro σ H' ⟨s, v, rfl, h0, h1, rfl⟩
    refine ⟨_, rfl, 63, rfl, a, _, rfl, s1.seq hS, fun p2 hp2 => ?_⟩
    rw [cut63]
    have s2 := s1.trans (Same.new hp2 (.lst ((ns.take 63).map V.int)))
    refine ⟨p2, _, rfl, .inl (SqL.here upd_same), fun c hc => ?_⟩
    have s3 := s2.trans (Same.new hc (.lst ((ns.take 63).map V.int)))
    refine ⟨_, rfl, four_le, fun r hr' => ?_⟩
    have nrc : c ≠ r := fun e => by
      rw [← e, upd_same] at hr'
      cases hr'
    refine q r _ (s3.trans (Same.new hr' _)) (s3.free hr') ⟨c, ns.take 63, 0, 0, s, upd_same, ?_, nrc, by decide, by decide, h0, h1⟩
    rw [upd_ne nrc, upd_same]

abbrev s__law_draw : Stmt := top 25
theorem sc__law_draw : FnScope ["_law_rng", "_law_amount", "_law_cell", "_law_got", "_law_seed"] ["_law_rng", "_law_amount"] (defScope s__law_draw) := ⟨rfl, rfl, rfl, by decide +kernel, rfl, by decide +kernel, by decide +kernel⟩
theorem ok__law_draw (d : D K mg "_law_draw" s__law_draw ["_law_rng", "_law_amount"] f fd) (B : Blt mg) : FnOk P w K mg base CX0 1 f fd ["_law_rng", "_law_amount"] spDraw := by
  refine d.F.ok sc__law_draw (fun vs H Q E h => ?_) (fun cdv A outer s H vs Q E hr h => ?_)
  · obtain ⟨a, ns, rfl, _⟩ := h
    rfl
  obtain ⟨r, n, rfl, ⟨c, ns, i, b, s, hR, hC, ncr, hi, hb, h0, h1⟩, hn, hn2, q⟩ := h
  refine ⟨_, (C8.pss_cut (ps_if (PW.pt (pw_and (pt_cmpR op_eq (pe_ix ix_list (pv 0) pe_int (fun _ _ => rfl)) pe_int (nomark _)) (pw_and1 (pt_cmpR op_lt (pe_ix ix_list (pv 0) pe_int (fun _ _ => rfl)) (pe_callB call_len_seq (by rfl) B.len PySem.boot_len (pa_cons (pe_ix ix_list (pv 0) pe_int (fun _ _ => rfl)) pa_nil)) (nomark _))))) (pss_cons (ps_set (i := 2) sc__law_draw.nd rfl (Or.inl rfl) (pe_ix ix_list (pe_ix ix_list (pv 0) pe_int (fun _ _ => rfl)) (pe_ix ix_list (pv 0) pe_int (fun _ _ => rfl)) (fun _ _ => rfl)))
 (pss_cons (ps_asg (pe_op op_add (pe_ix ix_list (pv 0) pe_int (fun _ _ => rfl)) pe_int) (pg_sub (pv 0) pe_int set_list))
 (pss_one (ps_if (pt_cmpR op_ge (pv 2) (pe_op op_pow pe_int pe_int) (nomark _)) (pss_one (ps_asg (pv 2) (pg_sub (pv 0) pe_int set_list))) (pss_one (ps_asg (pe_op op_mod (pe_op op_add (pe_op op_add (pe_op op_mul (pe_ix ix_list (pv 0) pe_int (fun _ _ => rfl)) pe_int) (pe_op op_mul (pe_op op_mod (pv 2) pe_int) pe_int)) pe_int) pe_int) (pg_sub (pv 0) pe_int set_list))))))) pss_nil)
 (pss_cons (ps_if (pt_cmpR op_gt (pe_ix ix_list (pv 0) pe_int (fun _ _ => rfl)) pe_int (nomark _)) (pss_cons (ps_set (i := 3) sc__law_draw.nd rfl (Or.inl rfl) (pe_op op_mod (pe_ix ix_list (pv 0) pe_int (fun _ _ => rfl)) (pv 1)))
 (pss_cons (ps_asg (pe_op op_fdiv (pe_ix ix_list (pv 0) pe_int (fun _ _ => rfl)) (pv 1)) (pg_sub (pv 0) pe_int set_list))
 (pss_one (ps_ret (pv 3))))) pss_nil)
 (pss_cons (ps_set (i := 4) sc__law_draw.nd rfl (Or.inl rfl) (pe_ix ix_list (pv 0) pe_int (fun _ _ => rfl)))
 (pss_cons (ps_asg (pe_op op_mod (pe_op op_add (pe_op op_add (pe_op op_mul (pv 4) pe_int) (pe_op op_mul (pe_op op_fdiv (pv 4) pe_int) pe_int)) pe_int) pe_int) (pg_sub (pv 0) pe_int set_list))
 (pss_one (ps_ret (pe_op op_mod (pe_op op_add (pe_op op_fdiv (pe_ix ix_list (pv 0) pe_int (fun _ _ => rfl)) pe_int) (pe_op op_mul (pe_op op_mod (pe_ix ix_list (pv 0) pe_int (fun _ _ => rfl)) pe_int) pe_int)) (pv 1)))))))), ?_⟩
  refine ⟨fun σ H1 => ∃ (i b s : Int) (cell : Option V), σ = [some (.ref r), some (.int n), cell, none, none] ∧ But r H H1 ∧ H1 r = some (.lst [.ref c, .int i, .int b, .int s]) ∧ H1 c = some (.lst (ns.map V.int)) ∧ 0 ≤ i ∧ 0 ≤ b ∧ 0 ≤ s ∧ s < 2147483647, ?_, ?_⟩
  · refine ⟨_, rfl, r, _, 2, _, rfl, rfl, SqL.here hR, rfl, rfl, _, rfl, ?_⟩
    refine ite2 (fun c1 => ?_) (fun c1 => ?_)
    · refine ⟨_, rfl, r, _, 1, _, rfl, rfl, SqL.here hR, rfl, _, rfl, r, _, 0, _, rfl, rfl, SqL.here hR, rfl, c, _, rfl, .inl (SqL.here hC), _, _, rfl, rfl, _, rfl, ?_⟩
      refine ite2 (fun c2 => ?_) (fun c2 => ?_)
      · have c3 : i < (((ns.map V.int).length : Nat) : Int) := of_decide_eq_true c2
        rw [List.length_map] at c3
        have hk : i.toNat < ns.length := by omega
        have ek : i = ((i.toNat : Nat) : Int) := by omega
        obtain ⟨u, q1⟩ : ∃ u, atI (ns.map V.int) i = some (.int u) := by
          refine ⟨ns[i.toNat], ?_⟩
          have q0 : atI (ns.map V.int) ((i.toNat : Nat) : Int) = some (.int ns[i.toNat]) := atI_nat (by rw [List.getElem?_map, List.getElem?_eq_getElem hk] <;> rfl)
          rw [← ek] at q0
          exact q0
        refine ⟨_, rfl, r, _, 0, _, rfl, rfl, SqL.here hR, rfl, _, rfl, r, _, 1, _, rfl, rfl, SqL.here hR, rfl, c, _, i, _, rfl, rfl, SqL.here hC, q1, ?_⟩
        -- rng[1] = rng[1] + 1
        refine ⟨_, rfl, r, _, 1, _, rfl, rfl, SqL.here hR, rfl, _, _, rfl, rfl, _, rfl, r, _, 1, 1, rfl, rfl, hR, rfl, ?_⟩
        have hC2 : (upd H r (.lst [.ref c, .int (i + 1), .int b, .int s])) c = some (.lst (ns.map V.int)) := by rw [upd_ne ncr]; exact hC
        refine ⟨_, rfl, _, _, rfl, rfl, ⟨by decide, by decide, by decide⟩, _, _, rfl, rfl, _, rfl, ?_⟩
        refine ite2 (fun c4 => ?_) (fun c4 => ?_)
        · have c5 : (10 : Int) ^ (18 : Int).toNat ≤ u := of_decide_eq_true c4
          have c6 : (0 : Int) ≤ (10 : Int) ^ (18 : Int).toNat := by decide
          refine ⟨_, rfl, _, rfl, r, _, 2, 2, rfl, rfl, upd_same, rfl, ?_⟩
          refine ⟨i + 1, u, s, _, rfl, But.set.trans But.set, upd_same, ?_, by omega, by omega, h0, h1⟩
          rw [upd_ne ncr]
          exact hC2
        · refine ⟨_, rfl, r, _, 3, _, rfl, rfl, SqL.here upd_same, rfl, _, _, rfl, rfl, .inl ⟨by omega, by omega⟩, _, rfl, _, _, rfl, rfl, (by show (0 : Int) < 2147483587; decide), _, _, rfl, rfl, .inl ⟨?_, ?_⟩, _, _, rfl, rfl, _, _, rfl, rfl, _, _, rfl, rfl, (by show (0 : Int) < 2147483647; decide), _, rfl, r, _, 3, 3, rfl, rfl, upd_same, rfl, ?_⟩
          · have := Int.emod_nonneg u (show (2147483587 : Int) ≠ 0 by decide)
            omega
          · have := Int.emod_lt_of_pos u (show (0 : Int) < 2147483587 by decide)
            omega
          · refine ⟨i + 1, b, _, _, rfl, But.set.trans But.set, upd_same, ?_, by omega, hb, Int.emod_nonneg _ (by decide), Int.emod_lt_of_pos _ (by decide)⟩
            rw [upd_ne ncr]
            exact hC2
      · exact ⟨i, b, s, none, rfl, fun _ _ _ h => h, hR, hC, hi, hb, h0, h1⟩
    · exact iteF ⟨i, b, s, none, rfl, fun _ _ _ h => h, hR, hC, hi, hb, h0, h1⟩
  · rintro σ H1 ⟨i, b, s, cell, rfl, e1, hR, hC, hi, hb, h0, h1⟩
    refine ⟨_, rfl, r, _, 2, _, rfl, rfl, SqL.here hR, rfl, _, _, rfl, rfl, _, rfl, ?_⟩
    refine ite2 (fun c1 => ?_) (fun c1 => ?_)
    · refine ⟨_, rfl, r, _, 2, _, rfl, rfl, SqL.here hR, rfl, _, rfl, _, _, rfl, rfl, hn, ?_⟩
      refine ⟨_, rfl, r, _, 2, _, rfl, rfl, SqL.here hR, rfl, _, rfl, _, _, rfl, rfl, ⟨hn, hn2⟩, _, rfl, r, _, 2, 2, rfl, rfl, hR, rfl, _, rfl, ?_⟩
      refine q _ _ (Int.emod_nonneg _ (by omega)) (Int.emod_lt_of_pos _ hn) ⟨c, ns, i, _, s, upd_same, ?_, ncr, hi, Int.ediv_nonneg hb (by omega), h0, h1⟩ (e1.trans But.set)
      rw [upd_ne ncr]
      exact hC
    · refine ⟨_, rfl, r, _, 3, _, rfl, rfl, SqL.here hR, rfl, ?_⟩
      refine ⟨_, rfl, _, _, rfl, rfl, .inl ⟨by omega, by omega⟩, _, rfl, _, _, rfl, rfl, ⟨by decide, by decide⟩, _, _, rfl, rfl, .inl ⟨?_, ?_⟩, _, _, rfl, rfl, _, _, rfl, rfl, _, _, rfl, rfl, (by show (0 : Int) < 2147483647; decide), _, rfl, r, _, 3, 3, rfl, rfl, hR, rfl, ?_⟩
      · have := Int.ediv_nonneg h0 (show (0 : Int) ≤ 65539 by decide)
        omega
      · have : s / 65539 ≤ s := Int.ediv_le_self _ h0
        omega
      · have z0 : 0 ≤ (s * 62089 + s / 65539 * 29 + 1013904223) % 2147483647 := Int.emod_nonneg _ (by decide)
        have z1 : (s * 62089 + s / 65539 * 29 + 1013904223) % 2147483647 < 2147483647 := Int.emod_lt_of_pos _ (by decide)
        refine ⟨_, rfl, r, _, 3, _, rfl, rfl, SqL.here upd_same, rfl, _, _, rfl, rfl, ⟨by decide, by decide⟩, _, rfl, r, _, 3, _, rfl, rfl, SqL.here upd_same, rfl, _, _, rfl, rfl, (by show (0 : Int) < 8191; decide), _, _, rfl, rfl, .inl ⟨?_, ?_⟩, _, _, rfl, rfl, _, rfl, _, _, rfl, rfl, hn, ?_⟩
        · have := Int.emod_nonneg ((s * 62089 + s / 65539 * 29 + 1013904223) % 2147483647) (show (8191 : Int) ≠ 0 by decide)
          omega
        · have := Int.emod_lt_of_pos ((s * 62089 + s / 65539 * 29 + 1013904223) % 2147483647) (show (0 : Int) < 8191 by decide)
          omega
        · refine q _ _ (Int.emod_nonneg _ (by omega)) (Int.emod_lt_of_pos _ hn) ⟨c, ns, i, b, _, upd_same, ?_, ncr, hi, hb, z0, z1⟩ (e1.trans But.set)
          rw [upd_ne ncr]
          exact hC

abbrev s__law_comb : Stmt := top 28
theorem sc__law_comb : FnScope ["_law_many", "_law_onleft", "_law_term_here", "_law_step"] ["_law_many", "_law_onleft"] (defScope s__law_comb) := ⟨rfl, rfl, rfl, by decide +kernel, rfl, by decide +kernel, by decide +kernel⟩
theorem ok__law_comb (d : D K mg "_law_comb" s__law_comb ["_law_many", "_law_onleft"] f fd) (B : Blt mg) : FnOk P w K mg base CX0 1 f fd ["_law_many", "_law_onleft"] (spComb K) := by
  refine d.F.ok sc__law_comb (fun vs H Q E h => ?_) (fun cdv A outer s H vs Q E hr h => ?_)
  · obtain ⟨_, _, rfl, _⟩ := h
    rfl
  obtain ⟨m, b, rfl, h1, h2, q⟩ := h
  refine ⟨_, (pss_cons (ps_set (i := 2) sc__law_comb.nd rfl (Or.inl rfl) (pe_tup pa_nil))
 (pss_cons (ps_for PassesOwn.never rfl (pi_range1 (by rfl) B.range (pa_cons (pe_op op_sub (pv 0) pe_int) pa_nil)) (pg_name (i := 3) sc__law_comb.nd rfl (Or.inl rfl))
  (pss_one (ps_set (i := 2) sc__law_comb.nd rfl (Or.inl rfl) (pe_ifExp (pt_truth (pv 1) (by intro _; rfl)) (pe_tup (pa_cons (pv 2) (pa_cons (pe_tup pa_nil) pa_nil))) (pe_tup (pa_cons (pe_tup pa_nil) (pa_cons (pv 2) pa_nil)))))))
 (pss_one (ps_ret (pv 2))))), ?_⟩
  refine ⟨zero_le', fun p hp => ?_⟩
  refine ⟨_, rfl, _, _, rfl, rfl, m - 1, rfl, by omega, by omega, for_range (lo := 0) (n := (m - 1).toNat) (fun i σ H' => ∃ (v : V) (t : Tree) (x : Option V), σ = [some (.int m), some (.bl b), some v, x] ∧ TA K H' v t ∧ t.sz = i + 1 ∧ t.dp = i ∧ Same H H')
    ⟨.ref p, .L, none, rfl, ta_leaf (SqT.here upd_same), rfl, rfl, Same.new hp _⟩ ?_ ?_⟩
  · rintro i σ H' hi ⟨v, t, x, rfl, ha, hz, hd, sm⟩
    refine ⟨_, rfl, b, rfl, ?_⟩
    refine ite2 (fun c => ?_) (fun c => ?_)
    · refine ⟨_, rfl, zero_le', fun p2 hp2 => ⟨two_le, fun p3 hp3 => ?_⟩⟩
      have s2 := Same.new hp2 (.tup [])
      have s3 := s2.trans (Same.new hp3 (.tup [v, .ref p2]))
      refine ⟨_, .N t .L, _, rfl, ta_node (SqT.here upd_same) (ta_mono (Tp.same s3) ha) (ta_mono (Tp.same (Same.new hp3 _)) (ta_leaf (SqT.here upd_same))), by show t.sz + 1 = _; omega, by show max t.dp 0 + 1 = _; omega, sm.trans s3⟩
    · refine ⟨zero_le', fun p2 hp2 => ⟨_, rfl, two_le, fun p3 hp3 => ?_⟩⟩
      have s2 := Same.new hp2 (.tup [])
      have s3 := s2.trans (Same.new hp3 (.tup [.ref p2, v]))
      refine ⟨_, .N .L t, _, rfl, ta_node (SqT.here upd_same) (ta_mono (Tp.same (Same.new hp3 _)) (ta_leaf (SqT.here upd_same))) (ta_mono (Tp.same s3) ha), by show 1 + t.sz = _; omega, by show max 0 t.dp + 1 = _; omega, sm.trans s3⟩
  · rintro σ H' ⟨v, t, x, rfl, ha, hz, hd, sm⟩
    refine ⟨_, rfl, q v t H' ha (by omega) (by omega) sm⟩

abbrev s_is_pair : Stmt := top 12
theorem sc_is_pair : FnScope ["part"] ["part"] (defScope s_is_pair) := ⟨rfl, rfl, rfl, by decide +kernel, rfl, by decide +kernel, by decide +kernel⟩
theorem ok_is_pair (d : D K mg "is_pair" s_is_pair ["part"] f fd) (B : Blt mg) : FnOk P w K mg base CX0 1 f fd ["part"] (spIsPair K) := by
  refine d.F.ok sc_is_pair (fun vs H Q E h => ?_) (fun cdv A outer s H vs Q E hr h => ?_)
  · obtain ⟨_, _, rfl, _⟩ := h
    rfl
  obtain ⟨v, t, rfl, ha, q⟩ := h
  refine ⟨_, (pss_one (ps_ret (pe_and (pe_callB call_isi (by rfl) B.isinstance (by decide +kernel) (pa_cons (pv 0) (pa_cons (pe_bltn (v := .ty "tuple") (by rfl) B.tuple (by decide +kernel) rfl) pa_nil))) (pe_one (pe_cmpR op_eq (pe_callB call_len_seq (by rfl) B.len PySem.boot_len (pa_cons (pv 0) pa_nil)) pe_int (nomark _)))))), ?_⟩
  obtain ⟨a, xs, rfl, hS, hx⟩ : ∃ a xs, v = .ref a ∧ SqT K H a xs ∧ decide (V.int ((xs.length : Nat) : Int) = V.int 2) = !t.isL := by
    cases t with
    | L =>
      obtain ⟨a, e, q⟩ := ta_invL ha
      exact ⟨a, _, e, q, rfl⟩
    | N l r =>
      obtain ⟨a, x, y, e, q, _⟩ := ta_invN ha
      exact ⟨a, _, e, q, rfl⟩
  refine ⟨_, rfl, _, _, _, _, true, rfl, .ty "tuple", tyx_tup hS, kit_ty (by decide +kernel), true, rfl, iteT ⟨_, rfl, a, _, rfl, .inr hS, rfl, ?_⟩⟩
  show Q (.bl (decide (V.int ((xs.length : Nat) : Int) = V.int 2))) H
  rw [hx]
  exact q

abbrev s__law_same : Stmt := top 26
theorem sc__law_same : FnScope ["_law_result", "_law_expected", "_law_k"] ["_law_result", "_law_expected"] (defScope s__law_same) := ⟨rfl, rfl, rfl, by decide +kernel, rfl, by decide +kernel, by decide +kernel⟩
theorem same_ix {H : Hp} {x y : V} {d : PyData} {ds : List PyData} (hd : d = .list ds ∨ d = .tuple ds) (hx : Dp K H x d) : ∃ a xs, x = .ref a ∧ (SqL K H a xs ∨ SqT K H a xs) ∧ DpAll K H xs ds := by
  rcases hd with rfl | rfl
  · cases hx with
    | lst hs ha => exact ⟨_, _, rfl, .inl hs, ha⟩
  · cases hx with
    | tup hs ha => exact ⟨_, _, rfl, .inr hs, ha⟩
theorem rix_of {H : Hp} {a : Addr} {xs : List V} {i : Nat} {v : V} {Q : VK} (h : SqL K H a xs ∨ SqT K H a xs) (hi : xs[i]? = some v) (q : Q v H) : rIx K (.ref a) (.int (0 + (i : Int))) H Q := by
  have e : (0 + (i : Int)) = (i : Int) := by omega
  rcases h with h | h
  · exact .inl ⟨a, xs, _, v, rfl, rfl, h, by rw [e]; exact atI_nat hi, q⟩
  · exact .inr (.inl ⟨a, xs, _, v, rfl, rfl, h, by rw [e]; exact atI_nat hi, q⟩)
theorem same_sq {H H' : Hp} {a : Addr} {xs : List V} (e : Same H H') (h : SqL K H a xs ∨ SqT K H a xs) : SqL K H' a xs ∨ SqT K H' a xs := by
  rcases h with h | h
  · exact .inl (e.seq h)
  · exact .inr ((Tp.same e).sqT h)
theorem ok__law_same (d__law_same : D K mg "_law_same" s__law_same ["_law_result", "_law_expected"] f fd) (B : Blt mg) : ∀ n : Nat, FnOk P w K mg base CX0 n f fd ["_law_result", "_law_expected"] (spSame K n)
  | 0 => fn_none fun vs H Q E h => by
    obtain ⟨_, _, _, _, _, _, _, h, _⟩ := h
    omega
  | n + 1 => by
    have G__law_same := ok__law_same d__law_same B n
    refine d__law_same.F.ok sc__law_same (fun vs H Q E h => ?_) (fun cdv A outer s H vs Q E hr h => ?_)
    · obtain ⟨_, _, _, rfl, _⟩ := h
      rfl
    obtain ⟨x, y, d, rfl, hx, hy, hs, hd, hw, q⟩ := h
    refine ⟨_, (pss_cons (ps_if (pt_val (pe_callB call_isi (by rfl) B.isinstance (by decide +kernel) (pa_cons (pv 1) (pa_cons (pe_bltn (v := .ty "dict") (by rfl) B.dict (by decide +kernel) rfl) pa_nil)))) (pss_one ps_never) pss_nil)
 (pss_cons (ps_if (PW.pt (pw_or (pt_cmpR op_ne (pe_callB call_isi (by rfl) B.isinstance (by decide +kernel) (pa_cons (pv 1) (pa_cons (pe_bltn (v := .ty "tuple") (by rfl) B.tuple (by decide +kernel) rfl) pa_nil))) (pe_callB call_isi (by rfl) B.isinstance (by decide +kernel) (pa_cons (pv 0) (pa_cons (pe_bltn (v := .ty "tuple") (by rfl) B.tuple (by decide +kernel) rfl) pa_nil))) (nomark _)) (pw_or1 (pt_cmpR op_ne (pe_callB call_isi (by rfl) B.isinstance (by decide +kernel) (pa_cons (pv 1) (pa_cons (pe_bltn (v := .ty "list") (by rfl) B.list (by decide +kernel) rfl) pa_nil))) (pe_callB call_isi (by rfl) B.isinstance (by decide +kernel) (pa_cons (pv 0) (pa_cons (pe_bltn (v := .ty "list") (by rfl) B.list (by decide +kernel) rfl) pa_nil))) (nomark _))))) (pss_one (ps_ret pe_bl)) pss_nil)
 (pss_cons (ps_if (pt_not (pt_val (pe_callB call_isiT (by rfl) B.isinstance (by decide +kernel) (pa_cons (pv 1) (pa_cons (pe_tup (pa_cons (pe_bltn (v := .ty "tuple") (by rfl) B.tuple (by decide +kernel) rfl) (pa_cons (pe_bltn (v := .ty "list") (by rfl) B.list (by decide +kernel) rfl) pa_nil))) pa_nil))))) (pss_one (ps_ret (pe_and (pe_cmpR op_eq (pe_callB call_isi (by rfl) B.isinstance (by decide +kernel) (pa_cons (pv 0) (pa_cons (pe_bltn (v := .ty "bool") (by rfl) B.bool (by decide +kernel) rfl) pa_nil))) (pe_callB call_isi (by rfl) B.isinstance (by decide +kernel) (pa_cons (pv 1) (pa_cons (pe_bltn (v := .ty "bool") (by rfl) B.bool (by decide +kernel) rfl) pa_nil))) (nomark _)) (pe_one (pe_cmpR (op_eqD hr.units) (pv 0) (pv 1) (nomark _)))))) pss_nil)
 (pss_one (ps_ret (pe_and (pe_cmpR op_eq (pe_callB call_len_seq (by rfl) B.len PySem.boot_len (pa_cons (pv 0) pa_nil)) (pe_callB call_len_seq (by rfl) B.len PySem.boot_len (pa_cons (pv 1) pa_nil)) (nomark _)) (pe_one (pe_callB (cr_all rfl) (by rfl) B.all (by decide +kernel) (pa_cons (pe_lc (own := [("_law_k", 2)]) (g := gName 2) (tt := tYes) (by rfl) sc__law_same.nd (pi_range1 (by rfl) B.range (pa_cons (pe_callB call_len_seq (by rfl) B.len PySem.boot_len (pa_cons (pv 1) pa_nil)) pa_nil)) (blkOk_by (own := [("_law_k", 2)]) (N := ["_law_result", "_law_expected", "_law_k"]) (sc := defScope s__law_same) (by decide +kernel)) (fun _ _ _ _ _ => (pg_name (i := 2) sc__law_same.nd rfl (Or.inl rfl))) (fun _ _ _ _ _ => pts_nil) (fun _ _ _ _ _ => (pe_call G__law_same hr rfl d__law_same.m d__law_same.F.kp d__law_same.b .nil pass0 (pa_cons (pe_ix (r := rIx K) ix_seq (pv 0) (pv 2) (fun _ _ => rfl)) (pa_cons (pe_ix (r := rIx K) ix_seq (pv 1) (pv 2) (fun _ _ => rfl)) pa_nil))))) pa_nil))))))))), ?_⟩
    refine ⟨_, rfl, _, _, _, _, false, rfl, .ty "dict", dp_ty hy, kit_dict hy, false, rfl, iteF ?_⟩
    refine ⟨_, rfl, _, _, _, _, _, rfl, .ty "tuple", dp_ty hy, kit_tuple hy, _, rfl, _, _, _, _, _, rfl, .ty "tuple", dp_ty hx, kit_tuple hx, rfl, _, rfl, ite_no ?_ ?_⟩
    · rw [decide_eq_true rfl]
      rfl
    refine ⟨_, rfl, _, _, _, _, _, rfl, .ty "list", dp_ty hy, kit_list hy, _, rfl, _, _, _, _, _, rfl, .ty "list", dp_ty hx, kit_list hx, rfl, _, rfl, ite_no ?_ ?_⟩
    · rw [decide_eq_true rfl]
      rfl
    refine ⟨_, rfl, two_le, fun p hp => ?_⟩
    have s1 := Same.new hp (.tup [.ty "tuple", .ty "list"])
    have hx1 := dp_same s1 d hx
    have hy1 := dp_same s1 d hy
    refine ⟨_, p, _, _, _, _, rfl, upd_same, .cons (.ty _) (.cons (.ty _) .nil), dp_ty hy1, kit_seq hy1, _, rfl, ?_⟩
    generalize (upd H p (.tup [.ty "tuple", .ty "list"])) = H1 at *
    cases hsq : (isT d || isLs d) with
    | false =>
      refine iteT ?_
      refine ⟨_, rfl, _, _, _, _, _, rfl, .ty "bool", dp_ty hx1, kit_bool hx1, _, rfl, _, _, _, _, _, rfl, .ty "bool", dp_ty hy1, kit_bool hy1, rfl, true, ?_, iteT ?_⟩
      · rw [decide_eq_true rfl]
      · refine ⟨_, rfl, _, rfl, d, d, hx1, hy1, hs, hs, ?_⟩
        rw [SeqAt.eqv_refl d (SeqAt.canLay_of_shaped hs)]
        exact q H1 s1
    | true =>
      refine iteF ?_
      obtain ⟨ds, hds⟩ : ∃ ds, d = .list ds ∨ d = .tuple ds := by
        cases d <;> first | exact ⟨_, .inl rfl⟩ | exact ⟨_, .inr rfl⟩ | exact absurd (show false = true from hsq) (by decide)
      obtain ⟨a, xs, rfl, hX, hXA⟩ := same_ix (y := y) hds hx1
      obtain ⟨b, ys, rfl, hY, hYA⟩ := same_ix (y := .ref a) hds hy1
      have lx := dpAll_len hXA
      have ly := dpAll_len hYA
      have hcan : PyData.canLayAll0 ds = true := by
        have := SeqAt.canLay_of_shaped hs
        rcases hds with rfl | rfl <;> exact this
      have hdep : d.depth = PyData.depthAll ds + 1 := by rcases hds with rfl | rfl <;> rfl
      have hd64 := SeqAt.depth_of_shaped hs
      have hwd : ds.length ≤ 1000 ∧ wideAll ds = true := by
        have h0 : (decide (ds.length ≤ 1000) && wideAll ds) = true := by rcases hds with rfl | rfl <;> exact hw
        have h1 := Bool.and_eq_true_iff.mp h0
        exact ⟨of_decide_eq_true h1.1, h1.2⟩
      refine ⟨_, rfl, a, _, rfl, hX, _, rfl, b, _, rfl, hY, rfl, true, ?_, iteT ?_⟩
      · rw [lx, ly, decide_eq_true rfl]
      refine ⟨_, rfl, b, _, rfl, hY, (ys.length : Int), rfl, by omega, by omega, fun D hD => ?_⟩
      refine lc_range (lo := 0) (n := ((ys.length : Int)).toNat) (fun i H' => Same H1 H' ∧ H' D = some (.lst (List.replicate i (V.bl true)))) ⟨Same.new hD _, upd_same⟩ ?_ ?_
      · rintro i H' hi ⟨sm, hl⟩
        have hi' : i < ds.length := by omega
        obtain ⟨u, eu, hu⟩ := dpAll_at hXA i ds[i] (List.getElem?_eq_getElem hi')
        obtain ⟨v, ev, hv⟩ := dpAll_at hYA i ds[i] (List.getElem?_eq_getElem hi')
        have hm : ds[i] ∈ ds := List.getElem_mem hi'
        have hdi := depth_at hm
        refine ⟨rfl, ?_⟩
        refine ⟨_, rfl, _, rfl, rix_of (same_sq sm hX) eu ⟨_, rfl, _, rfl, rix_of (same_sq sm hY) ev ⟨u, v, ds[i], rfl, dp_same sm _ hu, dp_same sm _ hv, ?_, by omega, wide_at hwd.2 hm, fun H2 s2 => ?_⟩⟩⟩
        · unfold SeqAt.shaped
          rw [shaped_at hcan hm, decide_eq_true (by omega)]
          rfl
        · refine ⟨_, s2 _ _ hl, by rw [List.length_replicate]; exact small1000 (by omega), fun c o e => ?_, ?_⟩
          · rw [upd_ne (ne_of_none e hD)]
            exact s2 _ _ (sm _ _ e)
          · rw [upd_same, List.replicate_succ']
      · rintro H' ⟨sm, hl⟩
        refine ⟨D, List.replicate ((ys.length : Int)).toNat true, rfl, SqL.here (by rw [hl, List.map_replicate]), ?_⟩
        rw [all_rep]
        exact q H' (s1.trans sm)

abbrev s__law_term : Stmt := top 27
theorem sc__law_term : FnScope ["_law_rng", "_law_many", "_law_cap", "_law_half", "_law_low", "_law_high", "_law_left"] ["_law_rng", "_law_many", "_law_cap"] (defScope s__law_term) := ⟨rfl, rfl, rfl, by decide +kernel, rfl, by decide +kernel, by decide +kernel⟩
theorem ok__law_term {fr : Addr} {frd : FuncData} (d__law_term : D K mg "_law_term" s__law_term ["_law_rng", "_law_many", "_law_cap"] f fd) (B : Blt mg) (d__law_draw : D K mg "_law_draw" s__law_draw ["_law_rng", "_law_amount"] fr frd) : ∀ n : Nat, FnOk P w K mg base CX0 (n + 1) f fd ["_law_rng", "_law_many", "_law_cap"] (spTerm K n)
  | 0 => fn_none fun vs H Q E h => by
    obtain ⟨_, _, _, h, _⟩ := h
    omega
  | n + 1 => by
    have G__law_term := ok__law_term d__law_term B d__law_draw n
    have G__law_draw : FnOk P w K mg base CX0 1 fr frd ["_law_rng", "_law_amount"] spDraw := ok__law_draw d__law_draw B
    refine d__law_term.F.ok sc__law_term (fun vs H Q E h => ?_) (fun cdv A outer s H vs Q E hr h => ?_)
    · obtain ⟨_, _, _, _, rfl, _⟩ := h
      rfl
    obtain ⟨r, many, k, hk, rfl, h6, h1, h2, hR, q⟩ := h
    refine ⟨_, (pss_cons (ps_if (pt_cmpR op_lt (pv 1) pe_int (nomark _)) (pss_one (ps_ret (pe_tup pa_nil))) pss_nil)
 (pss_cons (ps_set (i := 3) sc__law_term.nd rfl (Or.inl rfl) (pe_op op_fdiv (pv 2) pe_int))
 (pss_cons (ps_par (i := 4) (j := 5) (by rfl) sc__law_term.nd rfl rfl (by decide) rfl rfl (pa_cons (pe_callB (call_max2 rfl) (by rfl) B.max (by decide +kernel) (pa_cons pe_int (pa_cons (pe_op op_sub (pv 1) (pv 3)) pa_nil))) (pa_cons (pe_callB (call_min2 rfl) (by rfl) B.min (by decide +kernel) (pa_cons (pe_op op_sub (pv 1) pe_int) (pa_cons (pv 3) pa_nil))) pa_nil)) (by rfl))
 (pss_cons (ps_set (i := 6) sc__law_term.nd rfl (Or.inl rfl) (pe_op op_add (pv 4) (pe_call G__law_draw (hr.mono (by omega)) rfl d__law_draw.m d__law_draw.F.kp d__law_draw.b .nil pass0 (pa_cons (pv 0) (pa_cons (pe_op op_add (pe_op op_sub (pv 5) (pv 4)) pe_int) pa_nil)))))
 (pss_one (ps_ret (pe_tup (pa_cons (pe_call G__law_term hr rfl d__law_term.m d__law_term.F.kp d__law_term.b .nil pass0 (pa_cons (pv 0) (pa_cons (pv 6) (pa_cons (pv 3) pa_nil)))) (pa_cons (pe_call G__law_term hr rfl d__law_term.m d__law_term.F.kp d__law_term.b .nil pass0 (pa_cons (pv 0) (pa_cons (pe_op op_sub (pv 1) (pv 6)) (pa_cons (pv 3) pa_nil)))) pa_nil))))))))), ?_⟩
    refine ⟨_, rfl, _, _, rfl, rfl, _, rfl, ?_⟩
    refine ite2 (fun c => ?_) (fun c => ?_)
    · have c' : many < 2 := of_decide_eq_true c
      refine ⟨zero_le', fun p hp => ?_⟩
      refine q _ .L _ (ta_leaf (SqT.here upd_same)) (by show ((1 : Nat) : Int) = many; omega) (Nat.zero_le _) (hR.same (Same.new hp _)) (But.same (Same.new hp _))
    · have c' : ¬ many < 2 := of_decide_eq_false (Bool.eq_false_iff.mpr c)
      cases k with
      | zero => exact absurd h2 (by show ¬ many ≤ 1; omega)
      | succ k =>
        have hp : (0 : Int) < 2 ^ k := Int.pow_pos (by decide)
        have hp6 : (2 : Int) ^ k ≤ 2 ^ 6 := by
          have : (2 : Nat) ^ k ≤ 2 ^ 6 := Nat.pow_le_pow_right (by decide) (by omega)
          exact_mod_cast this
        have e2 : (2 : Int) ^ (k + 1) = 2 * 2 ^ k := by rw [Int.pow_succ]; omega
        have eh : (2 : Int) ^ (k + 1) / 2 = 2 ^ k := by rw [e2]; omega
        refine ⟨_, rfl, _, _, rfl, rfl, ⟨by decide, by decide⟩, ?_⟩
        rw [e2] at h2
        generalize hh : (2 : Int) ^ (k + 1) / 2 = half at eh
        refine ⟨_, rfl, _, rfl, _, _, rfl, rfl, _, _, rfl, _, rfl, _, _, rfl, rfl, _, rfl, _, _, rfl, _, _, rfl, ?_⟩
        have el : ∀ a b : Int, (if a > b then a else b) = max b a := fun a b => by
          by_cases h : a > b
          · rw [if_pos h]; omega
          · rw [if_neg h]; omega
        have em : ∀ a b : Int, (if a < b then a else b) = min b a := fun a b => by
          by_cases h : a < b
          · rw [if_pos h]; omega
          · rw [if_neg h]; omega
        generalize hlo : (if many - (2 : Int) ^ (k + 1) / 2 > 1 then many - (2 : Int) ^ (k + 1) / 2 else 1) = lo
        generalize hhi : (if (2 : Int) ^ (k + 1) / 2 < many - 1 then (2 : Int) ^ (k + 1) / 2 else many - 1) = hi
        rw [el, hh, eh] at hlo
        rw [em, hh, eh] at hhi
        have p6 : (2 : Int) ^ 6 = 64 := by decide
        refine ⟨_, rfl, _, rfl, _, rfl, _, rfl, _, _, rfl, rfl, _, _, rfl, rfl, r, hi - lo + 1, rfl, hR, by omega, by omega, fun v H1 v0 v1 R1 b1 => ?_⟩
        refine ⟨_, _, rfl, rfl, ?_⟩
        refine ⟨_, rfl, _, rfl, _, rfl, r, lo + v, k, by omega, ?_, by omega, by omega, by omega, R1, fun x tx H2 a2 z2 d2 R2 b2 => ?_⟩
        · show [V.ref r, V.int (lo + v), V.int ((2 : Int) ^ (k + 1) / 2)] = _
          rw [hh, eh]
        refine ⟨_, rfl, _, rfl, _, rfl, _, _, rfl, rfl, _, rfl, r, many - (lo + v), k, by omega, ?_, by omega, by omega, by omega, R2, fun y ty H3 a3 z3 d3 R3 b3 => ?_⟩
        · show [V.ref r, V.int (many - (lo + v)), V.int ((2 : Int) ^ (k + 1) / 2)] = _
          rw [hh, eh]
        refine ⟨two_le, fun p hp' => ?_⟩
        obtain ⟨ys, l2⟩ := R2.lst
        have sn := Same.new hp' (.tup [x, y])
        refine q _ (.N tx ty) _ (ta_node (SqT.here upd_same) (ta_mono (Tp.same sn) (ta_mono (Tp.but l2 b3) a2)) (ta_mono (Tp.same sn) a3)) ?_ ?_ (R3.same sn) (((b1.trans b2).trans b3).trans (But.same sn))
        · show ((tx.sz + ty.sz : Nat) : Int) = many
          omega
        · show max tx.dp ty.dp + 1 ≤ k + 1
          omega

abbrev s__law_any_term : Stmt := top 29
theorem sc__law_any_term : FnScope ["_law_rng", "_law_top", "_law_way", "_law_many"] ["_law_rng", "_law_top"] (defScope s__law_any_term) := ⟨rfl, rfl, rfl, by decide +kernel, rfl, by decide +kernel, by decide +kernel⟩
theorem ok__law_any_term {fr fc ft : Addr} {frd fcd ftd : FuncData} (d__law_any_term : D K mg "_law_any_term" s__law_any_term ["_law_rng", "_law_top"] f fd) (B : Blt mg) (d__law_draw : D K mg "_law_draw" s__law_draw ["_law_rng", "_law_amount"] fr frd)
    (d__law_comb : D K mg "_law_comb" s__law_comb ["_law_many", "_law_onleft"] fc fcd) (d__law_term : D K mg "_law_term" s__law_term ["_law_rng", "_law_many", "_law_cap"] ft ftd) : FnOk P w K mg base CX0 9 f fd ["_law_rng", "_law_top"] (spAny K) := by
  have G__law_draw : FnOk P w K mg base CX0 1 fr frd ["_law_rng", "_law_amount"] spDraw := ok__law_draw d__law_draw B
  have G__law_comb : FnOk P w K mg base CX0 1 fc fcd ["_law_many", "_law_onleft"] (spComb K) := ok__law_comb d__law_comb B
  have G__law_term : FnOk P w K mg base CX0 8 ft ftd ["_law_rng", "_law_many", "_law_cap"] (spTerm K 7) := ok__law_term d__law_term B d__law_draw 7
  refine d__law_any_term.F.ok sc__law_any_term (fun vs H Q E h => ?_) (fun cdv A outer s H vs Q E hr h => ?_)
  · obtain ⟨_, _, rfl, _⟩ := h
    rfl
  obtain ⟨r, n, rfl, h1, h2, hR, q⟩ := h
  refine ⟨_, (pss_cons (ps_par (i := 2) (j := 3) (by rfl) sc__law_any_term.nd rfl rfl (by decide) rfl rfl (pa_cons (pe_call G__law_draw (hr.mono (by decide)) rfl d__law_draw.m d__law_draw.F.kp d__law_draw.b .nil pass0 (pa_cons (pv 0) (pa_cons pe_int pa_nil))) (pa_cons (pe_op op_add pe_int (pe_call G__law_draw (hr.mono (by decide)) rfl d__law_draw.m d__law_draw.F.kp d__law_draw.b .nil pass0 (pa_cons (pv 0) (pa_cons (pv 1) pa_nil)))) pa_nil)) (by rfl))
 (pss_cons (ps_if (pt_cmpR op_lt (pv 2) pe_int (nomark _)) (pss_one (ps_ret (pe_call G__law_comb (hr.mono (by decide)) rfl d__law_comb.m d__law_comb.F.kp d__law_comb.b .nil pass0 (pa_cons (pe_callB (call_min2 rfl) (by rfl) B.min (by decide +kernel) (pa_cons (pv 3) (pa_cons pe_int pa_nil))) (pa_cons (pe_cmpR op_eq (pv 2) pe_int (nomark _)) pa_nil))))) pss_nil)
 (pss_one (ps_ret (pe_call G__law_term (hr.mono (by decide)) rfl d__law_term.m d__law_term.F.kp d__law_term.b .nil pass0 (pa_cons (pv 0) (pa_cons (pv 3) (pa_cons pe_int pa_nil)))))))), ?_⟩
  refine ⟨_, rfl, r, 8, rfl, hR, by decide, by decide, fun way H1 w0 w1 R1 b1 => ?_⟩
  refine ⟨_, rfl, _, rfl, r, n, rfl, R1, by omega, by omega, fun m H2 m0 m1 R2 b2 => ?_⟩
  have b12 := b1.trans b2
  refine ⟨_, _, rfl, rfl, _, _, rfl, ?_⟩
  refine ⟨_, rfl, _, _, rfl, rfl, _, rfl, ?_⟩
  refine ite2 (fun c => ?_) (fun c => ?_)
  · refine ⟨_, rfl, _, _, rfl, _, rfl, rfl, (if 7 < 1 + m then 7 else 1 + m), decide (V.int way = V.int 0), rfl, ?_, ?_, fun v t H3 a3 z3 d3 s3 => ?_⟩
    · split <;> omega
    · split <;> omega
    · refine q v t H3 a3 ?_ ?_ (R2.same s3) (b12.trans (But.same s3))
      · rw [z3]
        split <;> omega
      · have : (t.dp : Int) ≤ 6 := by
          rw [d3]
          split <;> omega
        omega
  · refine ⟨_, rfl, _, rfl, r, 1 + m, 6, by decide, rfl, by decide, by omega, by show 1 + m ≤ 64; omega, R2, fun v t H3 a3 z3 d3 R3 b3 => ?_⟩
    exact q v t H3 a3 (by omega) d3 R3 (b12.trans b3)

abbrev s_is_term : Stmt := top 11
theorem sc_is_term : FnScope ["term", "waiting", "size", "part", "depth"] ["term"] (defScope s_is_term) := ⟨rfl, rfl, rfl, by decide +kernel, rfl, by decide +kernel, by decide +kernel⟩
theorem ok_is_term {fp : Addr} {fpd : FuncData} (d : D K mg "is_term" s_is_term ["term"] f fd) (B : Blt mg) (C : Cst mg) (d_is_pair : D K mg "is_pair" s_is_pair ["part"] fp fpd) : FnOk P w K mg base CX0 2 f fd ["term"] (spOkTerm K (.bl true)) := by
  have G_is_pair : FnOk P w K mg base CX0 1 fp fpd ["part"] (spIsPair K) := ok_is_pair d_is_pair B
  obtain ⟨⟨t1, C_MAX_SIZE⟩, ⟨t2, C_MAX_DEPTH⟩⟩ := C
  refine d.F.ok sc_is_term (fun vs H Q E h => ?_) (fun cdv A outer s H vs Q E hr h => ?_)
  · obtain ⟨_, _, rfl, _⟩ := h
    rfl
  obtain ⟨v, t, rfl, ha, hz, hd, q⟩ := h
  refine ⟨_, (pss_cons (ps_set (i := 1) sc_is_term.nd rfl (Or.inl rfl) (pe_lst (pa_cons (pe_tup (pa_cons (pv 0) (pa_cons pe_int pa_nil))) pa_nil)))
 (pss_cons (ps_set (i := 2) sc_is_term.nd rfl (Or.inl rfl) pe_int)
 (pss_cons (ps_while PassesOwn.never (pt_truth (pv 1) (by intro _; rfl)) (pss_cons (ps_asg (pe_bm0 PySem.F.plainAttrs_list PySem.F.slot_list_pop PySem.F.type_list_pop mt_pop (pv 1)) (pg_tup (by rfl) (pgs_cons (pg_name (i := 3) sc_is_term.nd rfl (Or.inl rfl)) (pgs_cons (pg_name (i := 4) sc_is_term.nd rfl (Or.inl rfl)) pgs_nil))))
 (pss_cons (ps_if (pt_cmpR (op_eqD hr.units) (pv 3) (pe_tup pa_nil) (nomark _)) (pss_one (ps_aug (i := 2) sc_is_term.nd rfl (Or.inl rfl) pe_int ip_add)) (pss_one (ps_if (PW.pt (pw_and (pt_val (pe_call G_is_pair (hr.mono (by decide)) rfl d_is_pair.m d_is_pair.F.kp d_is_pair.b .nil pass0 (pa_cons (pv 3) pa_nil))) (pw_and1 (pt_cmpR op_lt (pv 4) (pe_glob (v := .int 6) rfl C_MAX_DEPTH ⟨_, rfl⟩) (nomark _))))) (pss_cons (ps_expr (pe_bm PySem.F.plainAttrs_list PySem.F.slot_list_append PySem.F.type_list_append mt_append (pv 1) (pa_cons (pe_tup (pa_cons (pe_ix ix_tup (pv 3) pe_int (fun _ _ => rfl)) (pa_cons (pe_op op_add (pv 4) pe_int) pa_nil))) pa_nil)))
 (pss_one (ps_expr (pe_bm PySem.F.plainAttrs_list PySem.F.slot_list_append PySem.F.type_list_append mt_append (pv 1) (pa_cons (pe_tup (pa_cons (pe_ix ix_tup (pv 3) pe_int (fun _ _ => rfl)) (pa_cons (pe_op op_add (pv 4) pe_int) pa_nil))) pa_nil))))) (pss_one (ps_ret pe_bl)))))
 (pss_one (ps_if (pt_cmpR op_gt (pv 2) (pe_glob (v := .int 12) rfl C_MAX_SIZE ⟨_, rfl⟩) (nomark _)) (pss_one (ps_ret pe_bl)) pss_nil)))))
 (pss_one (ps_ret pe_bl))))), ?_⟩
  refine ⟨_, rfl, two_le, fun p hp => ⟨one_le, fun w hw => ?_⟩⟩
  have s1 := Same.new hp (.tup [v, .int 0])
  have s2 := s1.trans (Same.new hw (.lst [.ref p]))
  have hw0 : H w = none := s1.free hw
  refine ⟨fun m σ H' => ∃ (ps : List (V × Tree × Nat)) (n : Int) (x y : Option V), σ = [some v, some (.ref w), some (.int n), x, y] ∧ Same H H' ∧ H' w = some (.lst (ps.map (·.1))) ∧ (∀ p ∈ ps, Item K H' p) ∧ 0 ≤ n ∧ n + (szs ps : Int) = t.sz ∧ m = nds ps,
    ⟨_, [(.ref p, t, 0)], 0, none, none, rfl, s2, upd_same, ?_, by decide, by simp [szs], rfl⟩, ?_⟩
  · intro z hz'
    cases List.mem_singleton.mp hz'
    exact ⟨p, v, rfl, (Tp.same (Same.new hw _)).sqT (SqT.here upd_same), ta_mono (Tp.same s2) ha, by show 0 + t.dp ≤ 6; omega⟩
  · rintro m σ H' ⟨ps, n, x, y, rfl, sm, hl, hI, hn, hs, rfl⟩
    rcases List.eq_nil_or_concat ps with rfl | ⟨qs, z, rfl⟩
    · exact ⟨_, rfl, _, .inl ⟨_, SqL.here hl, rfl⟩, iteF (q H' sm)⟩
    · rw [List.concat_eq_append] at *
      rw [List.map_append] at hl
      refine ⟨_, rfl, true, .inl ⟨_, SqL.here hl, ?_⟩, iteT ?_⟩
      · cases qs <;> rfl
      have hIz := hI z (by simp)
      have hIq : ∀ p ∈ qs, Item K H' p := fun p hp => hI p (by simp [hp])
      obtain ⟨zv, zt, zd⟩ := z
      obtain ⟨a, u, ez, h2, h3, h4⟩ := hIz
      have ez' : zv = .ref a := ez
      subst ez'
      have h4 : zd + zt.dp ≤ 6 := h4
      have h3 : TA K H' u zt := h3
      have h2 : SqT K H' a [u, .int (zd : Int)] := h2
      have hs : n + ((szs qs + zt.sz : Nat) : Int) = t.sz := by
        rw [szs_snoc] at hs
        exact hs
      have en : nds (qs ++ [(V.ref a, zt, zd)]) = nds qs + zt.nodes := nds_snoc _ _
      have hsz := szs_len qs
      refine ⟨fun σ' H' => ∃ (ps : List (V × Tree × Nat)) (n : Int) (x y : Option V), σ' = [some v, some (.ref w), some (.int n), x, y] ∧ Same H H' ∧ H' w = some (.lst (ps.map (·.1))) ∧ (∀ p ∈ ps, Item K H' p) ∧ 0 ≤ n ∧ n + (szs ps : Int) = t.sz ∧ nds ps < nds (qs ++ [(V.ref a, zt, zd)]), ?_, ?_⟩
      · rintro σ' H'' ⟨ps, n, x, y, e1, e2, e3, e4, e5, e6, e7⟩
        exact ⟨_, e7, ps, n, x, y, e1, e2, e3, e4, e5, e6, rfl⟩
      -- part, depth = waiting.pop()
      have tp1 : Tp H' (upd H' w (.lst (qs.map (·.1)))) := Tp.but hl But.set
      refine ⟨_, rfl, .inl ⟨rfl, _, SqL.here hl⟩, w, _, .ref a, rfl, rfl, hl, ?_, a, [u, .int zd], rfl, ?_, rfl, _, _, rfl, _, _, rfl, rfl, ?_⟩
      · simp
      · rw [List.dropLast_append_of_ne_nil (by simp)]
        simp only [List.map_cons, List.map_nil, List.dropLast_singleton, List.append_nil]
        exact tp1.sqT h2
      rw [List.dropLast_append_of_ne_nil (by simp)]
      simp only [List.map_cons, List.map_nil, List.dropLast_singleton, List.append_nil]
      have sm1 : Same H (upd H' w (.lst (qs.map (·.1)))) := fun b o e => by
        rw [upd_ne (ne_of_none e hw0)]
        exact sm _ _ e
      refine ⟨_, rfl, zero_le', fun p5 hp5 => ⟨zt.d, .tuple [], ta_mono (Tp.same (Same.new hp5 _)) (ta_mono tp1 h3), Dp.tup (SqT.here upd_same) .nil, Tree.shaped (by omega), shapedE, _, rfl, ?_⟩⟩
      refine ite_eq (Tree.eqvL zt) ?_
      have tp2 : Tp (upd H' w (.lst (qs.map (·.1)))) (upd (upd H' w (.lst (qs.map (·.1)))) p5 (.tup [])) := Tp.same (Same.new hp5 _)
      have sm2 : Same H (upd (upd H' w (.lst (qs.map (·.1)))) p5 (.tup [])) := sm1.trans (Same.new hp5 _)
      have nw5 : w ≠ p5 := fun e => by
        rw [← e, upd_same] at hp5
        cases hp5
      have hl2 : (upd (upd H' w (.lst (qs.map (·.1)))) p5 (.tup [])) w = some (.lst (qs.map (·.1))) := by rw [upd_ne nw5, upd_same]
      generalize (upd (upd H' w (.lst (qs.map (·.1)))) p5 (.tup [])) = H2 at *
      cases zt with
      | L =>
        have hs : n + ((szs qs + 1 : Nat) : Int) = t.sz := hs
        refine iteT ⟨_, rfl, _, _, rfl, rfl, _, rfl, _, _, rfl, rfl, _, rfl, ?_⟩
        refine ite_no (decide_eq_false (by show ¬ (n + 1 > 12); omega)) ?_
        refine ⟨qs, n + 1, _, _, rfl, sm2, hl2, fun p hp => (hIq p hp).mono (tp1.trans tp2), by omega, by omega, ?_⟩
        rw [en]
        exact Nat.lt_succ_self _
      | N l r =>
        have hs : n + ((szs qs + (l.sz + r.sz) : Nat) : Int) = t.sz := hs
        have h4 : zd + (max l.dp r.dp + 1) ≤ 6 := h4
        obtain ⟨b, x1, x2, rfl, hS, hL, hR⟩ := ta_invN (ta_mono (tp1.trans tp2) h3)
        refine iteF ⟨_, rfl, _, _, rfl, ta_node hS hL hR, true, rfl, iteT ⟨_, rfl, _, _, rfl, rfl, _, rfl, ?_⟩⟩
        refine ite_yes (decide_eq_true (by omega)) ?_
        refine ⟨_, rfl, .inl ⟨rfl, _, SqL.here hl2⟩, _, rfl, b, _, 0, _, rfl, rfl, hS, rfl, _, rfl, _, _, rfl, rfl, two_le, fun p6 hp6 => ?_⟩
        have tp3 : Tp H2 (upd H2 p6 (.tup [x1, .int ((zd : Int) + 1)])) := Tp.same (Same.new hp6 _)
        have nw6 : w ≠ p6 := ne_of_none hl2 hp6
        refine ⟨w, _, _, rfl, rfl, (by rw [upd_ne nw6]; exact hl2), (by rw [List.length_map]; exact small1000 (by omega)), ?_⟩
        have hl3 : (upd (upd H2 p6 (.tup [x1, .int ((zd : Int) + 1)])) w (.lst (qs.map (·.1) ++ [.ref p6]))) w = some (.lst (qs.map (·.1) ++ [.ref p6])) := upd_same
        have tp4 : Tp (upd H2 p6 (.tup [x1, .int ((zd : Int) + 1)])) (upd (upd H2 p6 (.tup [x1, .int ((zd : Int) + 1)])) w (.lst (qs.map (·.1) ++ [.ref p6]))) := Tp.but (by rw [upd_ne nw6]; exact hl2) But.set
        have sm4 : Same H (upd (upd H2 p6 (.tup [x1, .int ((zd : Int) + 1)])) w (.lst (qs.map (·.1) ++ [.ref p6]))) := fun b o e => by
          rw [upd_ne (ne_of_none e hw0)]
          exact (sm2.trans (Same.new hp6 _)) _ _ e
        have h6 : SqT K (upd (upd H2 p6 (.tup [x1, .int ((zd : Int) + 1)])) w (.lst (qs.map (·.1) ++ [.ref p6]))) p6 [x1, .int ((zd : Int) + 1)] := tp4.sqT (SqT.here upd_same)
        have tp24 : Tp H2 _ := tp3.trans tp4
        generalize (upd (upd H2 p6 (.tup [x1, .int ((zd : Int) + 1)])) w (.lst (qs.map (·.1) ++ [.ref p6]))) = H4 at *
        refine ⟨_, rfl, .inl ⟨rfl, _, SqL.here hl3⟩, _, rfl, b, _, 1, _, rfl, rfl, tp24.sqT hS, rfl, _, rfl, _, _, rfl, rfl, two_le, fun p7 hp7 => ?_⟩
        have tp5 : Tp H4 (upd H4 p7 (.tup [x2, .int ((zd : Int) + 1)])) := Tp.same (Same.new hp7 _)
        have nw7 : w ≠ p7 := ne_of_none hl3 hp7
        refine ⟨w, _, _, rfl, rfl, (by rw [upd_ne nw7]; exact hl3), (by rw [List.length_append, List.length_map, List.length_singleton]; exact small1000 (by omega)), ?_⟩
        have tp6 : Tp (upd H4 p7 (.tup [x2, .int ((zd : Int) + 1)])) (upd (upd H4 p7 (.tup [x2, .int ((zd : Int) + 1)])) w (.lst ((qs.map (·.1) ++ [.ref p6]) ++ [.ref p7]))) := Tp.but (by rw [upd_ne nw7]; exact hl3) But.set
        refine ⟨_, rfl, _, _, rfl, rfl, _, rfl, ?_⟩
        have q1 := l.sz_pos
        have q2 := r.sz_pos
        refine ite_no (decide_eq_false (by omega)) ?_
        refine ⟨qs ++ [(.ref p6, l, zd + 1)] ++ [(.ref p7, r, zd + 1)], n, _, _, rfl, fun b o e => ?_, ?_, ?_, hn, ?_, ?_⟩
        · rw [upd_ne (ne_of_none e hw0)]
          exact (sm4.trans (Same.new hp7 _)) _ _ e
        · rw [upd_same, List.map_append, List.map_append]
          rfl
        · intro z hz'
          rcases List.mem_append.mp hz' with hz' | hz'
          · rcases List.mem_append.mp hz' with hz' | hz'
            · exact (hIq z hz').mono (((tp1.trans tp2).trans tp24).trans (tp5.trans tp6))
            · cases List.mem_singleton.mp hz'
              exact ⟨p6, x1, rfl, (tp5.trans tp6).sqT h6, ta_mono (tp5.trans tp6) (ta_mono tp24 hL), by show zd + 1 + l.dp ≤ 6; omega⟩
          · cases List.mem_singleton.mp hz'
            exact ⟨p7, x2, rfl, tp6.sqT (SqT.here upd_same), ta_mono (tp5.trans tp6) (ta_mono tp24 hR), by show zd + 1 + r.dp ≤ 6; omega⟩
        · rw [szs_snoc, szs_snoc]
          show n + ((szs qs + l.sz + r.sz : Nat) : Int) = t.sz
          omega
        · rw [nds_snoc, nds_snoc, en]
          show nds qs + l.nodes + r.nodes < nds qs + (l.nodes + r.nodes + 1)
          omega

abbrev s_check_term : Stmt := top 13
theorem sc_check_term : FnScope ["term"] ["term"] (defScope s_check_term) := ⟨rfl, rfl, rfl, by decide +kernel, rfl, by decide +kernel, by decide +kernel⟩
theorem ok_check_term {fp fi : Addr} {fpd fid : FuncData} (d : D K mg "check_term" s_check_term ["term"] f fd) (B : Blt mg) (C : Cst mg) (d_is_pair : D K mg "is_pair" s_is_pair ["part"] fp fpd) (d_is_term : D K mg "is_term" s_is_term ["term"] fi fid) : FnOk P w K mg base CX0 3 f fd ["term"] (spOkTerm K .non) := by
  have G_is_term : FnOk P w K mg base CX0 2 fi fid ["term"] (spOkTerm K (.bl true)) := ok_is_term d_is_term B C d_is_pair
  refine d.F.ok sc_check_term (fun vs H Q E h => ?_) (fun cdv A outer s H vs Q E hr h => ?_)
  · obtain ⟨_, _, rfl, _⟩ := h
    rfl
  obtain ⟨v, t, rfl, ha, hz, hd, q⟩ := h
  refine ⟨_, (pss_one (ps_if (pt_not (pt_val (pe_call G_is_term (hr.mono (by decide)) rfl d_is_term.m d_is_term.F.kp d_is_term.b .nil pass0 (pa_cons (pv 0) pa_nil)))) (pss_one ps_never) pss_nil)), ?_⟩
  exact ⟨_, rfl, v, t, rfl, ha, hz, hd, fun H' sm => ⟨true, rfl, iteF (q H' sm)⟩⟩

abbrev s_full_size : Stmt := top 18
theorem sc_full_size : FnScope ["term"] ["term"] (defScope s_full_size) := ⟨rfl, rfl, rfl, by decide +kernel, rfl, by decide +kernel, by decide +kernel⟩
theorem ok_full_size (d_full_size : D K mg "full_size" s_full_size ["term"] f fd) : ∀ n : Nat, FnOk P w K mg base CX0 n f fd ["term"] (spFsz K n)
  | 0 => fn_none fun vs H Q E h => by
    obtain ⟨_, _, _, _, h, _⟩ := h
    omega
  | n + 1 => by
    have G_full_size := ok_full_size d_full_size n
    refine d_full_size.F.ok sc_full_size (fun vs H Q E h => ?_) (fun cdv A outer s H vs Q E hr h => ?_)
    · obtain ⟨_, _, rfl, _⟩ := h
      rfl
    obtain ⟨v, t, rfl, ha, hd, hn, hz, q⟩ := h
    refine ⟨_, (pss_cons (ps_if (pt_cmpR (op_eqD hr.units) (pv 0) (pe_tup pa_nil) (nomark _)) (pss_one (ps_ret pe_int)) pss_nil)
 (pss_one (ps_ret (pe_op op_mul (pe_op op_add (pe_call G_full_size hr rfl d_full_size.m d_full_size.F.kp d_full_size.b .nil pass0 (pa_cons (pe_ix ix_tup (pv 0) pe_int (fun _ _ => rfl)) pa_nil)) pe_int) (pe_call G_full_size hr rfl d_full_size.m d_full_size.F.kp d_full_size.b .nil pass0 (pa_cons (pe_ix ix_tup (pv 0) pe_int (fun _ _ => rfl)) pa_nil)))))), ?_⟩
    refine ⟨_, rfl, zero_le', fun p hp => ⟨t.d, .tuple [], ta_mono (Tp.same (Same.new hp _)) ha, Dp.tup (SqT.here upd_same) .nil, Tree.shaped (by omega), shapedE, _, rfl, ite_eq (Tree.eqvL t) ?_⟩⟩
    have s1 := Same.new hp (.tup [])
    cases t with
    | L => exact iteT (q _ s1)
    | N l r =>
      have hd : max l.dp r.dp + 1 < n + 1 := hd
      have hz : l.sz + r.sz ≤ 20 := hz
      obtain ⟨b, x1, x2, rfl, hS, hL, hR⟩ := ta_invN (ta_mono (Tp.same s1) ha)
      have b1 : l.fsz + 1 ≤ 4 ^ 20 := Nat.le_trans l.fsz_le (Nat.pow_le_pow_right (by decide) (by omega))
      have b2 : (4 : Nat) ^ 20 = 1099511627776 := by decide
      refine iteF ⟨_, rfl, b, _, 0, _, rfl, rfl, hS, rfl, x1, l, rfl, hL, by omega, by omega, by omega, fun H2 s2 => ⟨_, _, rfl, rfl, ?_⟩⟩
      refine ⟨_, rfl, b, _, 1, _, rfl, rfl, (Tp.same s2).sqT hS, rfl, x2, r, rfl, ta_mono (Tp.same s2) hR, by omega, by omega, by omega, fun H3 s3 => ⟨_, _, rfl, rfl, .inl ⟨by omega, by omega⟩, ?_⟩⟩
      have e : (((Tree.N l r).fsz : Nat) : Int) = ((l.fsz : Int) + 1) * (r.fsz : Int) := by
        show (((l.fsz + 1) * r.fsz : Nat) : Int) = _
        rw [Int.natCast_mul]
        rfl
      have q' := q H3 ((s1.trans s2).trans s3)
      rw [e] at q'
      exact q'

abbrev s_check_full_expansion : Stmt := top 17
theorem sc_check_full_expansion : FnScope ["term", "size"] ["term"] (defScope s_check_full_expansion) := ⟨rfl, rfl, rfl, by decide +kernel, rfl, by decide +kernel, by decide +kernel⟩
theorem ok_check_full_expansion {fp fi fc fg : Addr} {fpd fid fcd fgd : FuncData} (d : D K mg "check_full_expansion" s_check_full_expansion ["term"] f fd) (B : Blt mg) (C : Cst mg) (MF : ∃ t, mg "MAX_FULL_SIZE" = some (.int 500 t)) (d_is_pair : D K mg "is_pair" s_is_pair ["part"] fp fpd) (d_is_term : D K mg "is_term" s_is_term ["term"] fi fid)
    (d_check_term : D K mg "check_term" s_check_term ["term"] fc fcd) (d_full_size : D K mg "full_size" s_full_size ["term"] fg fgd) : FnOk P w K mg base CX0 8 f fd ["term"] (spCheckFull K) := by
  have G_check_term : FnOk P w K mg base CX0 3 fc fcd ["term"] (spOkTerm K .non) := ok_check_term d_check_term B C d_is_pair d_is_term
  have G_full_size : FnOk P w K mg base CX0 7 fg fgd ["term"] (spFsz K 7) := ok_full_size d_full_size 7
  obtain ⟨tk, C_MAX_FULL_SIZE⟩ := MF
  refine d.F.ok sc_check_full_expansion (fun vs H Q E h => ?_) (fun cdv A outer s H vs Q E hr h => ?_)
  · obtain ⟨_, _, rfl, _⟩ := h
    rfl
  obtain ⟨v, t, rfl, ha, hz, hd, hf, q⟩ := h
  refine ⟨_, (pss_cons (ps_expr (pe_call G_check_term (hr.mono (by decide)) rfl d_check_term.m d_check_term.F.kp d_check_term.b .nil pass0 (pa_cons (pv 0) pa_nil)))
 (pss_cons (ps_set (i := 1) sc_check_full_expansion.nd rfl (Or.inl rfl) (pe_call G_full_size (hr.mono (by decide)) rfl d_full_size.m d_full_size.F.kp d_full_size.b .nil pass0 (pa_cons (pv 0) pa_nil)))
 (pss_one (ps_if (pt_cmpR op_gt (pv 1) (pe_glob (v := .int 500) rfl C_MAX_FULL_SIZE ⟨_, rfl⟩) (nomark _)) (pss_one ps_never) pss_nil)))), ?_⟩
  refine ⟨_, rfl, v, t, rfl, ha, hz, hd, fun H1 s1 => ⟨_, rfl, v, t, rfl, ta_mono (Tp.same s1) ha, by omega, by omega, by omega, fun H2 s2 => ⟨_, rfl, _, _, rfl, rfl, _, rfl, ite_no (decide_eq_false ?_) (q H2 (s1.trans s2))⟩⟩⟩
  show ¬ ((t.fsz : Int) > 500)
  omega

abbrev s_spread : Stmt := top 20
theorem sc_spread : FnScope ["pool", "acting", "number", "left", "right"] ["pool", "acting", "number"] (defScope s_spread) := ⟨rfl, rfl, rfl, by decide +kernel, rfl, by decide +kernel, by decide +kernel⟩
theorem ok_spread {C fP : Addr} {fdP : FuncData} (d_spread : D K mg "spread" s_spread ["pool", "acting", "number"] f fd) (T : PoolT K mg C) (B : Blt mg) (FP : Fun K "pair" "Pool.pair" s_PPair fP fdP) (bP : Binds K fdP ["self", "left", "right"] []) (mP : Meth K C "pair" fP) : ∀ n : Nat, FnOk P w K mg base CX0 (n + 1) f fd ["pool", "acting", "number"] (spSpread K C n)
  | 0 => fn_none fun vs H Q E h => by
    obtain ⟨_, _, _, _, _, _, _, _, _, _, _, _, _, _, h, _⟩ := h
    omega
  | n + 1 => by
    have G_spread := ok_spread d_spread T B FP bP mP n
    have GP : FnOk P w K mg base CX0 1 fP fdP ["self", "left", "right"] (spPair K C) := ok_PPair FP T B
    refine d_spread.F.ok sc_spread (fun vs H Q E h => ?_) (fun cdv A outer s H vs Q E hr h => ?_)
    · obtain ⟨_, _, _, _, _, _, _, _, _, _, rfl, _⟩ := h
      rfl
    obtain ⟨x, d, a, b, c, k, m, ts, tk, t, rfl, hP, hk, hm, hd, hlen, q⟩ := h
    refine ⟨_, (pss_cons (ps_if (pt_cmpR (op_eqD hr.units) (pe_ix ix_list (pe_fld (pv 0) rfl) (pv 2) (fun _ _ => rfl)) (pe_tup pa_nil) (nomark _)) (pss_one (ps_ret (pe_meth (pv 0) T.cl mP GP (hr.mono (by omega)) bP .nil pass0 (pa_cons (pv 1) (pa_cons (pv 2) pa_nil))))) pss_nil)
 (pss_cons (ps_asg (pe_ix ix_list (pe_fld (pv 0) rfl) (pv 2) (fun _ _ => rfl)) (pg_tup (by rfl) (pgs_cons (pg_name (i := 3) sc_spread.nd rfl (Or.inl rfl)) (pgs_cons (pg_name (i := 4) sc_spread.nd rfl (Or.inl rfl)) pgs_nil))))
 (pss_one (ps_ret (pe_meth (pv 0) T.cl mP GP (hr.mono (by omega)) bP .nil pass0 (pa_cons (pe_call G_spread hr rfl d_spread.m d_spread.F.kp d_spread.b .nil pass0 (pa_cons (pv 0) (pa_cons (pv 1) (pa_cons (pv 3) pa_nil)))) (pa_cons (pe_call G_spread hr rfl d_spread.m d_spread.F.kp d_spread.b .nil pass0 (pa_cons (pv 0) (pa_cons (pv 1) (pa_cons (pv 4) pa_nil)))) pa_nil))))))), ?_⟩
    have n1 : (pf d a b c).lookup ("pair" : Str) = none := pf_no _ _ _ _ (by decide +kernel) (by decide +kernel) (by decide +kernel) (by decide +kernel)
    obtain ⟨dx, ps, qq, ops, hx, ha, hpm, hS, hops⟩ := hP.at hm
    refine ⟨_, rfl, x, C, dx, _, _, rfl, hx, T.cl, T.n2, pf_p _ _ _ _, _, rfl, a, _, _, _, rfl, rfl, SqL.here ha, atI_nat hpm, zero_le', fun p hp => ?_⟩
    have s1 := Same.new hp (.tup [])
    have hP1 := hP.same s1
    have hx1 := s1 _ _ hx
    have ha1 := s1 _ _ ha
    have hS1 := (Tp.same s1).sqT hS
    cases t with
    | L =>
      have hops : ops = [] := hops
      subst hops
      refine ⟨.tuple [], .tuple [], ops_L hS1, Dp.tup (SqT.here upd_same) .nil, shapedE, shapedE, true, rfl, iteT ?_⟩
      refine ⟨_, rfl, x, dx, _, rfl, hx1, n1, _, rfl, _, rfl, x, d, a, b, c, k, m, ts, tk, .L, rfl, hP1, by omega, hk, hm, fun j ts' H' P' e' pr' hj lj => ?_⟩
      exact q j ts' H' P' ((Ex4.same s1).trans e') pr' hj lj
    | N l r =>
      obtain ⟨il, ir, rfl, hl, hr'⟩ := hops
      have hd : max l.dp r.dp + 1 < n + 1 := hd
      have hlen : ts.length + (l.nodes + r.nodes + 1) ≤ 1000000 := hlen
      refine ⟨_, .tuple [], ops_N hS1, Dp.tup (SqT.here upd_same) .nil, ops_sh _ _, shapedE, false, rfl, iteF ?_⟩
      refine ⟨_, rfl, x, C, dx, _, _, rfl, hx1, T.cl, T.n2, pf_p _ _ _ _, _, rfl, a, _, _, _, rfl, rfl, SqL.here ha1, atI_nat hpm, qq, _, rfl, hS1, rfl, _, _, rfl, _, _, rfl, rfl, ?_⟩
      refine ⟨_, rfl, x, dx, _, rfl, hx1, n1, _, rfl, _, rfl, _, rfl, x, d, a, b, c, k, il, ts, tk, l, rfl, hP1, hk, hl, by omega, by omega, fun j1 ts1 H1 P1 e1 pr1 h1 l1 => ?_⟩
      refine ⟨_, rfl, _, rfl, _, rfl, x, d, a, b, c, k, ir, ts1, tk, r, rfl, P1, pr1 _ _ hk, pr1 _ _ hr', by omega, by omega, fun j2 ts2 H2 P2 e2 pr2 h2 l2 => ?_⟩
      refine ⟨x, d, a, b, c, j1, j2, ts2, l.sub tk, r.sub tk, rfl, P2, by omega, pr2 _ _ h1, h2, fun j ts3 H3 P3 e3 pr3 h3 l3 => ?_⟩
      exact q j ts3 H3 P3 ((((Ex4.same s1).trans e1).trans e2).trans e3) ((pr1.trans pr2).trans pr3) h3 (by show ts3.length ≤ ts.length + (l.nodes + r.nodes + 1); omega)

abbrev s_full_number : Stmt := top 19
theorem sc_full_number : FnScope ["pool", "number", "left", "right"] ["pool", "number"] (defScope s_full_number) := ⟨rfl, rfl, rfl, by decide +kernel, rfl, by decide +kernel, by decide +kernel⟩
theorem ok_full_number {C fP fS : Addr} {fdP fdS : FuncData} (d_full_number : D K mg "full_number" s_full_number ["pool", "number"] f fd) (T : PoolT K mg C) (B : Blt mg) (FP : Fun K "pair" "Pool.pair" s_PPair fP fdP) (bP : Binds K fdP ["self", "left", "right"] []) (mP : Meth K C "pair" fP)
    (d_spread : D K mg "spread" s_spread ["pool", "acting", "number"] fS fdS) : ∀ n : Nat, FnOk P w K mg base CX0 (n + 15) f fd ["pool", "number"] (spFull K C n)
  | 0 => fn_none fun vs H Q E h => by
    obtain ⟨_, _, _, _, _, _, _, _, _, _, _, h, _⟩ := h
    omega
  | n + 1 => by
    have G_full_number := ok_full_number d_full_number T B FP bP mP d_spread n
    have G_spread : FnOk P w K mg base CX0 13 fS fdS ["pool", "acting", "number"] (spSpread K C 12) := ok_spread d_spread T B FP bP mP 12
    refine FnOk.mono (j := n + 15 + 1) ?_ (by omega)
    refine d_full_number.F.ok sc_full_number (fun vs H Q E h => ?_) (fun cdv A outer s H vs Q E hr h => ?_)
    · obtain ⟨_, _, _, _, _, _, _, _, rfl, _⟩ := h
      rfl
    obtain ⟨x, d, a, b, c, m, ts, t, rfl, hP, hm, hd, hn, hz, hlen, q⟩ := h
    refine ⟨_, (pss_cons (ps_if (pt_cmpR (op_eqD hr.units) (pe_ix ix_list (pe_fld (pv 0) rfl) (pv 1) (fun _ _ => rfl)) (pe_tup pa_nil) (nomark _)) (pss_one (ps_ret (pv 1))) pss_nil)
 (pss_cons (ps_asg (pe_ix ix_list (pe_fld (pv 0) rfl) (pv 1) (fun _ _ => rfl)) (pg_tup (by rfl) (pgs_cons (pg_name (i := 2) sc_full_number.nd rfl (Or.inl rfl)) (pgs_cons (pg_name (i := 3) sc_full_number.nd rfl (Or.inl rfl)) pgs_nil))))
 (pss_one (ps_ret (pe_call G_spread (hr.mono (by omega)) rfl d_spread.m d_spread.F.kp d_spread.b .nil pass0 (pa_cons (pv 0) (pa_cons (pe_call G_full_number hr rfl d_full_number.m d_full_number.F.kp d_full_number.b .nil pass0 (pa_cons (pv 0) (pa_cons (pv 2) pa_nil))) (pa_cons (pe_call G_full_number hr rfl d_full_number.m d_full_number.F.kp d_full_number.b .nil pass0 (pa_cons (pv 0) (pa_cons (pv 3) pa_nil))) pa_nil)))))))), ?_⟩
    obtain ⟨dx, ps, qq, ops, hx, ha, hpm, hS, hops⟩ := hP.at hm
    refine ⟨_, rfl, x, C, dx, _, _, rfl, hx, T.cl, T.n2, pf_p _ _ _ _, _, rfl, a, _, _, _, rfl, rfl, SqL.here ha, atI_nat hpm, zero_le', fun p hp => ?_⟩
    have s1 := Same.new hp (.tup [])
    have hP1 := hP.same s1
    have hx1 := s1 _ _ hx
    have ha1 := s1 _ _ ha
    have hS1 := (Tp.same s1).sqT hS
    cases t with
    | L =>
      have hops : ops = [] := hops
      subst hops
      refine ⟨.tuple [], .tuple [], ops_L hS1, Dp.tup (SqT.here upd_same) .nil, shapedE, shapedE, true, rfl, iteT ?_⟩
      exact ⟨_, rfl, q m ts _ hP1 (Ex4.same s1) (fun _ _ h => h) hm (Nat.le_add_right _ _)⟩
    | N l r =>
      obtain ⟨il, ir, rfl, hl, hr'⟩ := hops
      have hd : max l.dp r.dp + 1 < n + 1 := hd
      have hz : l.sz + r.sz ≤ 12 := hz
      have hlen : ts.length + (l.fnc + r.fnc + r.fe.nodes) ≤ 1000000 := hlen
      have f1 := r.fe_dp
      refine ⟨_, .tuple [], ops_N hS1, Dp.tup (SqT.here upd_same) .nil, ops_sh _ _, shapedE, false, rfl, iteF ?_⟩
      refine ⟨_, rfl, x, C, dx, _, _, rfl, hx1, T.cl, T.n2, pf_p _ _ _ _, _, rfl, a, _, _, _, rfl, rfl, SqL.here ha1, atI_nat hpm, qq, _, rfl, hS1, rfl, _, _, rfl, _, _, rfl, rfl, ?_⟩
      refine ⟨_, rfl, _, rfl, _, rfl, x, d, a, b, c, il, ts, l, rfl, hP1, hl, by omega, by omega, by omega, by omega, fun j1 ts1 H1 P1 e1 pr1 h1 l1 => ?_⟩
      refine ⟨_, rfl, _, rfl, x, d, a, b, c, ir, ts1, r, rfl, P1, pr1 _ _ hr', by omega, by omega, by omega, by omega, fun j2 ts2 H2 P2 e2 pr2 h2 l2 => ?_⟩
      refine ⟨x, d, a, b, c, j1, j2, ts2, l.fe, r.fe, rfl, P2, pr2 _ _ h1, h2, by omega, by omega, fun j ts3 H3 P3 e3 pr3 h3 l3 => ?_⟩
      exact q j ts3 H3 P3 ((((Ex4.same s1).trans e1).trans e2).trans e3) ((pr1.trans pr2).trans pr3) h3 (by show ts3.length ≤ ts.length + (l.fnc + r.fnc + r.fe.nodes); omega)

abbrev s_places_below : Stmt := top 16
theorem sc_places_below : FnScope ["pool", "number", "path", "places", "turn", "operand"] ["pool", "number", "path"] (defScope s_places_below) := ⟨rfl, rfl, rfl, by decide +kernel, rfl, by decide +kernel, by decide +kernel⟩
theorem emp_app (z : Str) : Str.empty ++ z = z := by
  show (⟨#[] ++ z.cps⟩ : Str) = z
  simp
theorem ok_places_below {C : Addr} (d_places_below : D K mg "places_below" s_places_below ["pool", "number", "path"] f fd) (T : PoolT K mg C) (B : Blt mg) : ∀ n : Nat, FnOk P w K mg base CX0 n f fd ["pool", "number", "path"] (spPlaces K C n)
  | 0 => fn_none fun vs H Q E h => by
    obtain ⟨_, _, _, _, _, _, _, _, _, _, _, _, h, _⟩ := h
    omega
  | n + 1 => by
    have G_places_below := ok_places_below d_places_below T B n
    refine d_places_below.F.ok sc_places_below (fun vs H Q E h => ?_) (fun cdv A outer s H vs Q E hr h => ?_)
    · obtain ⟨_, _, _, _, _, _, _, _, _, rfl, _⟩ := h
      rfl
    obtain ⟨x, d, a, b, c, m, p, ts, t, rfl, hP, hm, hd, hn, hz, q⟩ := h
    refine ⟨_, (pss_cons (ps_set (i := 3) sc_places_below.nd rfl (Or.inl rfl) (pe_lst (pa_cons (pe_tup (pa_cons (pv 2) (pa_cons (pv 1) pa_nil))) pa_nil)))
 (pss_cons (ps_for PassesOwn.never rfl (pi_ET (by rfl) B.enumerate (pa_cons (pe_ix ix_list (pe_fld (pv 0) rfl) (pv 1) (fun _ _ => rfl)) pa_nil)) (pg_tup (by rfl) (pgs_cons (pg_name (i := 4) sc_places_below.nd rfl (Or.inl rfl)) (pgs_cons (pg_name (i := 5) sc_places_below.nd rfl (Or.inl rfl)) pgs_nil)))
  (pss_one (ps_aug (i := 3) sc_places_below.nd rfl (Or.inl rfl) (pe_call G_places_below hr rfl d_places_below.m d_places_below.F.kp d_places_below.b .nil pass0 (pa_cons (pv 0) (pa_cons (pv 5) (pa_cons (pe_joined (PJ.cons (pe_fmt (pv 2)) (PJ.cons (pe_fmt (pv 4)) PJ.nil))) pa_nil)))) iop_ext)))
 (pss_one (ps_ret (pv 3))))), ?_⟩
    refine ⟨_, rfl, _, rfl, two_le, fun q0 hq0 => ⟨one_le, fun z hz0 => ?_⟩⟩
    have s1 := Same.new hq0 (.tup [.str (ptx p), .int (m : Nat)])
    have s2 := s1.trans (Same.new hz0 (.lst [.ref q0]))
    have z0 : H z = none := s1.free hz0
    have hq1 : (upd (upd H q0 (.tup [.str (ptx p), .int (m : Nat)])) z (.lst [.ref q0])) q0 = some (.tup [.str (ptx p), .int (m : Nat)]) := (Same.new hz0 _) _ _ upd_same
    have hz1 : (upd (upd H q0 (.tup [.str (ptx p), .int (m : Nat)])) z (.lst [.ref q0])) z = some (.lst [.ref q0]) := upd_same
    generalize (upd (upd H q0 (.tup [.str (ptx p), .int (m : Nat)])) z (.lst [.ref q0])) = H1 at *
    have hP1 := hP.same s2
    obtain ⟨dx, ps, qq, ops, hx, ha, hpm, hS, hops⟩ := hP1.at hm
    obtain ⟨kids, hk0, hk1, hk2⟩ : ∃ kids : Nat → List (List Bool × Tree), kids 0 = [] ∧ (∀ (j : Nat) (v : V), ops[j]? = some v → ∃ (bt : Bool) (k : Nat) (u : Tree), v = V.int (k : Nat) ∧ ts[k]? = some u ∧ (j : Int) = (if bt then 1 else 0) ∧ kids (j + 1) = kids j ++ u.pl (p ++ [bt]) ∧ u.dp < n ∧ u.nodes ≤ 5000 ∧ (kids (j + 1)).length ≤ 5000) ∧ (p, t) :: kids ops.length = t.pl p := by
      cases t with
      | L =>
        have hops : ops = [] := hops
        subst hops
        exact ⟨fun _ => [], rfl, fun j v h => by simp at h, rfl⟩
      | N l r =>
        obtain ⟨il, ir, rfl, hl, hr'⟩ := hops
        have hd : max l.dp r.dp + 1 < n + 1 := hd
        have hz : l.nodes + r.nodes + 1 ≤ 5000 := hz
        refine ⟨fun j => if j = 0 then [] else if j = 1 then l.pl (p ++ [false]) else l.pl (p ++ [false]) ++ r.pl (p ++ [true]), rfl, fun j v h => ?_, rfl⟩
        match j, h with
        | 0, h =>
          cases h
          exact ⟨false, il, l, rfl, hl, rfl, rfl, by omega, by omega, by show (l.pl (p ++ [false])).length ≤ 5000; rw [l.pl_len]; omega⟩
        | 1, h =>
          cases h
          exact ⟨true, ir, r, rfl, hr', rfl, rfl, by omega, by omega, by show (l.pl (p ++ [false]) ++ r.pl (p ++ [true])).length ≤ 5000; rw [List.length_append, l.pl_len, r.pl_len]; omega⟩
        | j + 2, h => simp at h
    have lpt : (ptx p).length = p.length := ptx_len p
    refine ⟨_, rfl, x, C, dx, _, _, rfl, hx, T.cl, T.n2, pf_p _ _ _ _, _, rfl, a, _, _, _, rfl, rfl, SqL.here ha, atI_nat hpm, qq, ops, rfl, hS, for_ET (Kf := K) (q := qq) (xs := ops) (fun j σ G => ∃ (ws : List V) (x4 x5 : Option V), σ = [some (.ref x), some (.int m), some (.str (ptx p)), some (.ref z), x4, x5] ∧ Same H G ∧ Tp H1 G ∧ G z = some (.lst ws) ∧ PlA K G ts ws ((p, t) :: kids j))
      ⟨[.ref q0], none, none, rfl, s2, Tp.refl _, hz1, by rw [hk0]; exact .cons (SqT.here hq1) hm .nil⟩ (fun j σ G ⟨_, _, _, _, _, tp, _⟩ => tp.sqT hS) ?_ ?_⟩
    · rintro j v σ G hv ⟨ws, x4, x5, rfl, sm, tp, hzG, hA⟩ p5 np5
      obtain ⟨bt, k, u, rfl, hu, hj, hk, hud, hun, hkl⟩ := hk1 j v hv
      have sg := Same.new np5 (.tup [.int (j : Nat), .int (k : Nat)])
      refine ⟨p5, _, rfl, SqT.here upd_same, rfl, _, _, rfl, _, _, rfl, rfl, ?_⟩
      have sm1 := sm.trans sg
      have hz2 := sg _ _ hzG
      have hA2 := hA.mono (Tp.same sg) (fun _ _ h => h)
      have tp1 := tp.trans (Tp.same sg)
      generalize (upd G p5 (.tup [.int (j : Nat), .int (k : Nat)])) = G1 at *
      have hj2 : ((j : Nat) : Int).natAbs.log2 < 1920 := by
        rw [hj]
        cases bt <;> decide
      have etx : (Str.empty ++ ptx p) ++ (toString ((j : Nat) : Int) : Str) = ptx (p ++ [bt]) := by
        rw [hj, emp_app]
        cases bt with
        | false => exact ptx_snoc0 p
        | true => exact ptx_snoc1 p
      have lt1 : ((toString ((j : Nat) : Int) : Str)).length = 1 := by
        rw [hj]
        cases bt <;> rfl
      refine ⟨.ref z, rfl, _, rfl, _, rfl, _, rfl, .inl ⟨_, rfl, fits (by omega), _, rfl, fits (by rw [emp_app]; omega), _, rfl, .inr ⟨_, rfl, hj2, _, rfl, fits (by rw [slen, emp_app, lt1]; omega), ?_⟩⟩⟩
      refine ⟨x, d, a, b, c, k, p ++ [bt], ts, u, ?_, hP.same sm1, hu, hud, by rw [List.length_append, List.length_singleton]; omega, hun, fun z2 ws2 G2 s3 f3 l3 A3 => ?_⟩
      · show [V.ref x, V.int (k : Nat), V.str ((Str.empty ++ ptx p) ++ (toString ((j : Nat) : Int) : Str))] = _
        rw [etx]
      have hz3 := s3 _ _ hz2
      have lw := hA2.len
      have lw2 := A3.len
      rw [u.pl_len] at lw2
      refine ⟨z, z2, ws, ws2, rfl, rfl, hz3, l3, fits ?_, ?_⟩
      · rw [lw, lw2, List.length_cons]
        rw [hk, List.length_append, u.pl_len] at hkl
        omega
      have tp4 : Tp G2 (upd G2 z (.lst (ws ++ ws2))) := Tp.but hz3 But.set
      refine ⟨ws ++ ws2, _, _, rfl, fun e o he => ?_, (tp1.trans (Tp.same s3)).trans tp4, upd_same, ?_⟩
      · rw [upd_ne (ne_of_none he z0)]
        exact s3 _ _ (sm1 _ _ he)
      · rw [hk]
        exact PlA.app (ys := (p, t) :: kids j) (hA2.mono ((Tp.same s3).trans tp4) (fun _ _ h => h)) (A3.mono tp4 (fun _ _ h => h))
    · rintro σ G ⟨ws, x4, x5, rfl, sm, tp, hzG, hA⟩
      rw [hk2] at hA
      exact ⟨_, rfl, q z ws G sm z0 hzG hA⟩

abbrev s_full_paths : Stmt := top 22
theorem sc_full_paths : FnScope ["pool", "number", "path", "left", "right", "paths", "spreading", "place", "part"] ["pool", "number", "path"] (defScope s_full_paths) := ⟨rfl, rfl, rfl, by decide +kernel, rfl, by decide +kernel, by decide +kernel⟩
theorem pl_at {H : Hp} {ts : List Tree} : ∀ {ws : List V} {ys : List (List Bool × Tree)}, PlA K H ts ws ys → ∀ (i : Nat) (v : V), ws[i]? = some v → ∃ (q : Addr) (k : Nat) (p : List Bool) (t : Tree), v = .ref q ∧ SqT K H q [.str (ptx p), .int (k : Nat)] ∧ ts[k]? = some t ∧ ys[i]? = some (p, t)
  | _, _, .nil, i, v, h => by simp at h
  | _, _, .cons h1 h2 h3, 0, v, h => by
    cases h
    exact ⟨_, _, _, _, rfl, h1, h2, rfl⟩
  | _, _, .cons h1 h2 h3, i + 1, v, h => pl_at h3 i v h
theorem kept_take (ys : List (List Bool × Tree)) (i : Nat) {p : List Bool} {t : Tree} (h : ys[i]? = some (p, t)) : kept (ys.take (i + 1)) = kept (ys.take i) ++ (if t.isL then [] else [p]) := by
  rw [List.take_add_one, h, kept_app]
  cases t <;> rfl
theorem ok_full_paths {C fP fS fN fB : Addr} {fdP fdS fdN fdB : FuncData} (d_full_paths : D K mg "full_paths" s_full_paths ["pool", "number", "path"] f fd) (T : PoolT K mg C) (B : Blt mg) (FP : Fun K "pair" "Pool.pair" s_PPair fP fdP) (bP : Binds K fdP ["self", "left", "right"] []) (mP : Meth K C "pair" fP)
    (d_spread : D K mg "spread" s_spread ["pool", "acting", "number"] fS fdS) (d_full_number : D K mg "full_number" s_full_number ["pool", "number"] fN fdN) (d_places_below : D K mg "places_below" s_places_below ["pool", "number", "path"] fB fdB) : ∀ n : Nat, FnOk P w K mg base CX0 (n + 40) f fd ["pool", "number", "path"] (spPaths K C n)
  | 0 => fn_none fun vs H Q E h => by
    obtain ⟨_, _, _, _, _, _, _, _, _, _, _, _, h, _⟩ := h
    omega
  | n + 1 => by
    have G_full_paths := ok_full_paths d_full_paths T B FP bP mP d_spread d_full_number d_places_below n
    have G_full_number : FnOk P w K mg base CX0 27 fN fdN ["pool", "number"] (spFull K C 12) := ok_full_number d_full_number T B FP bP mP d_spread 12
    have G_places_below : FnOk P w K mg base CX0 30 fB fdB ["pool", "number", "path"] (spPlaces K C 30) := ok_places_below d_places_below T B 30
    refine FnOk.mono (j := n + 40 + 1) ?_ (by omega)
    refine d_full_paths.F.ok sc_full_paths (fun vs H Q E h => ?_) (fun cdv A outer s H vs Q E hr h => ?_)
    · obtain ⟨_, _, _, _, _, _, _, _, _, rfl, _⟩ := h
      rfl
    obtain ⟨x, d, a, b, c, m, p, ts, t, rfl, hP, hm, hd, hn, hz, hf, hlen, q⟩ := h
    refine ⟨_, (pss_cons (ps_if (pt_cmpR (op_eqD hr.units) (pe_ix ix_list (pe_fld (pv 0) rfl) (pv 1) (fun _ _ => rfl)) (pe_tup pa_nil) (nomark _)) (pss_one (ps_ret (pe_lst pa_nil))) pss_nil)
 (pss_cons (ps_asg (pe_ix ix_list (pe_fld (pv 0) rfl) (pv 1) (fun _ _ => rfl)) (pg_tup (by rfl) (pgs_cons (pg_name (i := 3) sc_full_paths.nd rfl (Or.inl rfl)) (pgs_cons (pg_name (i := 4) sc_full_paths.nd rfl (Or.inl rfl)) pgs_nil))))
 (pss_cons (ps_set (i := 5) sc_full_paths.nd rfl (Or.inl rfl) (pe_op op_cat (pe_call G_full_paths hr rfl d_full_paths.m d_full_paths.F.kp d_full_paths.b .nil pass0 (pa_cons (pv 0) (pa_cons (pv 3) (pa_cons (pe_joined (PJ.cons (pe_fmt (pv 2)) (PJ.cons pe_str PJ.nil))) pa_nil)))) (pe_call G_full_paths hr rfl d_full_paths.m d_full_paths.F.kp d_full_paths.b .nil pass0 (pa_cons (pv 0) (pa_cons (pv 4) (pa_cons (pe_joined (PJ.cons (pe_fmt (pv 2)) (PJ.cons pe_str PJ.nil))) pa_nil))))))
 (pss_cons (ps_set (i := 6) sc_full_paths.nd rfl (Or.inl rfl) (pe_call G_places_below (hr.mono (by omega)) rfl d_places_below.m d_places_below.F.kp d_places_below.b .nil pass0 (pa_cons (pv 0) (pa_cons (pe_call G_full_number (hr.mono (by omega)) rfl d_full_number.m d_full_number.F.kp d_full_number.b .nil pass0 (pa_cons (pv 0) (pa_cons (pv 4) pa_nil))) (pa_cons (pv 2) pa_nil)))))
 (pss_one (ps_ret (pe_op op_cat (pv 5) (pe_lc (own := [("place", 7), ("part", 8)]) (g := gTup K 2 (gCons (gName 7) (gCons (gName 8) gNil))) (by rfl) sc_full_paths.nd (pi_list (pv 6)) (blkOk_by (own := [("place", 7), ("part", 8)]) (N := ["pool", "number", "path", "left", "right", "paths", "spreading", "place", "part"]) (sc := defScope s_full_paths) (by decide +kernel)) (fun _ _ _ _ _ => (pg_tup (by rfl) (pgs_cons (pg_name (i := 7) sc_full_paths.nd rfl (Or.inl rfl)) (pgs_cons (pg_name (i := 8) sc_full_paths.nd rfl (Or.inl rfl)) pgs_nil)))) (fun _ _ _ _ _ => (pts_one (pt_cmpR (r := rNeD K) (op_neD hr.units) (pe_ix (r := rIxL K) ix_list (show PE _ _ (tFld K (tVar 0) "pairs") from pe_fld (pv 0) rfl) (pv 8) (fun _ _ => rfl)) (pe_tup pa_nil) (nomark _)))) (fun _ _ _ _ _ => (pv 7)))))))))), ?_⟩
    obtain ⟨dx, ps, qq, ops, hx, ha, hpm, hS, hops⟩ := hP.at hm
    refine ⟨_, rfl, x, C, dx, _, _, rfl, hx, T.cl, T.n2, pf_p _ _ _ _, _, rfl, a, _, _, _, rfl, rfl, SqL.here ha, atI_nat hpm, zero_le', fun p0 hp0 => ?_⟩
    have s1 := Same.new hp0 (.tup [])
    have hP1 := hP.same s1
    have hx1 := s1 _ _ hx
    have ha1 := s1 _ _ ha
    have hS1 := (Tp.same s1).sqT hS
    cases t with
    | L =>
      have hops : ops = [] := hops
      subst hops
      refine ⟨.tuple [], .tuple [], ops_L hS1, Dp.tup (SqT.here upd_same) .nil, shapedE, shapedE, true, rfl, iteT ?_⟩
      refine ⟨zero_le', fun z hz0 => ?_⟩
      have s2 := s1.trans (Same.new hz0 (.lst []))
      exact q z ts _ (hP.same s2) (Ex4.same s2) (fun _ _ h => h) (Nat.le_add_right _ _) (s1.free hz0) upd_same
    | N l r =>
      obtain ⟨il, ir, rfl, hl, hr'⟩ := hops
      have hd : max l.dp r.dp + 1 < n + 1 := hd
      have hz : l.sz + r.sz ≤ 12 := hz
      have hfl := Tree.fsz_l hf
      have hfr := Tree.fsz_r hf
      have hlen : ts.length + (l.fpc + r.fpc + r.fnc) ≤ 1000000 := hlen
      have lpt : (ptx p).length = p.length := ptx_len p
      refine ⟨_, .tuple [], ops_N hS1, Dp.tup (SqT.here upd_same) .nil, ops_sh _ _, shapedE, false, rfl, iteF ?_⟩
      refine ⟨_, rfl, x, C, dx, _, _, rfl, hx1, T.cl, T.n2, pf_p _ _ _ _, _, rfl, a, _, _, _, rfl, rfl, SqL.here ha1, atI_nat hpm, qq, _, rfl, hS1, rfl, _, _, rfl, _, _, rfl, rfl, ?_⟩
      have l0 : (Str.ofString "0").length = 1 := rfl
      have l1 : (Str.ofString "1").length = 1 := rfl
      have e0 : (Str.empty ++ ptx p) ++ Str.ofString "0" = ptx (p ++ [false]) := by rw [emp_app]; exact ptx_snoc0 p
      have e1 : (Str.empty ++ ptx p) ++ Str.ofString "1" = ptx (p ++ [true]) := by rw [emp_app]; exact ptx_snoc1 p
      -- paths = full_paths(left) + full_paths(right)
      refine ⟨_, rfl, _, rfl, _, rfl, .inl ⟨_, rfl, fits (by omega), _, rfl, fits (by rw [emp_app]; omega), _, rfl, fits (by rw [slen, emp_app]; omega), x, d, a, b, c, il, p ++ [false], ts, l, ?_, hP1, hl, by omega, by rw [List.length_append, List.length_singleton]; omega, by omega, hfl, by omega, fun z1 ts1 H1 P1 x1 pr1 ln1 f1 r1 => ?_⟩⟩
      · show [V.ref x, V.int (il : Nat), V.str ((Str.empty ++ ptx p) ++ Str.ofString "0")] = _
        rw [e0]
      refine ⟨_, rfl, _, rfl, _, rfl, .inl ⟨_, rfl, fits (by omega), _, rfl, fits (by rw [emp_app]; omega), _, rfl, fits (by rw [slen, emp_app]; omega), x, d, a, b, c, ir, p ++ [true], ts1, r, ?_, P1, pr1 _ _ hr', by omega, by rw [List.length_append, List.length_singleton]; omega, by omega, hfr, by omega, fun z2 ts2 H2 P2 x2 pr2 ln2 f2 r2 => ?_⟩⟩
      · show [V.ref x, V.int (ir : Nat), V.str ((Str.empty ++ ptx p) ++ Str.ofString "1")] = _
        rw [e1]
      have fl := l.fp_len hfl
      have fr := r.fp_len hfr
      have r1' := Ex4.list hP1 f1 x2 r1
      refine ⟨z1, z2, _, _, rfl, rfl, r1', r2, fits ?_, fun z3 hz3 => ?_⟩
      · rw [ptxs_len, ptxs_len, List.length_map, List.length_map]
        omega
      have s3 := Same.new hz3 (.lst (ptxs (l.fp.map ((p ++ [false]) ++ ·)) ++ ptxs (r.fp.map ((p ++ [true]) ++ ·))))
      have r3 : (upd H2 z3 (.lst (ptxs (l.fp.map ((p ++ [false]) ++ ·)) ++ ptxs (r.fp.map ((p ++ [true]) ++ ·))))) z3 = some (.lst (ptxs (l.fp.map ((p ++ [false]) ++ ·)) ++ ptxs (r.fp.map ((p ++ [true]) ++ ·)))) := upd_same
      have P3 := P2.same s3
      have x3 : Ex4 d a b c H (upd H2 z3 (.lst (ptxs (l.fp.map ((p ++ [false]) ++ ·)) ++ ptxs (r.fp.map ((p ++ [true]) ++ ·))))) := (((Ex4.same s1).trans x1).trans x2).trans (Ex4.same s3)
      generalize (upd H2 z3 (.lst (ptxs (l.fp.map ((p ++ [false]) ++ ·)) ++ ptxs (r.fp.map ((p ++ [true]) ++ ·))))) = H3 at *
      have fd1 := r.fe_dp
      have fd2 := r.dp_sz
      have fn1 := r.fe.nodes_sz
      rw [r.fe_sz] at fn1
      -- spreading = places_below(pool, full_number(pool, right), path)
      refine ⟨_, rfl, _, rfl, _, rfl, x, d, a, b, c, ir, ts2, r, rfl, P3, pr2 _ _ (pr1 _ _ hr'), by omega, by omega, by omega, by omega, fun j ts4 H4 P4 x4 pr4 h4 ln4 => ?_⟩
      have r4 := Ex4.list P2 hz3 x4 r3
      refine ⟨_, rfl, x, d, a, b, c, j, p, ts4, r.fe, rfl, P4, h4, by omega, by omega, by omega, fun z5 ws H5 s5 f5 l5 A5 => ?_⟩
      have r5 := s5 _ _ r4
      have P5 := P4.same s5
      have lw := A5.len
      rw [r.fe.pl_len] at lw
      have kl : ∀ i, (kept ((r.fe.pl p).take i)).length ≤ 1000 := fun i => by
        unfold kept
        rw [List.length_map]
        refine Nat.le_trans (List.length_filter_le _ _) ?_
        rw [List.length_take, r.fe.pl_len]
        omega
      refine ⟨_, rfl, _, rfl, z5, rfl, ⟨_, SqL.here l5⟩, fun D hD => ?_⟩
      refine lc_list (K := K) (a := z5) (xs := ws) (fun i H' => Same H5 H' ∧ H' D = some (.lst (ptxs (kept ((r.fe.pl p).take i))))) ⟨Same.new hD _, upd_same⟩ (fun i H' _ h => SqL.here (h.1 _ _ l5)) ?_ ?_
      · rintro i v H' hv ⟨sm, hl'⟩
        obtain ⟨qv, k, pp, tt, rfl, hSv, hkt, hys⟩ := pl_at A5 i v hv
        obtain ⟨dx', ps', qq', ops', hx', ha', hpm', hS', hops'⟩ := (P5.same sm).at hkt
        refine ⟨qv, _, rfl, (Tp.same sm).sqT hSv, rfl, _, _, rfl, _, _, rfl, rfl, rfl, ?_⟩
        refine ⟨_, rfl, x, C, dx', _, _, rfl, hx', T.cl, T.n2, pf_p _ _ _ _, _, rfl, a, _, _, _, rfl, rfl, SqL.here ha', atI_nat hpm', zero_le', fun p6 hp6 => ?_⟩
        have s6 := Same.new hp6 (.tup [])
        have hS6 := (Tp.same s6).sqT hS'
        have kt := kept_take (r.fe.pl p) i hys
        cases tt with
        | L =>
          have hops' : ops' = [] := hops'
          subst hops'
          refine ⟨.tuple [], .tuple [], ops_L hS6, Dp.tup (SqT.here upd_same) .nil, shapedE, shapedE, false, rfl, iteF ⟨sm.trans s6, ?_⟩⟩
          rw [kt]
          show _ = some (HO.lst (ptxs (_ ++ [])))
          rw [List.append_nil]
          exact s6 _ _ hl'
        | N tl tr =>
          obtain ⟨jl, jr, rfl, _, _⟩ := hops'
          refine ⟨_, .tuple [], ops_N hS6, Dp.tup (SqT.here upd_same) .nil, ops_sh _ _, shapedE, true, rfl, iteT ⟨_, rfl, _, s6 _ _ hl', ?_, fun e o he => ?_, ?_⟩⟩
          · rw [ptxs_len]
            exact small1000 (kl i)
          · rw [upd_ne (ne_of_none he hD)]
            exact s6 _ _ (sm _ _ he)
          · rw [upd_same, kt]
            show _ = some (HO.lst (ptxs (_ ++ [pp])))
            rw [ptxs_app]
            rfl
      · rintro H' ⟨sm, hl'⟩
        rw [lw, List.take_of_length_le (by rw [r.fe.pl_len]; exact Nat.le_refl _)] at hl'
        have kl2 := kl r.fe.nodes
        rw [List.take_of_length_le (by rw [r.fe.pl_len]; exact Nat.le_refl _)] at kl2
        refine ⟨z3, D, _, _, rfl, rfl, sm _ _ r5, hl', fits ?_, fun z6 hz6 => ?_⟩
        · rw [List.length_append, ptxs_len, ptxs_len, ptxs_len, List.length_map, List.length_map]
          omega
        have s6 := Same.new hz6 (.lst ((ptxs (l.fp.map ((p ++ [false]) ++ ·)) ++ ptxs (r.fp.map ((p ++ [true]) ++ ·))) ++ ptxs (kept (r.fe.pl p))))
        have xx : Ex4 d a b c H H' := (x3.trans x4).trans (Ex4.same (s5.trans sm))
        refine q z6 ts4 _ ((P5.same sm).same s6) (xx.trans (Ex4.same s6)) ((pr1.trans pr2).trans pr4) ?_ (Ex4.free (P5.same sm) xx hz6) ?_
        · show ts4.length ≤ ts.length + (l.fpc + r.fpc + r.fnc)
          omega
        · rw [upd_same, fp_N]

abbrev s_full_expansion_paths : Stmt := top 21
theorem sc_full_expansion_paths : FnScope ["term", "pool"] ["term"] (defScope s_full_expansion_paths) := ⟨rfl, rfl, rfl, by decide +kernel, rfl, by decide +kernel, by decide +kernel⟩
theorem ok_full_expansion_paths {Cp fI fP fM fS fN fB fF fp fi fc fg fk : Addr} {fdI fdP fdM fdS fdN fdB fdF fpd fid fcd fgd fkd : FuncData} (d : D K mg "full_expansion_paths" s_full_expansion_paths ["term"] f fd) (T : PoolT K mg Cp) (B : Blt mg) (C : Cst mg) (GEN : ∃ t, mg "GENERATOR" = some (.int 0 t)) (MF : ∃ t, mg "MAX_FULL_SIZE" = some (.int 500 t))
    (M : Mk K Cp fI) (FI : Fun K "__init__" "Pool.__init__" s_PInit fI fdI) (bI : Binds K fdI ["self"] []) (FP : Fun K "pair" "Pool.pair" s_PPair fP fdP) (bP : Binds K fdP ["self", "left", "right"] []) (mP : Meth K Cp "pair" fP)
    (FN : Fun K "number_of" "Pool.number_of" s_PNum fM fdM) (bN : Binds K fdM ["self", "term"] []) (mN : Meth K Cp "number_of" fM)
    (d_is_pair : D K mg "is_pair" s_is_pair ["part"] fp fpd) (d_is_term : D K mg "is_term" s_is_term ["term"] fi fid) (d_check_term : D K mg "check_term" s_check_term ["term"] fc fcd) (d_full_size : D K mg "full_size" s_full_size ["term"] fg fgd) (d_check_full_expansion : D K mg "check_full_expansion" s_check_full_expansion ["term"] fk fkd)
    (d_spread : D K mg "spread" s_spread ["pool", "acting", "number"] fS fdS) (d_full_number : D K mg "full_number" s_full_number ["pool", "number"] fN fdN) (d_places_below : D K mg "places_below" s_places_below ["pool", "number", "path"] fB fdB) (d_full_paths : D K mg "full_paths" s_full_paths ["pool", "number", "path"] fF fdF) :
    FnOk P w K mg base CX0 48 f fd ["term"] (spPathsOf K) := by
  have GI : FnOk P w K mg base CX0 1 fI fdI ["self"] (spPInit K Cp) := ok_PInit FI T
  have GN : FnOk P w K mg base CX0 8 fM fdM ["self", "term"] (spNum K Cp 7) := ok_PNum FN bN mN T B GEN FP bP mP 7
  have G_check_full_expansion : FnOk P w K mg base CX0 8 fk fkd ["term"] (spCheckFull K) := ok_check_full_expansion d_check_full_expansion B C MF d_is_pair d_is_term d_check_term d_full_size
  have G_full_paths : FnOk P w K mg base CX0 47 fF fdF ["pool", "number", "path"] (spPaths K Cp 7) := ok_full_paths d_full_paths T B FP bP mP d_spread d_full_number d_places_below 7
  refine d.F.ok sc_full_expansion_paths (fun vs H Q E h => ?_) (fun cdv A outer s H vs Q E hr h => ?_)
  · obtain ⟨_, _, rfl, _⟩ := h
    rfl
  obtain ⟨v, t, rfl, ha, hz, hd, hf, q⟩ := h
  refine ⟨_, (pss_cons (ps_expr (pe_call G_check_full_expansion (hr.mono (by decide)) rfl d_check_full_expansion.m d_check_full_expansion.F.kp d_check_full_expansion.b .nil pass0 (pa_cons (pv 0) pa_nil)))
 (pss_cons (ps_set (i := 1) sc_full_expansion_paths.nd rfl (Or.inl rfl) (pe_make0 M GI (hr.mono (by decide)) rfl T.mgC bI .nil pass0))
 (pss_one (ps_ret (pe_call G_full_paths (hr.mono (by decide)) rfl d_full_paths.m d_full_paths.F.kp d_full_paths.b .nil pass0 (pa_cons (pv 1) (pa_cons (pe_meth (pv 1) T.cl mN GN (hr.mono (by decide)) bN .nil pass0 (pa_cons (pv 0) pa_nil)) (pa_cons pe_str pa_nil)))))))), ?_⟩
  refine ⟨_, rfl, v, t, rfl, ha, hz, hd, hf, fun H1 s1 => ?_⟩
  intro x dx nx ndx nex
  have s0 : Same H1 (upd (upd H1 dx (.own x)) x (.ins Cp dx [])) := fun e o he => by
    rw [upd_ne (ne_of_none he nx), upd_ne (ne_of_none he ndx)]
    exact he
  refine ⟨H1, x, dx, rfl, s0, nx, upd_same, fun d' a b c H2 P2 s2 d0 a0 b0 c0 => ⟨rfl, ?_⟩⟩
  have n1 : (pf d' a b c).lookup ("number_of" : Str) = none := pf_no _ _ _ _ (by decide +kernel) (by decide +kernel) (by decide +kernel) (by decide +kernel)
  obtain ⟨dx2, es2, ps2, cs2, hx2, _⟩ := id P2
  have tn := t.nodes_sz
  have fc := t.fpc_le hf hz
  refine ⟨_, rfl, _, rfl, x, dx2, _, rfl, hx2, n1, _, rfl, x, d', a, b, c, v, t, [.L], rfl, P2, ta_mono (Tp.same (s1.trans s2)) ha, by omega, by omega, by show 1 + t.nodes ≤ 1000000; omega, fun m ts3 H3 P3 x3 pr3 hm ln3 => ?_⟩
  have ln3 : ts3.length ≤ 1 + t.nodes := ln3
  refine ⟨x, d', a, b, c, m, [], ts3, t, rfl, P3, hm, by omega, by decide, hz, hf, by omega, fun z ts4 H4 P4 x4 pr4 ln4 f4 r4 => ?_⟩
  have e14 : Ex4 d' a b c H2 H4 := x3.trans x4
  refine q z H4 (fun e o he => ?_) ?_ ?_
  · have h1 := s1 _ _ he
    have h2 := s2 _ _ h1
    exact e14 e o h2 (ne_of_none h1 d0) (ne_of_none h1 a0) (ne_of_none h1 b0) (ne_of_none h1 c0)
  · have f2 : H2 z = none := Ex4.free P3 x3 f4
    exact (s1.trans s2).free f2
  · rw [r4]
    congr 2
    show ptxs (t.fp.map (fun y => [] ++ y)) = _
    congr 1
    exact List.map_id' _

abbrev s__law_expansion_size : Stmt := top 35
theorem sc__law_expansion_size : FnScope ["_law_term_here"] ["_law_term_here"] (defScope s__law_expansion_size) := ⟨rfl, rfl, rfl, by decide +kernel, rfl, by decide +kernel, by decide +kernel⟩
theorem ok__law_expansion_size (d__law_expansion_size : D K mg "_law_expansion_size" s__law_expansion_size ["_law_term_here"] f fd) : ∀ n : Nat, FnOk P w K mg base CX0 n f fd ["_law_term_here"] (spFsz K n)
  | 0 => fn_none fun vs H Q E h => by
    obtain ⟨_, _, _, _, h, _⟩ := h
    omega
  | n + 1 => by
    have G__law_expansion_size := ok__law_expansion_size d__law_expansion_size n
    refine d__law_expansion_size.F.ok sc__law_expansion_size (fun vs H Q E h => ?_) (fun cdv A outer s H vs Q E hr h => ?_)
    · obtain ⟨_, _, rfl, _⟩ := h
      rfl
    obtain ⟨v, t, rfl, ha, hd, hn, hz, q⟩ := h
    refine ⟨_, (pss_cons (ps_if (pt_cmpR (op_eqD hr.units) (pv 0) (pe_tup pa_nil) (nomark _)) (pss_one (ps_ret pe_int)) pss_nil)
 (pss_one (ps_ret (pe_op op_mul (pe_op op_add (pe_call G__law_expansion_size hr rfl d__law_expansion_size.m d__law_expansion_size.F.kp d__law_expansion_size.b .nil pass0 (pa_cons (pe_ix ix_tup (pv 0) pe_int (fun _ _ => rfl)) pa_nil)) pe_int) (pe_call G__law_expansion_size hr rfl d__law_expansion_size.m d__law_expansion_size.F.kp d__law_expansion_size.b .nil pass0 (pa_cons (pe_ix ix_tup (pv 0) pe_int (fun _ _ => rfl)) pa_nil)))))), ?_⟩
    refine ⟨_, rfl, zero_le', fun p hp => ⟨t.d, .tuple [], ta_mono (Tp.same (Same.new hp _)) ha, Dp.tup (SqT.here upd_same) .nil, Tree.shaped (by omega), shapedE, _, rfl, ite_eq (Tree.eqvL t) ?_⟩⟩
    have s1 := Same.new hp (.tup [])
    cases t with
    | L => exact iteT (q _ s1)
    | N l r =>
      have hd : max l.dp r.dp + 1 < n + 1 := hd
      have hz : l.sz + r.sz ≤ 20 := hz
      obtain ⟨b, x1, x2, rfl, hS, hL, hR⟩ := ta_invN (ta_mono (Tp.same s1) ha)
      have b1 : l.fsz + 1 ≤ 4 ^ 20 := Nat.le_trans l.fsz_le (Nat.pow_le_pow_right (by decide) (by omega))
      have b2 : (4 : Nat) ^ 20 = 1099511627776 := by decide
      refine iteF ⟨_, rfl, b, _, 0, _, rfl, rfl, hS, rfl, x1, l, rfl, hL, by omega, by omega, by omega, fun H2 s2 => ⟨_, _, rfl, rfl, ?_⟩⟩
      refine ⟨_, rfl, b, _, 1, _, rfl, rfl, (Tp.same s2).sqT hS, rfl, x2, r, rfl, ta_mono (Tp.same s2) hR, by omega, by omega, by omega, fun H3 s3 => ⟨_, _, rfl, rfl, .inl ⟨by omega, by omega⟩, ?_⟩⟩
      have e : (((Tree.N l r).fsz : Nat) : Int) = ((l.fsz : Int) + 1) * (r.fsz : Int) := by
        show (((l.fsz + 1) * r.fsz : Nat) : Int) = _
        rw [Int.natCast_mul]
        rfl
      have q' := q H3 ((s1.trans s2).trans s3)
      rw [e] at q'
      exact q'

abbrev s__law_substitute : Stmt := top 36
theorem sc__law_substitute : FnScope ["_law_term_here", "_law_on"] ["_law_term_here", "_law_on"] (defScope s__law_substitute) := ⟨rfl, rfl, rfl, by decide +kernel, rfl, by decide +kernel, by decide +kernel⟩
theorem ok__law_substitute (d__law_substitute : D K mg "_law_substitute" s__law_substitute ["_law_term_here", "_law_on"] f fd) : ∀ n : Nat, FnOk P w K mg base CX0 n f fd ["_law_term_here", "_law_on"] (spSub K n)
  | 0 => fn_none fun vs H Q E h => by
    obtain ⟨_, _, _, _, _, _, _, h, _⟩ := h
    omega
  | n + 1 => by
    have G__law_substitute := ok__law_substitute d__law_substitute n
    refine d__law_substitute.F.ok sc__law_substitute (fun vs H Q E h => ?_) (fun cdv A outer s H vs Q E hr h => ?_)
    · obtain ⟨_, _, _, _, rfl, _⟩ := h
      rfl
    obtain ⟨v, o, t, a, rfl, ha, ho, hd, hn, q⟩ := h
    refine ⟨_, (pss_cons (ps_if (pt_cmpR (op_eqD hr.units) (pv 0) (pe_tup pa_nil) (nomark _)) (pss_one (ps_ret (pe_tup (pa_cons (pv 1) (pa_cons (pe_tup pa_nil) pa_nil))))) pss_nil)
 (pss_one (ps_ret (pe_tup (pa_cons (pe_call G__law_substitute hr rfl d__law_substitute.m d__law_substitute.F.kp d__law_substitute.b .nil pass0 (pa_cons (pe_ix ix_tup (pv 0) pe_int (fun _ _ => rfl)) (pa_cons (pv 1) pa_nil))) (pa_cons (pe_call G__law_substitute hr rfl d__law_substitute.m d__law_substitute.F.kp d__law_substitute.b .nil pass0 (pa_cons (pe_ix ix_tup (pv 0) pe_int (fun _ _ => rfl)) (pa_cons (pv 1) pa_nil))) pa_nil)))))), ?_⟩
    refine ⟨_, rfl, zero_le', fun p hp => ⟨t.d, .tuple [], ta_mono (Tp.same (Same.new hp _)) ha, Dp.tup (SqT.here upd_same) .nil, Tree.shaped (by omega), shapedE, _, rfl, ite_eq (Tree.eqvL t) ?_⟩⟩
    have s1 := Same.new hp (.tup [])
    cases t with
    | L =>
      refine iteT ⟨_, rfl, zero_le', fun p2 hp2 => ⟨two_le, fun p3 hp3 => ?_⟩⟩
      have s2 := Same.new hp2 (.tup [])
      have s3 := Same.new hp3 (.tup [o, .ref p2])
      exact q _ _ (ta_node (SqT.here upd_same) (ta_mono (Tp.same ((s1.trans s2).trans s3)) ho) (ta_mono (Tp.same s3) (ta_leaf (SqT.here upd_same)))) ((s1.trans s2).trans s3)
    | N l r =>
      have hd : max l.dp r.dp + 1 < n + 1 := hd
      obtain ⟨b, x1, x2, rfl, hS, hL, hR⟩ := ta_invN (ta_mono (Tp.same s1) ha)
      have ho1 := ta_mono (Tp.same s1) ho
      refine iteF ⟨_, rfl, b, _, 0, _, rfl, rfl, hS, rfl, _, rfl, x1, o, l, a, rfl, hL, ho1, by omega, by omega, fun u1 H2 t2 s2 => ?_⟩
      refine ⟨_, rfl, b, _, 1, _, rfl, rfl, (Tp.same s2).sqT hS, rfl, _, rfl, x2, o, r, a, rfl, ta_mono (Tp.same s2) hR, ta_mono (Tp.same s2) ho1, by omega, by omega, fun u2 H3 t3 s3 => ⟨two_le, fun p3 hp3 => ?_⟩⟩
      have s4 := Same.new hp3 (.tup [u1, u2])
      exact q _ _ (ta_node (SqT.here upd_same) (ta_mono (Tp.same (s3.trans s4)) t2) (ta_mono (Tp.same s4) t3)) (((s1.trans s2).trans s3).trans s4)

abbrev s__law_full_expansion : Stmt := top 37
theorem sc__law_full_expansion : FnScope ["_law_term_here"] ["_law_term_here"] (defScope s__law_full_expansion) := ⟨rfl, rfl, rfl, by decide +kernel, rfl, by decide +kernel, by decide +kernel⟩
theorem ok__law_full_expansion {fs : Addr} {fsd : FuncData} (d__law_full_expansion : D K mg "_law_full_expansion" s__law_full_expansion ["_law_term_here"] f fd) (d__law_substitute : D K mg "_law_substitute" s__law_substitute ["_law_term_here", "_law_on"] fs fsd) : ∀ n : Nat, FnOk P w K mg base CX0 (n + 20) f fd ["_law_term_here"] (spFe K n)
  | 0 => fn_none fun vs H Q E h => by
    obtain ⟨_, _, _, _, h, _⟩ := h
    omega
  | n + 1 => by
    have G__law_full_expansion := ok__law_full_expansion d__law_full_expansion d__law_substitute n
    have G__law_substitute : FnOk P w K mg base CX0 20 fs fsd ["_law_term_here", "_law_on"] (spSub K 20) := ok__law_substitute d__law_substitute 20
    refine FnOk.mono (j := n + 20 + 1) ?_ (by omega)
    refine d__law_full_expansion.F.ok sc__law_full_expansion (fun vs H Q E h => ?_) (fun cdv A outer s H vs Q E hr h => ?_)
    · obtain ⟨_, _, rfl, _⟩ := h
      rfl
    obtain ⟨v, t, rfl, ha, hd, hn, hz, q⟩ := h
    refine ⟨_, (pss_cons (ps_if (pt_cmpR (op_eqD hr.units) (pv 0) (pe_tup pa_nil) (nomark _)) (pss_one (ps_ret (pe_tup pa_nil))) pss_nil)
 (pss_one (ps_ret (pe_call G__law_substitute (hr.mono (by omega)) rfl d__law_substitute.m d__law_substitute.F.kp d__law_substitute.b .nil pass0 (pa_cons (pe_call G__law_full_expansion hr rfl d__law_full_expansion.m d__law_full_expansion.F.kp d__law_full_expansion.b .nil pass0 (pa_cons (pe_ix ix_tup (pv 0) pe_int (fun _ _ => rfl)) pa_nil)) (pa_cons (pe_call G__law_full_expansion hr rfl d__law_full_expansion.m d__law_full_expansion.F.kp d__law_full_expansion.b .nil pass0 (pa_cons (pe_ix ix_tup (pv 0) pe_int (fun _ _ => rfl)) pa_nil)) pa_nil)))))), ?_⟩
    refine ⟨_, rfl, zero_le', fun p hp => ⟨t.d, .tuple [], ta_mono (Tp.same (Same.new hp _)) ha, Dp.tup (SqT.here upd_same) .nil, Tree.shaped (by omega), shapedE, _, rfl, ite_eq (Tree.eqvL t) ?_⟩⟩
    have s1 := Same.new hp (.tup [])
    cases t with
    | L =>
      refine iteT ⟨zero_le', fun p2 hp2 => ?_⟩
      have s2 := Same.new hp2 (.tup [])
      exact q _ _ (ta_leaf (SqT.here upd_same)) (s1.trans s2)
    | N l r =>
      have hd : max l.dp r.dp + 1 < n + 1 := hd
      have hz : l.sz + r.sz ≤ 12 := hz
      have f1 := r.fe_dp
      obtain ⟨b, x1, x2, rfl, hS, hL, hR⟩ := ta_invN (ta_mono (Tp.same s1) ha)
      refine iteF ⟨_, rfl, b, _, 1, _, rfl, rfl, hS, rfl, x2, r, rfl, hR, by omega, by omega, by omega, fun u2 H2 t2 s2 => ?_⟩
      refine ⟨_, rfl, b, _, 0, _, rfl, rfl, (Tp.same s2).sqT hS, rfl, x1, l, rfl, ta_mono (Tp.same s2) hL, by omega, by omega, by omega, fun u1 H3 t3 s3 => ?_⟩
      exact ⟨u2, u1, r.fe, l.fe, rfl, ta_mono (Tp.same s3) t2, t3, by omega, by omega, fun u H4 t4 s4 => q u H4 t4 (((s1.trans s2).trans s3).trans s4)⟩

abbrev s__law_expanded : Stmt := top 32
theorem sc__law_expanded : FnScope ["_law_some"] ["_law_some"] (defScope s__law_expanded) := ⟨rfl, rfl, rfl, by decide +kernel, rfl, by decide +kernel, by decide +kernel⟩
theorem ok__law_expanded (d : D K mg "_law_expanded" s__law_expanded ["_law_some"] f fd) : FnOk P w K mg base CX0 1 f fd ["_law_some"] (spExp K) := by
  refine d.F.ok sc__law_expanded (fun vs H Q E h => ?_) (fun cdv A outer s H vs Q E hr h => ?_)
  · obtain ⟨_, _, _, rfl, _⟩ := h
    rfl
  obtain ⟨v, t, u, rfl, ha, hd, hx, q⟩ := h
  refine ⟨_, (pss_cons (ps_if (PW.pt (pw_or (pt_cmpR (op_eqD hr.units) (pv 0) (pe_tup pa_nil) (nomark _)) (pw_or1 (pt_cmpR (op_eqD hr.units) (pe_ix ix_tup (pv 0) pe_int (fun _ _ => rfl)) (pe_tup pa_nil) (nomark _))))) (pss_one (ps_ret pe_non)) pss_nil)
 (pss_one (ps_ret (pe_tup (pa_cons (pe_tup (pa_cons (pe_ix ix_tup (pv 0) pe_int (fun _ _ => rfl)) (pa_cons (pe_ix ix_tup (pe_ix ix_tup (pv 0) pe_int (fun _ _ => rfl)) pe_int (fun _ _ => rfl)) pa_nil))) (pa_cons (pe_tup (pa_cons (pe_ix ix_tup (pv 0) pe_int (fun _ _ => rfl)) (pa_cons (pe_ix ix_tup (pe_ix ix_tup (pv 0) pe_int (fun _ _ => rfl)) pe_int (fun _ _ => rfl)) pa_nil))) pa_nil)))))), ?_⟩
  match t, hx, ha, hd with
  | .N a (.N b c), hx, ha, hd =>
    cases hx
    have hd : max a.dp (max b.dp c.dp + 1) + 1 ≤ 60 := hd
    refine ⟨_, rfl, zero_le', fun p hp => ⟨(Tree.N a (.N b c)).d, .tuple [], ta_mono (Tp.same (Same.new hp _)) ha, Dp.tup (SqT.here upd_same) .nil, Tree.shaped (by show max a.dp (max b.dp c.dp + 1) + 1 ≤ 63; omega), shapedE, _, rfl, ite_eq (Tree.eqvL _) (iteF ?_)⟩⟩
    have s1 := Same.new hp (.tup [])
    obtain ⟨q1, x1, x2, rfl, hS, hL, hR⟩ := ta_invN (ta_mono (Tp.same s1) ha)
    obtain ⟨q2, y1, y2, rfl, hS2, hL2, hR2⟩ := ta_invN hR
    refine ⟨_, rfl, q1, _, 1, _, rfl, rfl, hS, rfl, zero_le', fun p2 hp2 => ⟨(Tree.N b c).d, .tuple [], ta_mono (Tp.same (Same.new hp2 _)) hR, Dp.tup (SqT.here upd_same) .nil, Tree.shaped (by show max b.dp c.dp + 1 ≤ 63; omega), shapedE, _, rfl, ite_eq (Tree.eqvL _) (iteF ?_)⟩⟩
    have s2 := Same.new hp2 (.tup [])
    refine ⟨_, rfl, q1, _, 0, _, rfl, rfl, (Tp.same s2).sqT hS, rfl, _, rfl, q1, _, 1, _, rfl, rfl, (Tp.same s2).sqT hS, rfl, q2, _, 0, _, rfl, rfl, (Tp.same s2).sqT hS2, rfl, two_le, fun p3 hp3 => ?_⟩
    have s3 := s2.trans (Same.new hp3 (.tup [x1, y1]))
    refine ⟨_, rfl, q1, _, 0, _, rfl, rfl, (Tp.same s3).sqT hS, rfl, _, rfl, q1, _, 1, _, rfl, rfl, (Tp.same s3).sqT hS, rfl, q2, _, 1, _, rfl, rfl, (Tp.same s3).sqT hS2, rfl, two_le, fun p4 hp4 => ⟨two_le, fun p5 hp5 => ?_⟩⟩
    have s4 := Same.new hp4 (.tup [x1, y2])
    have s5 := Same.new hp5 (.tup [.ref p3, .ref p4])
    have s35 := (s3.trans s4).trans s5
    refine q _ _ (ta_node (SqT.here upd_same) (ta_node (SqT.here (s5 _ _ (s4 _ _ upd_same))) (ta_mono (Tp.same s35) hL) (ta_mono (Tp.same s35) hL2)) (ta_node (SqT.here (s5 _ _ upd_same)) (ta_mono (Tp.same s35) hL) (ta_mono (Tp.same s35) hR2))) (s1.trans s35)

abbrev s__law_subterm : Stmt := top 30
theorem sc__law_subterm : FnScope ["_law_term_here", "_law_spot", "_law_sign"] ["_law_term_here", "_law_spot"] (defScope s__law_subterm) := ⟨rfl, rfl, rfl, by decide +kernel, rfl, by decide +kernel, by decide +kernel⟩
theorem ok__law_subterm (d : D K mg "_law_subterm" s__law_subterm ["_law_term_here", "_law_spot"] f fd) : FnOk P w K mg base CX0 1 f fd ["_law_term_here", "_law_spot"] (spSt K) := by
  refine d.F.ok sc__law_subterm (fun vs H Q E h => ?_) (fun cdv A outer s H vs Q E hr h => ?_)
  · obtain ⟨_, _, _, _, rfl, _⟩ := h
    rfl
  obtain ⟨v, t, u0, p, rfl, ha, hd, hst, q⟩ := h
  refine ⟨_, (pss_cons (ps_for PassesOwn.never rfl (pi_str (pv 1)) (pg_name (i := 2) sc__law_subterm.nd rfl (Or.inl rfl))
  (pss_cons (ps_if (pt_cmpR (op_eqD hr.units) (pv 0) (pe_tup pa_nil) (nomark _)) (pss_one (ps_ret pe_non)) pss_nil)
 (pss_one (ps_set (i := 0) sc__law_subterm.nd rfl (Or.inl rfl) (pe_ifExp (pt_cmpR op_eq (pv 2) pe_str (nomark _)) (pe_ix ix_tup (pv 0) pe_int (fun _ _ => rfl)) (pe_ix ix_tup (pv 0) pe_int (fun _ _ => rfl)))))))
 (pss_one (ps_ret (pv 0)))), ?_⟩
  refine ⟨_, rfl, ptx p, rfl, for_S (z := ptx p) (fun j σ G => ∃ (v : V) (u : Tree) (x : Option V), σ = [some v, some (.str (ptx p)), x] ∧ TA K G v u ∧ u.dp ≤ 60 ∧ Same H G ∧ u.st (p.drop j) = some u0) ⟨v, t, none, rfl, ha, hd, Same.refl _, hst⟩ ?_ ?_⟩
  · rintro j c σ G hc ⟨v, u, x, rfl, ha, hd, sm, hst⟩
    obtain ⟨b, hb, rfl⟩ := pcs_at p j c hc
    obtain ⟨hj, eb⟩ := List.getElem?_eq_some_iff.mp hb
    rw [List.drop_eq_getElem_cons hj, eb] at hst
    cases u with
    | L => cases hst
    | N l r =>
      have hd : max l.dp r.dp + 1 ≤ 60 := hd
      refine ⟨_, rfl, zero_le', fun p5 hp5 => ⟨(Tree.N l r).d, .tuple [], ta_mono (Tp.same (Same.new hp5 _)) ha, Dp.tup (SqT.here upd_same) .nil, Tree.shaped (by show max l.dp r.dp + 1 ≤ 63; omega), shapedE, _, rfl, ite_eq (Tree.eqvL _) (iteF ?_)⟩⟩
      have s5 := Same.new hp5 (.tup [])
      obtain ⟨q1, x1, x2, rfl, hS, hL, hR⟩ := ta_invN (ta_mono (Tp.same s5) ha)
      cases b with
      | false =>
        refine ⟨_, rfl, rfl, _, rfl, ite_yes (by decide +kernel) ⟨_, rfl, q1, _, 0, _, rfl, rfl, hS, rfl, ?_⟩⟩
        exact ⟨x1, l, _, rfl, hL, by omega, sm.trans s5, hst⟩
      | true =>
        refine ⟨_, rfl, rfl, _, rfl, ite_no (by decide +kernel) ⟨_, rfl, q1, _, 1, _, rfl, rfl, hS, rfl, ?_⟩⟩
        exact ⟨x2, r, _, rfl, hR, by omega, sm.trans s5, hst⟩
  · rintro σ G ⟨v, u, x, rfl, ha, hd, sm, hst⟩
    rw [ptx_size, List.drop_eq_nil_of_le (Nat.le_refl _), Tree.st_nil] at hst
    cases hst
    exact ⟨_, rfl, q v G ha sm⟩

abbrev s__law_replace : Stmt := top 31
theorem sc__law_replace : FnScope ["_law_term_here", "_law_spot", "_law_new"] ["_law_term_here", "_law_spot", "_law_new"] (defScope s__law_replace) := ⟨rfl, rfl, rfl, by decide +kernel, rfl, by decide +kernel, by decide +kernel⟩
theorem ok__law_replace (d__law_replace : D K mg "_law_replace" s__law_replace ["_law_term_here", "_law_spot", "_law_new"] f fd) : ∀ n : Nat, FnOk P w K mg base CX0 n f fd ["_law_term_here", "_law_spot", "_law_new"] (spRp K n)
  | 0 => fn_none fun vs H Q E h => by
    obtain ⟨_, _, _, _, _, _, _, _, _, h, _⟩ := h
    omega
  | n + 1 => by
    have G__law_replace := ok__law_replace d__law_replace n
    refine d__law_replace.F.ok sc__law_replace (fun vs H Q E h => ?_) (fun cdv A outer s H vs Q E hr h => ?_)
    · obtain ⟨_, _, _, _, _, _, rfl, _⟩ := h
      rfl
    obtain ⟨v, w', t, u, t', p, rfl, ha, hu, hp, hn, hrp, q⟩ := h
    refine ⟨_, (pss_cons (ps_if (pt_cmpR op_eq (pv 1) pe_str (nomark _)) (pss_one (ps_ret (pv 2))) pss_nil)
 (pss_cons (ps_if (pt_cmpR op_eq (pe_ix ix_str (pv 1) pe_int (fun _ _ => rfl)) pe_str (nomark _)) (pss_one (ps_ret (pe_tup (pa_cons (pe_call G__law_replace hr rfl d__law_replace.m d__law_replace.F.kp d__law_replace.b .nil pass0 (pa_cons (pe_ix ix_tup (pv 0) pe_int (fun _ _ => rfl)) (pa_cons (pe_slice sl_str (pv 1) (po_some pe_int) po_none) (pa_cons (pv 2) pa_nil)))) (pa_cons (pe_ix ix_tup (pv 0) pe_int (fun _ _ => rfl)) pa_nil))))) pss_nil)
 (pss_one (ps_ret (pe_tup (pa_cons (pe_ix ix_tup (pv 0) pe_int (fun _ _ => rfl)) (pa_cons (pe_call G__law_replace hr rfl d__law_replace.m d__law_replace.F.kp d__law_replace.b .nil pass0 (pa_cons (pe_ix ix_tup (pv 0) pe_int (fun _ _ => rfl)) (pa_cons (pe_slice sl_str (pv 1) (po_some pe_int) po_none) (pa_cons (pv 2) pa_nil)))) pa_nil))))))), ?_⟩
    cases p with
    | nil =>
      rw [Tree.rp_nil] at hrp
      cases hrp
      exact ⟨_, rfl, rfl, _, rfl, ite_yes (by decide +kernel) ⟨_, rfl, q w' H hu (Same.refl _)⟩⟩
    | cons b p =>
      have hp : p.length + 1 < n + 1 := hp
      have lp : (ptx (b :: p)).length ≤ sizeLine := by
        rw [ptx_len]
        show p.length + 1 ≤ _
        exact fits (by omega)
      have at0 : atI (ptx (b :: p)).cps.toList 0 = some (if b then 49 else 48) := by
        rw [ptx_cps]
        exact atI_nat (j := 0) rfl
      cases t with
      | L => cases hrp
      | N l r =>
        obtain ⟨q1, x1, x2, rfl, hS, hL, hR⟩ := ta_invN ha
        refine ⟨_, rfl, rfl, _, rfl, ite_no (not_empty b p) ?_⟩
        cases b with
        | false =>
          have hrp : (l.rp p u).map (fun l' => Tree.N l' r) = some t' := hrp
          cases e : l.rp p u with
          | none =>
            rw [e] at hrp
            cases hrp
          | some l' =>
            rw [e] at hrp
            cases hrp
            refine ⟨_, rfl, _, 0, _, rfl, rfl, lp, at0, rfl, _, rfl, ite_yes (by decide +kernel) ?_⟩
            refine ⟨_, rfl, q1, _, 0, _, rfl, rfl, hS, rfl, _, rfl, 1, rfl, _, rfl, lp, ?_⟩
            rw [ptx_tail]
            refine ⟨_, rfl, x1, w', l, u, l', p, rfl, hL, hu, by omega, by omega, e, fun y H2 t2 s2 => ?_⟩
            refine ⟨_, rfl, q1, _, 1, _, rfl, rfl, (Tp.same s2).sqT hS, rfl, two_le, fun p3 hp3 => ?_⟩
            have s3 := Same.new hp3 (.tup [y, x2])
            exact q _ _ (ta_node (SqT.here upd_same) (ta_mono (Tp.same s3) t2) (ta_mono (Tp.same (s2.trans s3)) hR)) (s2.trans s3)
        | true =>
          have hrp : (r.rp p u).map (fun r' => Tree.N l r') = some t' := hrp
          cases e : r.rp p u with
          | none =>
            rw [e] at hrp
            cases hrp
          | some r' =>
            rw [e] at hrp
            cases hrp
            refine ⟨_, rfl, _, 0, _, rfl, rfl, lp, at0, rfl, _, rfl, ite_no (by decide +kernel) ?_⟩
            refine ⟨_, rfl, q1, _, 0, _, rfl, rfl, hS, rfl, _, rfl, q1, _, 1, _, rfl, rfl, hS, rfl, _, rfl, 1, rfl, _, rfl, lp, ?_⟩
            rw [ptx_tail]
            refine ⟨_, rfl, x2, w', r, u, r', p, rfl, hR, hu, by omega, by omega, e, fun y H2 t2 s2 => ⟨two_le, fun p3 hp3 => ?_⟩⟩
            have s3 := Same.new hp3 (.tup [x1, y])
            exact q _ _ (ta_node (SqT.here upd_same) (ta_mono (Tp.same (s2.trans s3)) hL) (ta_mono (Tp.same s3) t2)) (s2.trans s3)

abbrev s__law_rewrite : Stmt := top 34
theorem sc__law_rewrite : FnScope ["_law_term_here", "_law_spot", "_law_onward", "_law_current", "_law_new"] ["_law_term_here", "_law_spot", "_law_onward"] (defScope s__law_rewrite) := ⟨rfl, rfl, rfl, by decide +kernel, rfl, by decide +kernel, by decide +kernel⟩
theorem ta_ne {H : Hp} {v : V} {t : Tree} (h : TA K H v t) : decide (v = V.non) = false := by
  obtain ⟨a, xs, rfl, _⟩ := ta_inv h
  exact decide_eq_false fun z => by cases z
theorem ok__law_rewrite {f1 f2 f3 : Addr} {e1 e2 e3 : FuncData} (d : D K mg "_law_rewrite" s__law_rewrite ["_law_term_here", "_law_spot", "_law_onward"] f fd) (d__law_subterm : D K mg "_law_subterm" s__law_subterm ["_law_term_here", "_law_spot"] f1 e1) (d__law_expanded : D K mg "_law_expanded" s__law_expanded ["_law_some"] f2 e2)
    (d__law_replace : D K mg "_law_replace" s__law_replace ["_law_term_here", "_law_spot", "_law_new"] f3 e3) : FnOk P w K mg base CX0 63 f fd ["_law_term_here", "_law_spot", "_law_onward"] (spRw K) := by
  have G__law_subterm : FnOk P w K mg base CX0 1 f1 e1 ["_law_term_here", "_law_spot"] (spSt K) := ok__law_subterm d__law_subterm
  have G__law_expanded : FnOk P w K mg base CX0 1 f2 e2 ["_law_some"] (spExp K) := ok__law_expanded d__law_expanded
  have G__law_replace : FnOk P w K mg base CX0 62 f3 e3 ["_law_term_here", "_law_spot", "_law_new"] (spRp K 62) := ok__law_replace d__law_replace 62
  refine d.F.ok sc__law_rewrite (fun vs H Q E h => ?_) (fun cdv A outer s H vs Q E hr h => ?_)
  · obtain ⟨_, _, _, _, rfl, _⟩ := h
    rfl
  obtain ⟨v, t, t', p, rfl, ha, hd, hx, q⟩ := h
  obtain ⟨u, u', h1, h2, h3⟩ := Tree.ex_parts t p t' hx
  have hl := Tree.st_len t p u h1
  refine ⟨_, (pss_cons (ps_set (i := 3) sc__law_rewrite.nd rfl (Or.inl rfl) (pe_call G__law_subterm (hr.mono (by decide)) rfl d__law_subterm.m d__law_subterm.F.kp d__law_subterm.b .nil pass0 (pa_cons (pv 0) (pa_cons (pv 1) pa_nil))))
 (pss_cons (ps_set (i := 4) sc__law_rewrite.nd rfl (Or.inl rfl) pe_non)
 (pss_cons (ps_if (pt_cmpR op_notN (pv 3) pe_non (nomark _)) (pss_one (ps_set (i := 4) sc__law_rewrite.nd rfl (Or.inl rfl) (pe_ifExp (pt_truth (pv 2) (by intro _; rfl)) (pe_call G__law_expanded (hr.mono (by decide)) rfl d__law_expanded.m d__law_expanded.F.kp d__law_expanded.b .nil pass0 (pa_cons (pv 3) pa_nil)) pe_never))) pss_nil)
 (pss_one (ps_ret (pe_ifExp (pt_cmpR op_isN (pv 4) pe_non (nomark _)) pe_non (pe_call G__law_replace (hr.mono (by decide)) rfl d__law_replace.m d__law_replace.F.kp d__law_replace.b .nil pass0 (pa_cons (pv 0) (pa_cons (pv 1) (pa_cons (pv 4) pa_nil)))))))))), ?_⟩
  refine ⟨_, rfl, _, rfl, v, t, u, p, rfl, ha, hd, h1, fun x H1 a1 s1 => ?_⟩
  refine ⟨_, rfl, rfl, _, rfl, ite_yes (by rw [ta_ne a1]; rfl) ?_⟩
  refine ⟨_, rfl, true, rfl, ite_yes rfl ⟨_, rfl, x, u, u', rfl, a1, by omega, h2, fun y H2 a2 s2 => ?_⟩⟩
  refine ⟨_, rfl, rfl, _, rfl, ite_no (ta_ne a2) ?_⟩
  exact ⟨_, rfl, _, rfl, _, rfl, v, y, t, u', t', p, rfl, ta_mono (Tp.same (s1.trans s2)) ha, a2, by omega, by omega, h3, fun z H3 a3 s3 => q z H3 a3 ((s1.trans s2).trans s3)⟩

abbrev s_law : Stmt := top 38
theorem sc_law : FnScope ["_law_script", "_law_rng", "_law_turn", "_law_term_here", "_law_again", "_law_result", "_law_current", "_law_path"] ["_law_script"] (defScope s_law) := ⟨rfl, rfl, rfl, by decide +kernel, rfl, by decide +kernel, by decide +kernel⟩
theorem ok_law {Cp fI fP fM : Addr} {fdI fdP fdM : FuncData} {f1 f2 f3 f4 f5 f6 f7 f8 f9 f10 f11 f12 f13 f14 f15 f16 f17 f18 f19 f20 f21 f22 f23 : Addr} {e1 e2 e3 e4 e5 e6 e7 e8 e9 e10 e11 e12 e13 e14 e15 e16 e17 e18 e19 e20 e21 e22 e23 : FuncData} (d : D K mg "law" s_law ["_law_script"] f fd) (B : Blt mg) (C : Cst mg)
    (T : PoolT K mg Cp) (GEN : ∃ t, mg "GENERATOR" = some (.int 0 t)) (MF : ∃ t, mg "MAX_FULL_SIZE" = some (.int 500 t)) (M : Mk K Cp fI) (FI : Fun K "__init__" "Pool.__init__" s_PInit fI fdI) (bI : Binds K fdI ["self"] []) (FP : Fun K "pair" "Pool.pair" s_PPair fP fdP) (bP : Binds K fdP ["self", "left", "right"] []) (mP : Meth K Cp "pair" fP)
    (FN : Fun K "number_of" "Pool.number_of" s_PNum fM fdM) (bN : Binds K fdM ["self", "term"] []) (mN : Meth K Cp "number_of" fM)
    (d__law_draws : D K mg "_law_draws" s__law_draws ["_law_script"] f1 e1) (d__law_draw : D K mg "_law_draw" s__law_draw ["_law_rng", "_law_amount"] f2 e2) (d__law_same : D K mg "_law_same" s__law_same ["_law_result", "_law_expected"] f3 e3)
    (d__law_term : D K mg "_law_term" s__law_term ["_law_rng", "_law_many", "_law_cap"] f4 e4) (d__law_comb : D K mg "_law_comb" s__law_comb ["_law_many", "_law_onleft"] f5 e5) (d__law_any_term : D K mg "_law_any_term" s__law_any_term ["_law_rng", "_law_top"] f6 e6)
    (d__law_subterm : D K mg "_law_subterm" s__law_subterm ["_law_term_here", "_law_spot"] f7 e7) (d__law_replace : D K mg "_law_replace" s__law_replace ["_law_term_here", "_law_spot", "_law_new"] f8 e8) (d__law_expanded : D K mg "_law_expanded" s__law_expanded ["_law_some"] f9 e9) (d__law_rewrite : D K mg "_law_rewrite" s__law_rewrite ["_law_term_here", "_law_spot", "_law_onward"] f10 e10)
    (d__law_expansion_size : D K mg "_law_expansion_size" s__law_expansion_size ["_law_term_here"] f11 e11) (d__law_substitute : D K mg "_law_substitute" s__law_substitute ["_law_term_here", "_law_on"] f12 e12) (d__law_full_expansion : D K mg "_law_full_expansion" s__law_full_expansion ["_law_term_here"] f13 e13)
    (d_is_term : D K mg "is_term" s_is_term ["term"] f14 e14) (d_is_pair : D K mg "is_pair" s_is_pair ["part"] f15 e15) (d_check_term : D K mg "check_term" s_check_term ["term"] f16 e16) (d_full_size : D K mg "full_size" s_full_size ["term"] f17 e17) (d_check_full_expansion : D K mg "check_full_expansion" s_check_full_expansion ["term"] f18 e18)
    (d_spread : D K mg "spread" s_spread ["pool", "acting", "number"] f19 e19) (d_full_number : D K mg "full_number" s_full_number ["pool", "number"] f20 e20) (d_places_below : D K mg "places_below" s_places_below ["pool", "number", "path"] f21 e21) (d_full_paths : D K mg "full_paths" s_full_paths ["pool", "number", "path"] f22 e22) (d_full_expansion_paths : D K mg "full_expansion_paths" s_full_expansion_paths ["term"] f23 e23) :
    FnOk P w K mg base CX0 64 f fd ["_law_script"] (spLaw K) := by
  have G__law_draws : FnOk P w K mg base CX0 1 f1 e1 ["_law_script"] (spDraws K) := ok__law_draws d__law_draws B
  have G__law_any_term : FnOk P w K mg base CX0 9 f6 e6 ["_law_rng", "_law_top"] (spAny K) := ok__law_any_term d__law_any_term B d__law_draw d__law_comb d__law_term
  have G__law_same : FnOk P w K mg base CX0 12 f3 e3 ["_law_result", "_law_expected"] (spSame K 12) := ok__law_same d__law_same B 12
  have G__law_rewrite : FnOk P w K mg base CX0 63 f10 e10 ["_law_term_here", "_law_spot", "_law_onward"] (spRw K) := ok__law_rewrite d__law_rewrite d__law_subterm d__law_expanded d__law_replace
  have G__law_expansion_size : FnOk P w K mg base CX0 7 f11 e11 ["_law_term_here"] (spFsz K 7) := ok__law_expansion_size d__law_expansion_size 7
  have G__law_full_expansion : FnOk P w K mg base CX0 27 f13 e13 ["_law_term_here"] (spFe K 7) := ok__law_full_expansion d__law_full_expansion d__law_substitute 7
  have G_full_expansion_paths : FnOk P w K mg base CX0 48 f23 e23 ["term"] (spPathsOf K) := ok_full_expansion_paths d_full_expansion_paths T B C GEN MF M FI bI FP bP mP FN bN mN d_is_pair d_is_term d_check_term d_full_size d_check_full_expansion d_spread d_full_number d_places_below d_full_paths
  refine d.F.ok sc_law (fun vs H Q E h => ?_) (fun cdv A outer s H vs Q E hr h => ?_)
  · obtain ⟨_, _, rfl, _⟩ := h
    rfl
  obtain ⟨a, ns, rfl, hS, q⟩ := h
  refine ⟨_, (pss_cons (ps_set (i := 1) sc_law.nd rfl (Or.inl rfl) (pe_call G__law_draws (hr.mono (by decide)) rfl d__law_draws.m d__law_draws.F.kp d__law_draws.b .nil pass0 (pa_cons (pv 0) pa_nil)))
 (pss_cons (ps_for PassesOwn.never rfl (pi_range1 (by rfl) B.range (pa_cons pe_int pa_nil)) (pg_name (i := 2) sc_law.nd rfl (Or.inl rfl))
  (pss_cons (ps_set (i := 3) sc_law.nd rfl (Or.inl rfl) (pe_call G__law_any_term (hr.mono (by decide)) rfl d__law_any_term.m d__law_any_term.F.kp d__law_any_term.b .nil pass0 (pa_cons (pv 1) (pa_cons pe_int pa_nil))))
 (pss_one (ps_if (pt_cmpR op_le (pe_call G__law_expansion_size (hr.mono (by decide)) rfl d__law_expansion_size.m d__law_expansion_size.F.kp d__law_expansion_size.b .nil pass0 (pa_cons (pv 3) pa_nil)) pe_int (nomark _)) (pss_one (ps_for PassesOwn.never rfl (pi_range1 (by rfl) B.range (pa_cons pe_int pa_nil)) (pg_name (i := 4) sc_law.nd rfl (Or.inl rfl))
  (pss_cons (ps_par (i := 5) (j := 6) (by rfl) sc_law.nd rfl rfl (by decide) rfl rfl (pa_cons (pe_call G_full_expansion_paths (hr.mono (by decide)) rfl d_full_expansion_paths.m d_full_expansion_paths.F.kp d_full_expansion_paths.b .nil pass0 (pa_cons (pv 3) pa_nil)) (pa_cons (pv 3) pa_nil)) (by rfl))
 (pss_cons (ps_if (pt_not (pt_val (pe_callB call_isi (by rfl) B.isinstance (by decide +kernel) (pa_cons (pv 5) (pa_cons (pe_bltn (v := .ty "list") (by rfl) B.list (by decide +kernel) rfl) pa_nil))))) (pss_one (ps_ret pe_bl)) pss_nil)
 (pss_cons (ps_for PassesOwn.never rfl (pi_list (pv 5)) (pg_name (i := 7) sc_law.nd rfl (Or.inl rfl))
  (pss_cons (ps_if (pt_not (pt_val (pe_callB call_isi (by rfl) B.isinstance (by decide +kernel) (pa_cons (pv 7) (pa_cons (pe_bltn (v := .ty "str") (by rfl) B.str (by decide +kernel) rfl) pa_nil))))) (pss_one (ps_ret pe_bl)) pss_nil)
 (pss_cons (ps_set (i := 6) sc_law.nd rfl (Or.inl rfl) (pe_call G__law_rewrite (hr.mono (by decide)) rfl d__law_rewrite.m d__law_rewrite.F.kp d__law_rewrite.b .nil pass0 (pa_cons (pv 6) (pa_cons (pv 7) (pa_cons pe_bl pa_nil)))))
 (pss_one (ps_if (pt_cmpR op_isN (pv 6) pe_non (nomark _)) (pss_one (ps_ret pe_bl)) pss_nil)))))
 (pss_cons (ps_if (pt_cmpR (op_neD hr.units) (pv 6) (pe_call G__law_full_expansion (hr.mono (by decide)) rfl d__law_full_expansion.m d__law_full_expansion.F.kp d__law_full_expansion.b .nil pass0 (pa_cons (pv 3) pa_nil)) (nomark _)) (pss_one (ps_ret pe_bl)) pss_nil)
 (pss_one (ps_expr (pe_bm PySem.F.plainAttrs_list PySem.F.slot_list_append PySem.F.type_list_append mt_append (pv 5) (pa_cons pe_str pa_nil)))))))))) pss_nil))))
 (pss_one (ps_ret (pe_call G__law_same (hr.mono (by decide)) rfl d__law_same.m d__law_same.F.kp d__law_same.b .nil pass0 (pa_cons (pe_lst (pa_cons (pe_call G_full_expansion_paths (hr.mono (by decide)) rfl d_full_expansion_paths.m d_full_expansion_paths.F.kp d_full_expansion_paths.b .nil pass0 (pa_cons (pe_tup pa_nil) pa_nil)) (pa_cons (pe_call G_full_expansion_paths (hr.mono (by decide)) rfl d_full_expansion_paths.m d_full_expansion_paths.F.kp d_full_expansion_paths.b .nil pass0 (pa_cons (pe_tup (pa_cons (pe_tup pa_nil) (pa_cons (pe_tup pa_nil) pa_nil))) pa_nil)) pa_nil))) (pa_cons (pe_lst (pa_cons (pe_lst pa_nil) (pa_cons (pe_lst pa_nil) pa_nil))) pa_nil))))))), ?_⟩
  refine ⟨_, rfl, a, ns, rfl, hS, fun r H1 s1 _ R1 => ?_⟩
  refine ⟨4, rfl, by decide, by decide, for_range (lo := 0) (n := 4) (fun i σ H' => ∃ (x2 x3 x4 x5 x6 x7 : Option V), σ = [some (.ref a), some (.ref r), x2, x3, x4, x5, x6, x7] ∧ Rng H' r) ⟨none, none, none, none, none, none, rfl, R1⟩ ?_ ?_⟩
  · rintro i σ H' hi ⟨x2, x3, x4, x5, x6, x7, rfl, R⟩
    refine ⟨_, rfl, r, 8, rfl, by decide, by decide, R, fun v t H2 a2 z2 d2 R2 b2 => ?_⟩
    have z2 : t.sz ≤ 8 := by omega
    refine ⟨_, rfl, v, t, rfl, a2, by omega, by decide, by omega, fun H3 s3 => ⟨_, _, rfl, rfl, _, rfl, ite2 (fun c => ?_) (fun c => ?_)⟩⟩
    · have hf : t.fsz ≤ 500 := by
        have c' : ((t.fsz : Nat) : Int) ≤ 500 := of_decide_eq_true c
        omega
      have a3 := ta_mono (Tp.same s3) a2
      have R3 := R2.same s3
      have fd := t.fe_dp
      refine ⟨2, rfl, by decide, by decide, for_range (lo := 0) (n := 2) (fun j σ G => ∃ (x4 x5 x6 x7 : Option V), σ = [some (.ref a), some (.ref r), some (.int (0 + (i : Int))), some v, x4, x5, x6, x7] ∧ Same H3 G) ⟨x4, x5, x6, x7, rfl, Same.refl _⟩ ?_ ?_⟩
      · rintro j σ G hj ⟨x4, x5, x6, x7, rfl, s3G⟩
        refine ⟨_, rfl, v, t, rfl, ta_mono (Tp.same s3G) a3, by omega, d2, hf, fun z G1 sG1 fz lz => ⟨_, rfl, _, _, rfl, ?_⟩⟩
        have s31 := s3G.trans sG1
        have fz3 : H3 z = none := s3G.free fz
        refine ⟨_, rfl, _, _, _, _, true, rfl, .ty "list", tyx_lst (SqL.here lz), kit_ty (by decide +kernel), true, rfl, iteF ?_⟩
        have fl := t.fp_len hf
        refine ⟨_, rfl, z, rfl, ⟨_, SqL.here lz⟩, for_list (K := K) (a := z) (xs := ptxs t.fp) (fun k σ G' => ∃ (y : V) (u : Tree) (x7 : Option V), σ = [some (.ref a), some (.ref r), some (.int (0 + (i : Int))), some v, some (.int (0 + (j : Int))), some (.ref z), some y, x7] ∧ Same G1 G' ∧ TA K G' y u ∧ t.rl (t.fp.take k) = some u) ⟨v, t, x7, rfl, Same.refl _, ta_mono (Tp.same s31) a3, rfl⟩ (fun k σ G' _ ⟨_, _, _, _, sm, _⟩ => SqL.here (sm _ _ lz)) ?_ ?_⟩
        · rintro k y0 σ G' hk ⟨y, u, x7, rfl, sm, hy, hru⟩
          unfold ptxs at hk
          rw [List.getElem?_map] at hk
          cases ep : t.fp[k]? with
          | none =>
            rw [ep] at hk
            cases hk
          | some p =>
            rw [ep] at hk
            cases hk
            have hlt := (List.getElem?_eq_some_iff.mp ep).1
            have hpe := (List.getElem?_eq_some_iff.mp ep).2
            have hall := t.rl_fp
            have esp : t.fp = t.fp.take k ++ (p :: t.fp.drop (k + 1)) := by
              rw [← hpe, ← List.drop_eq_getElem_cons hlt, List.take_append_drop]
            rw [esp, Tree.rl_app, hru] at hall
            have hall : (u.ex p).bind (fun t' => t'.rl (t.fp.drop (k + 1))) = some t.fe := hall
            cases ex : u.ex p with
            | none =>
              rw [ex] at hall
              cases hall
            | some u' =>
              have hud := Tree.ex_dp u p u' ex
              rw [ex] at hall
              have hud2 := Tree.rl_dp _ _ _ hall
              refine ⟨_, rfl, _, _, _, _, true, rfl, .ty "str", .base (.str _), kit_ty (by decide +kernel), true, rfl, iteF ?_⟩
              refine ⟨_, rfl, _, rfl, y, u, u', p, rfl, hy, by omega, ex, fun y' G2 hy' s2 => ?_⟩
              refine ⟨_, rfl, rfl, _, rfl, ite_no (ta_ne hy') ?_⟩
              refine ⟨y', u', _, rfl, sm.trans s2, hy', ?_⟩
              rw [List.take_add_one, ep, Tree.rl_app, hru]
              show (u.ex p).bind (fun t' => t'.rl []) = _
              rw [ex]
              rfl
        · rintro σ G' ⟨y, u, x7, rfl, sm, hy, hru⟩
          rw [ptxs_len, List.take_length, t.rl_fp] at hru
          cases hru
          refine ⟨_, rfl, _, rfl, v, t, rfl, ta_mono (Tp.same (s31.trans sm)) a3, by omega, by decide, by omega, fun y2 G3 hy2 s3' => ?_⟩
          refine ⟨t.fe.d, t.fe.d, ta_mono (Tp.same s3') hy, hy2, Tree.shaped (by omega), Tree.shaped (by omega), _, rfl, ite_no ?_ ?_⟩
          · rw [SeqAt.eqv_refl _ t.fe.d_lay]
            rfl
          refine ⟨_, rfl, .inl ⟨rfl, _, SqL.here (s3' _ _ (sm _ _ lz))⟩, z, _, _, rfl, rfl, s3' _ _ (sm _ _ lz), by rw [ptxs_len]; exact mil (by omega), _, _, _, _, rfl, fun e o he => ?_⟩
          rw [upd_ne (ne_of_none he fz3)]
          exact s3' _ _ (sm _ _ (s31 _ _ he))
      · rintro σ G ⟨x4, x5, x6, x7, rfl, s3G⟩
        exact ⟨_, _, _, _, _, _, rfl, R3.same s3G⟩
    · exact ⟨_, _, _, _, _, _, rfl, R2.same s3⟩
  · rintro σ H' ⟨x2, x3, x4, x5, x6, x7, rfl, R⟩
    refine ⟨zero_le', fun p hp => ⟨.ref p, .L, rfl, ta_leaf (SqT.here upd_same), by decide, by decide, by decide, fun z1 H2 s2 f2 l2 => ?_⟩⟩
    refine ⟨zero_le', fun p2 hp2 => ⟨zero_le', fun p3 hp3 => ⟨two_le, fun p4 hp4 => ?_⟩⟩⟩
    have sA := Same.new hp2 (.tup [])
    have sB := Same.new hp3 (.tup [])
    have sC := Same.new hp4 (.tup [.ref p2, .ref p3])
    have l2' := sC _ _ (sB _ _ (sA _ _ l2))
    refine ⟨.ref p4, .N .L .L, rfl, ta_node (SqT.here upd_same) (ta_leaf (SqT.here (sC _ _ (sB _ _ upd_same)))) (ta_leaf (SqT.here (sC _ _ upd_same))), by decide, by decide, by decide, fun z2 H3 s3 f3 l3 => ⟨two_le, fun p5 hp5 => ?_⟩⟩
    have sD := Same.new hp5 (.lst [.ref z1, .ref z2])
    refine ⟨zero_le', fun p6 hp6 => ⟨zero_le', fun p7 hp7 => ⟨two_le, fun p8 hp8 => ?_⟩⟩⟩
    have sE := Same.new hp6 (.lst [])
    have sF := Same.new hp7 (.lst [])
    have sG := Same.new hp8 (.lst [.ref p6, .ref p7])
    have sEG := (sE.trans sF).trans sG
    exact ⟨.ref p5, .ref p8, .list [.list [], .list []], rfl, Dp.lst (SqL.here (sEG _ _ upd_same)) (.cons (Dp.lst (SqL.here (sEG _ _ (sD _ _ (s3 _ _ l2')))) .nil) (.cons (Dp.lst (SqL.here (sEG _ _ (sD _ _ l3))) .nil) .nil)), Dp.lst (SqL.here upd_same) (.cons (Dp.lst (SqL.here (sG _ _ (sF _ _ upd_same))) .nil) (.cons (Dp.lst (SqL.here (sG _ _ upd_same)) .nil) .nil)), by decide +kernel, by decide +kernel, by decide +kernel, fun H5 _ => q H5⟩

end
theorem all_mk {l : PySem.W.OpenLaw} {w : World} {K : PySem.W.Frag} {h : Heap} {mg : Str → Option Value} {fa : Addr} (X : K.In h) (G : h.Ns mainGlobals mg) (hfa : mg "law" = some (.ref fa))
    {g0 g1 g2 g3 g4 g5 g6 g7 g8 g9 g10 g11 g12 g13 g14 g15 g16 g17 g18 g19 g20 g21 g22 g23 : Addr}
    {od0 an0 od1 an1 od2 an2 od3 an3 od4 an4 od5 an5 od6 an6 od7 an7 od8 an8 od9 an9 od10 an10 od11 an11 od12 an12 od13 an13 od14 an14 od15 an15 od16 an16 od17 an17 od18 an18 od19 an19 od20 an20 od21 an21 od22 an22 od23 an23 : Option Addr}
    {sl0 sl1 sl2 sl3 sl4 sl5 sl6 sl7 sl8 sl9 sl10 sl11 sl12 sl13 sl14 sl15 sl16 sl17 sl18 sl19 sl20 sl21 sl22 sl23 : Array (Option Value)}
    {oc0 kV0 dc0 pm0 cd0 ct0 oc1 kV1 dc1 pm1 cd1 ct1 oc2 kV2 dc2 pm2 cd2 ct2 oc3 kV3 dc3 pm3 cd3 ct3 oc4 kV4 dc4 pm4 cd4 ct4 oc5 kV5 dc5 pm5 cd5 ct5 oc6 kV6 dc6 pm6 cd6 ct6 oc7 kV7 dc7 pm7 cd7 ct7 oc8 kV8 dc8 pm8 cd8 ct8 oc9 kV9 dc9 pm9 cd9 ct9 oc10 kV10 dc10 pm10 cd10 ct10 oc11 kV11 dc11 pm11 cd11 ct11 oc12 kV12 dc12 pm12 cd12 ct12 oc13 kV13 dc13 pm13 cd13 ct13 oc14 kV14 dc14 pm14 cd14 ct14 oc15 kV15 dc15 pm15 cd15 ct15 oc16 kV16 dc16 pm16 cd16 ct16 oc17 kV17 dc17 pm17 cd17 ct17 oc18 kV18 dc18 pm18 cd18 ct18 oc19 kV19 dc19 pm19 cd19 ct19 oc20 kV20 dc20 pm20 cd20 ct20 oc21 kV21 dc21 pm21 cd21 ct21 oc22 kV22 dc22 pm22 cd22 ct22 oc23 kV23 dc23 pm23 cd23 ct23 : Value}
    {t_MAX_SIZE : Tok}
    {t_MAX_DEPTH : Tok}
    {t_GENERATOR : Tok}
    {t_MAX_FULL_SIZE : Tok}
    {Cp m0 m1 m2 : Addr} {mod0 man0 mod1 man1 mod2 man2 : Option Addr} {msl0 msl1 msl2 : Array (Option Value)} {moc0 mkV0 mdc0 mpm0 mcd0 mct0 moc1 mkV1 mdc1 mpm1 mcd1 mct1 moc2 mkV2 mdc2 mpm2 mcd2 mct2 : Value}
    (a0 : PySem.W.nsIn K mainGlobals "_law_draws" = some (some (.ref g0))) (l0 : K.lookup g0 = some ⟨oc0, od0, .func (PySem.W.fnOf "_law_draws" "_law_draws" (defArgs s__law_draws) (defBody s__law_draws) (defScope s__law_draws) .none kV0 dc0 pm0 an0 cd0 ct0), sl0⟩) (c0 : PySem.W.codeIn K cd0 "_law_draws" = true) (k0 : PySem.W.keepIn K (.ref g0) = true)
    (a1 : PySem.W.nsIn K mainGlobals "_law_draw" = some (some (.ref g1))) (l1 : K.lookup g1 = some ⟨oc1, od1, .func (PySem.W.fnOf "_law_draw" "_law_draw" (defArgs s__law_draw) (defBody s__law_draw) (defScope s__law_draw) .none kV1 dc1 pm1 an1 cd1 ct1), sl1⟩) (c1 : PySem.W.codeIn K cd1 "_law_draw" = true) (k1 : PySem.W.keepIn K (.ref g1) = true)
    (a2 : PySem.W.nsIn K mainGlobals "_law_comb" = some (some (.ref g2))) (l2 : K.lookup g2 = some ⟨oc2, od2, .func (PySem.W.fnOf "_law_comb" "_law_comb" (defArgs s__law_comb) (defBody s__law_comb) (defScope s__law_comb) .none kV2 dc2 pm2 an2 cd2 ct2), sl2⟩) (c2 : PySem.W.codeIn K cd2 "_law_comb" = true) (k2 : PySem.W.keepIn K (.ref g2) = true)
    (a3 : PySem.W.nsIn K mainGlobals "is_pair" = some (some (.ref g3))) (l3 : K.lookup g3 = some ⟨oc3, od3, .func (PySem.W.fnOf "is_pair" "is_pair" (defArgs s_is_pair) (defBody s_is_pair) (defScope s_is_pair) .none kV3 dc3 pm3 an3 cd3 ct3), sl3⟩) (c3 : PySem.W.codeIn K cd3 "is_pair" = true) (k3 : PySem.W.keepIn K (.ref g3) = true)
    (a4 : PySem.W.nsIn K mainGlobals "_law_same" = some (some (.ref g4))) (l4 : K.lookup g4 = some ⟨oc4, od4, .func (PySem.W.fnOf "_law_same" "_law_same" (defArgs s__law_same) (defBody s__law_same) (defScope s__law_same) .none kV4 dc4 pm4 an4 cd4 ct4), sl4⟩) (c4 : PySem.W.codeIn K cd4 "_law_same" = true) (k4 : PySem.W.keepIn K (.ref g4) = true)
    (a5 : PySem.W.nsIn K mainGlobals "_law_term" = some (some (.ref g5))) (l5 : K.lookup g5 = some ⟨oc5, od5, .func (PySem.W.fnOf "_law_term" "_law_term" (defArgs s__law_term) (defBody s__law_term) (defScope s__law_term) .none kV5 dc5 pm5 an5 cd5 ct5), sl5⟩) (c5 : PySem.W.codeIn K cd5 "_law_term" = true) (k5 : PySem.W.keepIn K (.ref g5) = true)
    (a6 : PySem.W.nsIn K mainGlobals "_law_any_term" = some (some (.ref g6))) (l6 : K.lookup g6 = some ⟨oc6, od6, .func (PySem.W.fnOf "_law_any_term" "_law_any_term" (defArgs s__law_any_term) (defBody s__law_any_term) (defScope s__law_any_term) .none kV6 dc6 pm6 an6 cd6 ct6), sl6⟩) (c6 : PySem.W.codeIn K cd6 "_law_any_term" = true) (k6 : PySem.W.keepIn K (.ref g6) = true)
    (a7 : PySem.W.nsIn K mainGlobals "is_term" = some (some (.ref g7))) (l7 : K.lookup g7 = some ⟨oc7, od7, .func (PySem.W.fnOf "is_term" "is_term" (defArgs s_is_term) (defBody s_is_term) (defScope s_is_term) .none kV7 dc7 pm7 an7 cd7 ct7), sl7⟩) (c7 : PySem.W.codeIn K cd7 "is_term" = true) (k7 : PySem.W.keepIn K (.ref g7) = true)
    (a8 : PySem.W.nsIn K mainGlobals "check_term" = some (some (.ref g8))) (l8 : K.lookup g8 = some ⟨oc8, od8, .func (PySem.W.fnOf "check_term" "check_term" (defArgs s_check_term) (defBody s_check_term) (defScope s_check_term) .none kV8 dc8 pm8 an8 cd8 ct8), sl8⟩) (c8 : PySem.W.codeIn K cd8 "check_term" = true) (k8 : PySem.W.keepIn K (.ref g8) = true)
    (a9 : PySem.W.nsIn K mainGlobals "full_size" = some (some (.ref g9))) (l9 : K.lookup g9 = some ⟨oc9, od9, .func (PySem.W.fnOf "full_size" "full_size" (defArgs s_full_size) (defBody s_full_size) (defScope s_full_size) .none kV9 dc9 pm9 an9 cd9 ct9), sl9⟩) (c9 : PySem.W.codeIn K cd9 "full_size" = true) (k9 : PySem.W.keepIn K (.ref g9) = true)
    (a10 : PySem.W.nsIn K mainGlobals "check_full_expansion" = some (some (.ref g10))) (l10 : K.lookup g10 = some ⟨oc10, od10, .func (PySem.W.fnOf "check_full_expansion" "check_full_expansion" (defArgs s_check_full_expansion) (defBody s_check_full_expansion) (defScope s_check_full_expansion) .none kV10 dc10 pm10 an10 cd10 ct10), sl10⟩) (c10 : PySem.W.codeIn K cd10 "check_full_expansion" = true) (k10 : PySem.W.keepIn K (.ref g10) = true)
    (a11 : PySem.W.nsIn K mainGlobals "spread" = some (some (.ref g11))) (l11 : K.lookup g11 = some ⟨oc11, od11, .func (PySem.W.fnOf "spread" "spread" (defArgs s_spread) (defBody s_spread) (defScope s_spread) .none kV11 dc11 pm11 an11 cd11 ct11), sl11⟩) (c11 : PySem.W.codeIn K cd11 "spread" = true) (k11 : PySem.W.keepIn K (.ref g11) = true)
    (a12 : PySem.W.nsIn K mainGlobals "full_number" = some (some (.ref g12))) (l12 : K.lookup g12 = some ⟨oc12, od12, .func (PySem.W.fnOf "full_number" "full_number" (defArgs s_full_number) (defBody s_full_number) (defScope s_full_number) .none kV12 dc12 pm12 an12 cd12 ct12), sl12⟩) (c12 : PySem.W.codeIn K cd12 "full_number" = true) (k12 : PySem.W.keepIn K (.ref g12) = true)
    (a13 : PySem.W.nsIn K mainGlobals "places_below" = some (some (.ref g13))) (l13 : K.lookup g13 = some ⟨oc13, od13, .func (PySem.W.fnOf "places_below" "places_below" (defArgs s_places_below) (defBody s_places_below) (defScope s_places_below) .none kV13 dc13 pm13 an13 cd13 ct13), sl13⟩) (c13 : PySem.W.codeIn K cd13 "places_below" = true) (k13 : PySem.W.keepIn K (.ref g13) = true)
    (a14 : PySem.W.nsIn K mainGlobals "full_paths" = some (some (.ref g14))) (l14 : K.lookup g14 = some ⟨oc14, od14, .func (PySem.W.fnOf "full_paths" "full_paths" (defArgs s_full_paths) (defBody s_full_paths) (defScope s_full_paths) .none kV14 dc14 pm14 an14 cd14 ct14), sl14⟩) (c14 : PySem.W.codeIn K cd14 "full_paths" = true) (k14 : PySem.W.keepIn K (.ref g14) = true)
    (a15 : PySem.W.nsIn K mainGlobals "full_expansion_paths" = some (some (.ref g15))) (l15 : K.lookup g15 = some ⟨oc15, od15, .func (PySem.W.fnOf "full_expansion_paths" "full_expansion_paths" (defArgs s_full_expansion_paths) (defBody s_full_expansion_paths) (defScope s_full_expansion_paths) .none kV15 dc15 pm15 an15 cd15 ct15), sl15⟩) (c15 : PySem.W.codeIn K cd15 "full_expansion_paths" = true) (k15 : PySem.W.keepIn K (.ref g15) = true)
    (a16 : PySem.W.nsIn K mainGlobals "_law_expansion_size" = some (some (.ref g16))) (l16 : K.lookup g16 = some ⟨oc16, od16, .func (PySem.W.fnOf "_law_expansion_size" "_law_expansion_size" (defArgs s__law_expansion_size) (defBody s__law_expansion_size) (defScope s__law_expansion_size) .none kV16 dc16 pm16 an16 cd16 ct16), sl16⟩) (c16 : PySem.W.codeIn K cd16 "_law_expansion_size" = true) (k16 : PySem.W.keepIn K (.ref g16) = true)
    (a17 : PySem.W.nsIn K mainGlobals "_law_substitute" = some (some (.ref g17))) (l17 : K.lookup g17 = some ⟨oc17, od17, .func (PySem.W.fnOf "_law_substitute" "_law_substitute" (defArgs s__law_substitute) (defBody s__law_substitute) (defScope s__law_substitute) .none kV17 dc17 pm17 an17 cd17 ct17), sl17⟩) (c17 : PySem.W.codeIn K cd17 "_law_substitute" = true) (k17 : PySem.W.keepIn K (.ref g17) = true)
    (a18 : PySem.W.nsIn K mainGlobals "_law_full_expansion" = some (some (.ref g18))) (l18 : K.lookup g18 = some ⟨oc18, od18, .func (PySem.W.fnOf "_law_full_expansion" "_law_full_expansion" (defArgs s__law_full_expansion) (defBody s__law_full_expansion) (defScope s__law_full_expansion) .none kV18 dc18 pm18 an18 cd18 ct18), sl18⟩) (c18 : PySem.W.codeIn K cd18 "_law_full_expansion" = true) (k18 : PySem.W.keepIn K (.ref g18) = true)
    (a19 : PySem.W.nsIn K mainGlobals "_law_expanded" = some (some (.ref g19))) (l19 : K.lookup g19 = some ⟨oc19, od19, .func (PySem.W.fnOf "_law_expanded" "_law_expanded" (defArgs s__law_expanded) (defBody s__law_expanded) (defScope s__law_expanded) .none kV19 dc19 pm19 an19 cd19 ct19), sl19⟩) (c19 : PySem.W.codeIn K cd19 "_law_expanded" = true) (k19 : PySem.W.keepIn K (.ref g19) = true)
    (a20 : PySem.W.nsIn K mainGlobals "_law_subterm" = some (some (.ref g20))) (l20 : K.lookup g20 = some ⟨oc20, od20, .func (PySem.W.fnOf "_law_subterm" "_law_subterm" (defArgs s__law_subterm) (defBody s__law_subterm) (defScope s__law_subterm) .none kV20 dc20 pm20 an20 cd20 ct20), sl20⟩) (c20 : PySem.W.codeIn K cd20 "_law_subterm" = true) (k20 : PySem.W.keepIn K (.ref g20) = true)
    (a21 : PySem.W.nsIn K mainGlobals "_law_replace" = some (some (.ref g21))) (l21 : K.lookup g21 = some ⟨oc21, od21, .func (PySem.W.fnOf "_law_replace" "_law_replace" (defArgs s__law_replace) (defBody s__law_replace) (defScope s__law_replace) .none kV21 dc21 pm21 an21 cd21 ct21), sl21⟩) (c21 : PySem.W.codeIn K cd21 "_law_replace" = true) (k21 : PySem.W.keepIn K (.ref g21) = true)
    (a22 : PySem.W.nsIn K mainGlobals "_law_rewrite" = some (some (.ref g22))) (l22 : K.lookup g22 = some ⟨oc22, od22, .func (PySem.W.fnOf "_law_rewrite" "_law_rewrite" (defArgs s__law_rewrite) (defBody s__law_rewrite) (defScope s__law_rewrite) .none kV22 dc22 pm22 an22 cd22 ct22), sl22⟩) (c22 : PySem.W.codeIn K cd22 "_law_rewrite" = true) (k22 : PySem.W.keepIn K (.ref g22) = true)
    (a23 : PySem.W.nsIn K mainGlobals "law" = some (some (.ref g23))) (l23 : K.lookup g23 = some ⟨oc23, od23, .func (PySem.W.fnOf "law" "law" (defArgs s_law) (defBody s_law) (defScope s_law) .none kV23 dc23 pm23 an23 cd23 ct23), sl23⟩) (c23 : PySem.W.codeIn K cd23 "law" = true) (k23 : PySem.W.keepIn K (.ref g23) = true)
    (z_len : PySem.W.nsIn K mainGlobals "len" = some none)
    (z_list : PySem.W.nsIn K mainGlobals "list" = some none)
    (z_tuple : PySem.W.nsIn K mainGlobals "tuple" = some none)
    (z_dict : PySem.W.nsIn K mainGlobals "dict" = some none)
    (z_bool : PySem.W.nsIn K mainGlobals "bool" = some none)
    (z_isinstance : PySem.W.nsIn K mainGlobals "isinstance" = some none)
    (z_max : PySem.W.nsIn K mainGlobals "max" = some none)
    (z_min : PySem.W.nsIn K mainGlobals "min" = some none)
    (z_range : PySem.W.nsIn K mainGlobals "range" = some none)
    (z_all : PySem.W.nsIn K mainGlobals "all" = some none)
    (z_sorted : PySem.W.nsIn K mainGlobals "sorted" = some none)
    (z_enumerate : PySem.W.nsIn K mainGlobals "enumerate" = some none)
    (z_sum : PySem.W.nsIn K mainGlobals "sum" = some none)
    (z_str : PySem.W.nsIn K mainGlobals "str" = some none)
    (z_int : PySem.W.nsIn K mainGlobals "int" = some none)
    (q_MAX_SIZE : PySem.W.nsIn K mainGlobals "MAX_SIZE" = some (some (.int 12 t_MAX_SIZE)))
    (q_MAX_DEPTH : PySem.W.nsIn K mainGlobals "MAX_DEPTH" = some (some (.int 6 t_MAX_DEPTH)))
    (q_GENERATOR : PySem.W.nsIn K mainGlobals "GENERATOR" = some (some (.int 0 t_GENERATOR)))
    (q_MAX_FULL_SIZE : PySem.W.nsIn K mainGlobals "MAX_FULL_SIZE" = some (some (.int 500 t_MAX_FULL_SIZE)))
    (aC : PySem.W.nsIn K mainGlobals "Pool" = some (some (.ref Cp)))
    (ma0 : PySem.W.findIn K (.ref Cp) "__init__" = some (some (.ref m0)))
    (mi0 : PySem.W.isFn K (.ref m0) = true)
    (ml0 : K.lookup m0 = some ⟨moc0, mod0, .func (PySem.W.fnOf "__init__" "Pool.__init__" (defArgs s_PInit) (defBody s_PInit) (defScope s_PInit) .none mkV0 mdc0 mpm0 man0 mcd0 mct0), msl0⟩)
    (mc0 : PySem.W.codeIn K mcd0 "Pool.__init__" = true)
    (mk0 : PySem.W.keepIn K (.ref m0) = true)
    (ma1 : PySem.W.findIn K (.ref Cp) "pair" = some (some (.ref m1)))
    (mi1 : PySem.W.isFn K (.ref m1) = true)
    (ml1 : K.lookup m1 = some ⟨moc1, mod1, .func (PySem.W.fnOf "pair" "Pool.pair" (defArgs s_PPair) (defBody s_PPair) (defScope s_PPair) .none mkV1 mdc1 mpm1 man1 mcd1 mct1), msl1⟩)
    (mc1 : PySem.W.codeIn K mcd1 "Pool.pair" = true)
    (mk1 : PySem.W.keepIn K (.ref m1) = true)
    (ma2 : PySem.W.findIn K (.ref Cp) "number_of" = some (some (.ref m2)))
    (mi2 : PySem.W.isFn K (.ref m2) = true)
    (ml2 : K.lookup m2 = some ⟨moc2, mod2, .func (PySem.W.fnOf "number_of" "Pool.number_of" (defArgs s_PNum) (defBody s_PNum) (defScope s_PNum) .none mkV2 mdc2 mpm2 man2 mcd2 mct2), msl2⟩)
    (mc2 : PySem.W.codeIn K mcd2 "Pool.number_of" = true)
    (mk2 : PySem.W.keepIn K (.ref m2) = true)
    (cpg : PySem.W.plainGet K Cp Str.empty = true)
    (chd : PySem.W.hasDictIn K Cp = true)
    (cpo : PySem.W.plainOver K Cp = true)
    (csa : PySem.W.findIn K (.ref Cp) "__setattr__" = some (some (.builtin "object.__setattr__")))
    (cmk : PySem.W.makesIn K Cp = true)
    (ckc : PySem.W.keepIn K (.ref Cp) = true)
    (cn0 : PySem.W.findIn K (.ref Cp) "numbers" = some none)
    (cn1 : PySem.W.findIn K (.ref Cp) "pairs" = some none)
    (cn2 : PySem.W.findIn K (.ref Cp) "sizes" = some none)
    (cn3 : PySem.W.findIn K (.ref Cp) "terms" = some none) :
    ∃ fd : FuncData, (∀ (s : Shared) (v : Value), BindsTo s fd ⟨[v], []⟩ [("_law_script", v)]) ∧ ∀ base : Heap, K.In base → base.Ns mainGlobals mg → FnOk l.prog w K mg base CX0 64 fa fd ["_law_script"] (spLaw K) := by
  have e := hfa.symm.trans (PySem.W.mg_of X G a23)
  cases e
  have F0 := fun_mk (st := s__law_draws) l0 c0 k0
  have d__law_draws : D K mg "_law_draws" s__law_draws ["_law_script"] _ _ := ⟨F0, F0.binds (ps := ["_law_script"]) fun _ _ _ _ _ _ us hl => match us, hl with | [_], _ => rfl, PySem.W.mg_of X G a0⟩
  have F1 := fun_mk (st := s__law_draw) l1 c1 k1
  have d__law_draw : D K mg "_law_draw" s__law_draw ["_law_rng", "_law_amount"] _ _ := ⟨F1, F1.binds (ps := ["_law_rng", "_law_amount"]) fun _ _ _ _ _ _ us hl => match us, hl with | [_, _], _ => rfl, PySem.W.mg_of X G a1⟩
  have F2 := fun_mk (st := s__law_comb) l2 c2 k2
  have d__law_comb : D K mg "_law_comb" s__law_comb ["_law_many", "_law_onleft"] _ _ := ⟨F2, F2.binds (ps := ["_law_many", "_law_onleft"]) fun _ _ _ _ _ _ us hl => match us, hl with | [_, _], _ => rfl, PySem.W.mg_of X G a2⟩
  have F3 := fun_mk (st := s_is_pair) l3 c3 k3
  have d_is_pair : D K mg "is_pair" s_is_pair ["part"] _ _ := ⟨F3, F3.binds (ps := ["part"]) fun _ _ _ _ _ _ us hl => match us, hl with | [_], _ => rfl, PySem.W.mg_of X G a3⟩
  have F4 := fun_mk (st := s__law_same) l4 c4 k4
  have d__law_same : D K mg "_law_same" s__law_same ["_law_result", "_law_expected"] _ _ := ⟨F4, F4.binds (ps := ["_law_result", "_law_expected"]) fun _ _ _ _ _ _ us hl => match us, hl with | [_, _], _ => rfl, PySem.W.mg_of X G a4⟩
  have F5 := fun_mk (st := s__law_term) l5 c5 k5
  have d__law_term : D K mg "_law_term" s__law_term ["_law_rng", "_law_many", "_law_cap"] _ _ := ⟨F5, F5.binds (ps := ["_law_rng", "_law_many", "_law_cap"]) fun _ _ _ _ _ _ us hl => match us, hl with | [_, _, _], _ => rfl, PySem.W.mg_of X G a5⟩
  have F6 := fun_mk (st := s__law_any_term) l6 c6 k6
  have d__law_any_term : D K mg "_law_any_term" s__law_any_term ["_law_rng", "_law_top"] _ _ := ⟨F6, F6.binds (ps := ["_law_rng", "_law_top"]) fun _ _ _ _ _ _ us hl => match us, hl with | [_, _], _ => rfl, PySem.W.mg_of X G a6⟩
  have F7 := fun_mk (st := s_is_term) l7 c7 k7
  have d_is_term : D K mg "is_term" s_is_term ["term"] _ _ := ⟨F7, F7.binds (ps := ["term"]) fun _ _ _ _ _ _ us hl => match us, hl with | [_], _ => rfl, PySem.W.mg_of X G a7⟩
  have F8 := fun_mk (st := s_check_term) l8 c8 k8
  have d_check_term : D K mg "check_term" s_check_term ["term"] _ _ := ⟨F8, F8.binds (ps := ["term"]) fun _ _ _ _ _ _ us hl => match us, hl with | [_], _ => rfl, PySem.W.mg_of X G a8⟩
  have F9 := fun_mk (st := s_full_size) l9 c9 k9
  have d_full_size : D K mg "full_size" s_full_size ["term"] _ _ := ⟨F9, F9.binds (ps := ["term"]) fun _ _ _ _ _ _ us hl => match us, hl with | [_], _ => rfl, PySem.W.mg_of X G a9⟩
  have F10 := fun_mk (st := s_check_full_expansion) l10 c10 k10
  have d_check_full_expansion : D K mg "check_full_expansion" s_check_full_expansion ["term"] _ _ := ⟨F10, F10.binds (ps := ["term"]) fun _ _ _ _ _ _ us hl => match us, hl with | [_], _ => rfl, PySem.W.mg_of X G a10⟩
  have F11 := fun_mk (st := s_spread) l11 c11 k11
  have d_spread : D K mg "spread" s_spread ["pool", "acting", "number"] _ _ := ⟨F11, F11.binds (ps := ["pool", "acting", "number"]) fun _ _ _ _ _ _ us hl => match us, hl with | [_, _, _], _ => rfl, PySem.W.mg_of X G a11⟩
  have F12 := fun_mk (st := s_full_number) l12 c12 k12
  have d_full_number : D K mg "full_number" s_full_number ["pool", "number"] _ _ := ⟨F12, F12.binds (ps := ["pool", "number"]) fun _ _ _ _ _ _ us hl => match us, hl with | [_, _], _ => rfl, PySem.W.mg_of X G a12⟩
  have F13 := fun_mk (st := s_places_below) l13 c13 k13
  have d_places_below : D K mg "places_below" s_places_below ["pool", "number", "path"] _ _ := ⟨F13, F13.binds (ps := ["pool", "number", "path"]) fun _ _ _ _ _ _ us hl => match us, hl with | [_, _, _], _ => rfl, PySem.W.mg_of X G a13⟩
  have F14 := fun_mk (st := s_full_paths) l14 c14 k14
  have d_full_paths : D K mg "full_paths" s_full_paths ["pool", "number", "path"] _ _ := ⟨F14, F14.binds (ps := ["pool", "number", "path"]) fun _ _ _ _ _ _ us hl => match us, hl with | [_, _, _], _ => rfl, PySem.W.mg_of X G a14⟩
  have F15 := fun_mk (st := s_full_expansion_paths) l15 c15 k15
  have d_full_expansion_paths : D K mg "full_expansion_paths" s_full_expansion_paths ["term"] _ _ := ⟨F15, F15.binds (ps := ["term"]) fun _ _ _ _ _ _ us hl => match us, hl with | [_], _ => rfl, PySem.W.mg_of X G a15⟩
  have F16 := fun_mk (st := s__law_expansion_size) l16 c16 k16
  have d__law_expansion_size : D K mg "_law_expansion_size" s__law_expansion_size ["_law_term_here"] _ _ := ⟨F16, F16.binds (ps := ["_law_term_here"]) fun _ _ _ _ _ _ us hl => match us, hl with | [_], _ => rfl, PySem.W.mg_of X G a16⟩
  have F17 := fun_mk (st := s__law_substitute) l17 c17 k17
  have d__law_substitute : D K mg "_law_substitute" s__law_substitute ["_law_term_here", "_law_on"] _ _ := ⟨F17, F17.binds (ps := ["_law_term_here", "_law_on"]) fun _ _ _ _ _ _ us hl => match us, hl with | [_, _], _ => rfl, PySem.W.mg_of X G a17⟩
  have F18 := fun_mk (st := s__law_full_expansion) l18 c18 k18
  have d__law_full_expansion : D K mg "_law_full_expansion" s__law_full_expansion ["_law_term_here"] _ _ := ⟨F18, F18.binds (ps := ["_law_term_here"]) fun _ _ _ _ _ _ us hl => match us, hl with | [_], _ => rfl, PySem.W.mg_of X G a18⟩
  have F19 := fun_mk (st := s__law_expanded) l19 c19 k19
  have d__law_expanded : D K mg "_law_expanded" s__law_expanded ["_law_some"] _ _ := ⟨F19, F19.binds (ps := ["_law_some"]) fun _ _ _ _ _ _ us hl => match us, hl with | [_], _ => rfl, PySem.W.mg_of X G a19⟩
  have F20 := fun_mk (st := s__law_subterm) l20 c20 k20
  have d__law_subterm : D K mg "_law_subterm" s__law_subterm ["_law_term_here", "_law_spot"] _ _ := ⟨F20, F20.binds (ps := ["_law_term_here", "_law_spot"]) fun _ _ _ _ _ _ us hl => match us, hl with | [_, _], _ => rfl, PySem.W.mg_of X G a20⟩
  have F21 := fun_mk (st := s__law_replace) l21 c21 k21
  have d__law_replace : D K mg "_law_replace" s__law_replace ["_law_term_here", "_law_spot", "_law_new"] _ _ := ⟨F21, F21.binds (ps := ["_law_term_here", "_law_spot", "_law_new"]) fun _ _ _ _ _ _ us hl => match us, hl with | [_, _, _], _ => rfl, PySem.W.mg_of X G a21⟩
  have F22 := fun_mk (st := s__law_rewrite) l22 c22 k22
  have d__law_rewrite : D K mg "_law_rewrite" s__law_rewrite ["_law_term_here", "_law_spot", "_law_onward"] _ _ := ⟨F22, F22.binds (ps := ["_law_term_here", "_law_spot", "_law_onward"]) fun _ _ _ _ _ _ us hl => match us, hl with | [_, _, _], _ => rfl, PySem.W.mg_of X G a22⟩
  have F23 := fun_mk (st := s_law) l23 c23 k23
  have d_law : D K mg "law" s_law ["_law_script"] _ _ := ⟨F23, F23.binds (ps := ["_law_script"]) fun _ _ _ _ _ _ us hl => match us, hl with | [_], _ => rfl, PySem.W.mg_of X G a23⟩
  have B : Blt mg := ⟨PySem.W.mg_none_of X G z_len, PySem.W.mg_none_of X G z_list, PySem.W.mg_none_of X G z_tuple, PySem.W.mg_none_of X G z_dict, PySem.W.mg_none_of X G z_bool, PySem.W.mg_none_of X G z_isinstance, PySem.W.mg_none_of X G z_max, PySem.W.mg_none_of X G z_min, PySem.W.mg_none_of X G z_range, PySem.W.mg_none_of X G z_all, PySem.W.mg_none_of X G z_sorted, PySem.W.mg_none_of X G z_enumerate, PySem.W.mg_none_of X G z_sum, PySem.W.mg_none_of X G z_str, PySem.W.mg_none_of X G z_int⟩
  have C : Cst mg := ⟨⟨_, PySem.W.mg_of X G q_MAX_SIZE⟩, ⟨_, PySem.W.mg_of X G q_MAX_DEPTH⟩⟩
  have MF0 := fun_mk (st := s_PInit) ml0 mc0 mk0
  have mb0 := MF0.binds (ps := ["self"]) fun _ _ _ _ _ _ us hl => match us, hl with | [_], _ => rfl
  have MF1 := fun_mk (st := s_PPair) ml1 mc1 mk1
  have mb1 := MF1.binds (ps := ["self", "left", "right"]) fun _ _ _ _ _ _ us hl => match us, hl with | [_, _, _], _ => rfl
  have MF2 := fun_mk (st := s_PNum) ml2 mc2 mk2
  have mb2 := MF2.binds (ps := ["self", "term"]) fun _ _ _ _ _ _ us hl => match us, hl with | [_, _], _ => rfl
  have T : PoolT K mg Cp := ⟨⟨cpg, chd, cpo, csa⟩, cn0, cn1, cn2, cn3, PySem.W.mg_of X G aC⟩
  exact ⟨PySem.W.fnOf "law" "law" (defArgs s_law) (defBody s_law) (defScope s_law) .none kV23 dc23 pm23 an23 cd23 ct23, fun s v => .of_eq rfl, fun base _ _ => ok_law d_law B C T ⟨_, PySem.W.mg_of X G q_GENERATOR⟩ ⟨_, PySem.W.mg_of X G q_MAX_FULL_SIZE⟩ ⟨cmk, ma0, mi0, ckc⟩ MF0 mb0 MF1 mb1 ⟨ma1, mi1, mk1⟩ MF2 mb2 ⟨ma2, mi2, mk2⟩ d__law_draws d__law_draw d__law_same d__law_term d__law_comb d__law_any_term d__law_subterm d__law_replace d__law_expanded d__law_rewrite d__law_expansion_size d__law_substitute d__law_full_expansion d_is_term d_is_pair d_check_term d_full_size d_check_full_expansion d_spread d_full_number d_places_below d_full_paths d_full_expansion_paths⟩
theorem walk {l : PySem.W.OpenLaw} {q : Program} {loose : List Str} {XP : (Str → Option Value) → Heap → Prop} {YP : World → Heap → Prop} {d : DefRec} {K : Params → PySem.W.Frag} (hn : l.most = some 63) (hdf : d.params.defaults = [])
    (hY : ∀ (w : World) (h : Heap), YP w h → (K w.params).In h)
    (F : ∀ (w : World) (mg : Str → Option Value) (fa : Addr) (h : Heap), (K w.params).In h → h.Ns mainGlobals mg → mg d.name = some (.ref fa) →
      ∃ fd : FuncData, (∀ (s : Shared) (u : Value), BindsTo s fd ⟨[u], []⟩ [("_law_script", u)]) ∧ ∀ base : Heap, (K w.params).In base → base.Ns mainGlobals mg → FnOk l.prog w (K w.params) mg base CX0 64 fa fd ["_law_script"] (spLaw (K w.params))) :
    PySem.W.WalkO q loose XP YP l.row.toRowW d [] (fun f vs => PySem.call f vs) :=
  L2.walk_of (n := 63) (k := 64) (x := "_law_script") (CX := fun _ => CX0) (sp := fun w => spLaw (K w.params)) hn (by decide) hdf ⟨rfl, by decide, by decide⟩ hY F (fun _ _ a ns hl _ hS => ⟨a, ns, rfl, hS, fun _ => rfl⟩) fun _ _ _ _ _ z => z
end U
open PySem PySem.W PyProof.Rows
set_option maxRecDepth 100000 in
set_option maxHeartbeats 0 in
theorem PySem.Challenge.cw_uponboth_k12_whole_full_expansion_paths_holds : PySem.Challenge.rw_uponboth_k12_whole_full_expansion_paths.Holds := by
  w_on; o_law; k_head; (case hw => w_witness2)
  k_fill
  refine U.walk (l := PySem.Challenge.rw_uponboth_k12_whole_full_expansion_paths) rfl rfl (fun w h Y => PySem.W.kIn_of Y) ?F
  case F =>
    intro w mg fa h KX G hmg
    refine' U.all_mk KX G hmg ?a0 ?l0 ?c0 ?k0 ?a1 ?l1 ?c1 ?k1 ?a2 ?l2 ?c2 ?k2 ?a3 ?l3 ?c3 ?k3 ?a4 ?l4 ?c4 ?k4 ?a5 ?l5 ?c5 ?k5 ?a6 ?l6 ?c6 ?k6 ?a7 ?l7 ?c7 ?k7 ?a8 ?l8 ?c8 ?k8 ?a9 ?l9 ?c9 ?k9 ?a10 ?l10 ?c10 ?k10 ?a11 ?l11 ?c11 ?k11 ?a12 ?l12 ?c12 ?k12 ?a13 ?l13 ?c13 ?k13 ?a14 ?l14 ?c14 ?k14 ?a15 ?l15 ?c15 ?k15 ?a16 ?l16 ?c16 ?k16 ?a17 ?l17 ?c17 ?k17 ?a18 ?l18 ?c18 ?k18 ?a19 ?l19 ?c19 ?k19 ?a20 ?l20 ?c20 ?k20 ?a21 ?l21 ?c21 ?k21 ?a22 ?l22 ?c22 ?k22 ?a23 ?l23 ?c23 ?k23 ?z_len ?z_list ?z_tuple ?z_dict ?z_bool ?z_isinstance ?z_max ?z_min ?z_range ?z_all ?z_sorted ?z_enumerate ?z_sum ?z_str ?z_int ?q_MAX_SIZE ?q_MAX_DEPTH ?q_GENERATOR ?q_MAX_FULL_SIZE ?aC ?ma0 ?mi0 ?ml0 ?mc0 ?mk0 ?ma1 ?mi1 ?ml1 ?mc1 ?mk1 ?ma2 ?mi2 ?ml2 ?mc2 ?mk2 ?cpg ?chd ?cpo ?csa ?cmk ?ckc ?cn0 ?cn1 ?cn2 ?cn3
    (case a0 => k_is)
    (case l0 => k_is)
    (case c0 => k_is)
    (case k0 => k_is)
    (case a1 => k_is)
    (case l1 => k_is)
    (case c1 => k_is)
    (case k1 => k_is)
    (case a2 => k_is)
    (case l2 => k_is)
    (case c2 => k_is)
    (case k2 => k_is)
    (case a3 => k_is)
    (case l3 => k_is)
    (case c3 => k_is)
    (case k3 => k_is)
    (case a4 => k_is)
    (case l4 => k_is)
    (case c4 => k_is)
    (case k4 => k_is)
    (case a5 => k_is)
    (case l5 => k_is)
    (case c5 => k_is)
    (case k5 => k_is)
    (case a6 => k_is)
    (case l6 => k_is)
    (case c6 => k_is)
    (case k6 => k_is)
    (case a7 => k_is)
    (case l7 => k_is)
    (case c7 => k_is)
    (case k7 => k_is)
    (case a8 => k_is)
    (case l8 => k_is)
    (case c8 => k_is)
    (case k8 => k_is)
    (case a9 => k_is)
    (case l9 => k_is)
    (case c9 => k_is)
    (case k9 => k_is)
    (case a10 => k_is)
    (case l10 => k_is)
    (case c10 => k_is)
    (case k10 => k_is)
    (case a11 => k_is)
    (case l11 => k_is)
    (case c11 => k_is)
    (case k11 => k_is)
    (case a12 => k_is)
    (case l12 => k_is)
    (case c12 => k_is)
    (case k12 => k_is)
    (case a13 => k_is)
    (case l13 => k_is)
    (case c13 => k_is)
    (case k13 => k_is)
    (case a14 => k_is)
    (case l14 => k_is)
    (case c14 => k_is)
    (case k14 => k_is)
    (case a15 => k_is)
    (case l15 => k_is)
    (case c15 => k_is)
    (case k15 => k_is)
    (case a16 => k_is)
    (case l16 => k_is)
    (case c16 => k_is)
    (case k16 => k_is)
    (case a17 => k_is)
    (case l17 => k_is)
    (case c17 => k_is)
    (case k17 => k_is)
    (case a18 => k_is)
    (case l18 => k_is)
    (case c18 => k_is)
    (case k18 => k_is)
    (case a19 => k_is)
    (case l19 => k_is)
    (case c19 => k_is)
    (case k19 => k_is)
    (case a20 => k_is)
    (case l20 => k_is)
    (case c20 => k_is)
    (case k20 => k_is)
    (case a21 => k_is)
    (case l21 => k_is)
    (case c21 => k_is)
    (case k21 => k_is)
    (case a22 => k_is)
    (case l22 => k_is)
    (case c22 => k_is)
    (case k22 => k_is)
    (case a23 => k_is)
    (case l23 => k_is)
    (case c23 => k_is)
    (case k23 => k_is)
    (case z_len => k_is)
    (case z_list => k_is)
    (case z_tuple => k_is)
    (case z_dict => k_is)
    (case z_bool => k_is)
    (case z_isinstance => k_is)
    (case z_max => k_is)
    (case z_min => k_is)
    (case z_range => k_is)
    (case z_all => k_is)
    (case z_sorted => k_is)
    (case z_enumerate => k_is)
    (case z_sum => k_is)
    (case z_str => k_is)
    (case z_int => k_is)
    (case q_MAX_SIZE => k_is)
    (case q_MAX_DEPTH => k_is)
    (case q_GENERATOR => k_is)
    (case q_MAX_FULL_SIZE => k_is)
    (case aC => k_is)
    (case ma0 => k_is)
    (case mi0 => k_is)
    (case ml0 => k_is)
    (case mc0 => k_is)
    (case mk0 => k_is)
    (case ma1 => k_is)
    (case mi1 => k_is)
    (case ml1 => k_is)
    (case mc1 => k_is)
    (case mk1 => k_is)
    (case ma2 => k_is)
    (case mi2 => k_is)
    (case ml2 => k_is)
    (case mc2 => k_is)
    (case mk2 => k_is)
    (case cpg => k_is)
    (case chd => k_is)
    (case cpo => k_is)
    (case csa => k_is)
    (case cmk => k_is)
    (case ckc => k_is)
    (case cn0 => k_is)
    (case cn1 => k_is)
    (case cn2 => k_is)
    (case cn3 => k_is)
