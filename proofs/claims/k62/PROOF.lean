import PyProof.Rows.All
import Wide.All
import OpenK.AllK
import Wide.FinOn
import HandS.Base
import HandS.Call
import HandS.List
import HandS.Comp
import HandS.Ends
import HandS.Words
import HandS.WordsList
import HandS.IsInst
import HandS.Codes
import HandS.ForMost
import HandS.ForExc
import HandS.FStr
import HandS.Style
import HandS.Hot
import HandS.HotCalls
import HandS.Lambda
import HandS.ExcIs
import HandS.Rev
import HandS.More
import HandS.StrMore
import PyProof.StrBlock2
import PyProof.FactsAll.list_3
import HandS.TupAny
import HandS.TupMul
import HandS.Defaults
import KE.KRevSl
import KE.KDflt
import KE.GoesMore
import HandS.EndTab
import HandS.EndOwn
import KE.KNestM
import HandS.Conv
import HandS.Iter
import HandS.SortInts
import HandS.Star
import HandS.Nested
import HandS.ExcOwn
import HandS.ExcInit
import HandS.ExcField
import KE.KExcSuper
import KE.KExcIs
import KE.RegKSuper
import HandS.Dict
import HandS.More
import HandS.Wide
import HandS.Steps
import HandS.ListItems
import KE.KIntText
import PySem.Challenge.RW_uponboth_k62_definitions_one_by_one
set_option Elab.async false
set_option linter.all false
set_option maxRecDepth 100000
set_option maxHeartbeats 4000000
namespace U
open PySem L2
/-! ### what stands behind the top: a def by its name; the built-in names -/
structure D (K : PySem.W.Frag) (mg : Str → Option Value) (x : Str) (st : Stmt) (ps : List Str) (f : Addr) (fd : FuncData) : Prop where
  F : Fun K x x st f fd
  b : Binds K fd ps []
  m : mg x = some (.ref f)

/-! ### trees -/
inductive Tree where
  | L
  | N (l r : Tree)
namespace Tree
def sz : Tree → Nat
  | L => 1
  | N l r => sz l + sz r
def dp : Tree → Nat
  | L => 0
  | N l r => max (dp l) (dp r) + 1
def d : Tree → PyData
  | L => .tuple []
  | N l r => .tuple [d l, d r]
theorem sz_pos : ∀ t : Tree, 0 < t.sz
  | L => Nat.zero_lt_one
  | N l r => by
    have h := sz_pos l
    show 0 < l.sz + r.sz
    omega
theorem d_lay : ∀ t : Tree, t.d.canLay0 = true
  | L => rfl
  | N l r => by
    show ((PyData.canLay0 l.d) && ((PyData.canLay0 r.d) && true)) = true
    rw [d_lay l, d_lay r]
    rfl
theorem d_depth : ∀ t : Tree, t.d.depth = t.dp + 1
  | L => rfl
  | N l r => by
    show max l.d.depth (max r.d.depth 0) + 1 = max l.dp r.dp + 1 + 1
    rw [d_depth l, d_depth r]
    omega
theorem shaped {t : Tree} (h : t.dp ≤ 63) : SeqAt.shaped t.d = true := by
  unfold SeqAt.shaped
  rw [d_lay, d_depth, decide_eq_true (by omega)]
  rfl
def isL : Tree → Bool
  | L => true
  | N _ _ => false
theorem eqvL (t : Tree) : PyData.eqv t.d (.tuple []) = t.isL := by cases t <;> rfl
end Tree
abbrev TA (K : PySem.W.Frag) (H : Hp) (v : V) (t : Tree) : Prop := Dp K H v t.d
theorem shapedE : SeqAt.shaped (.tuple []) = true := by decide +kernel

/-! ### heaps: what is a tuple stays one -/
def Tp (H H' : Hp) : Prop := ∀ b xs, Rd H b (.tup xs) → Rd H' b (.tup xs)
theorem Tp.refl (H : Hp) : Tp H H := fun _ _ h => h
theorem Tp.trans {H H1 H2 : Hp} (a : Tp H H1) (b : Tp H1 H2) : Tp H H2 := fun c o h => b c o (a c o h)
theorem Tp.same {H H' : Hp} (e : Same H H') : Tp H H' := fun b xs h => by
  rcases h with h | ⟨o, h⟩
  · exact .inl (e _ _ h)
  · exact .inr ⟨o, e _ _ h⟩
def But (r : Addr) (H H' : Hp) : Prop := ∀ b o, b ≠ r → H b = some o → H' b = some o
theorem But.trans {r : Addr} {H H1 H2 : Hp} (a : But r H H1) (b : But r H1 H2) : But r H H2 := fun c o n h => b c o n (a c o n h)
theorem But.same {r : Addr} {H H' : Hp} (e : Same H H') : But r H H' := fun b o _ h => e b o h
theorem But.set {r : Addr} {H : Hp} {o : HO} : But r H (upd H r o) := fun b z n h => by rw [upd_ne n]; exact h
theorem Tp.but {r : Addr} {H H' : Hp} {ys : List V} (hr : H r = some (.lst ys)) (e : But r H H') : Tp H H' := fun b xs h => by
  rcases h with h | ⟨o, h⟩
  · exact .inl (e _ _ (ne_of h hr (by intro z; cases z)) h)
  · exact .inr ⟨o, e _ _ (ne_of h hr (by intro z; cases z)) h⟩
theorem Same.new {H : Hp} {p : Addr} (h : H p = none) (o : HO) : Same H (upd H p o) := fun b u q => by rw [upd_ne (ne_of_none q h)]; exact q
theorem Tp.sqT {K : PySem.W.Frag} {H H' : Hp} {a : Addr} {xs : List V} (e : Tp H H') (h : SqT K H a xs) : SqT K H' a xs := by
  rcases h with h | h
  · exact .inl (e _ _ h)
  · exact .inr h
theorem SqT.here {K : PySem.W.Frag} {H : Hp} {a : Addr} {xs : List V} (h : H a = some (.tup xs)) : SqT K H a xs := .inl (.inl h)
theorem SqL.here {K : PySem.W.Frag} {H : Hp} {a : Addr} {xs : List V} (h : H a = some (.lst xs)) : SqL K H a xs := .inl (.inl h)

section
variable {K : PySem.W.Frag} {H H' : Hp}
theorem ta_leaf {a : Addr} (h : SqT K H a []) : TA K H (.ref a) .L := Dp.tup h .nil
theorem ta_node {a : Addr} {x y : V} {l r : Tree} (h : SqT K H a [x, y]) (hl : TA K H x l) (hr : TA K H y r) : TA K H (.ref a) (.N l r) := Dp.tup h (.cons hl (.cons hr .nil))
theorem ta_invL {v : V} (h : TA K H v .L) : ∃ a, v = .ref a ∧ SqT K H a [] := by
  cases h with
  | tup hs ha =>
    cases ha
    exact ⟨_, rfl, hs⟩
theorem ta_invN {v : V} {l r : Tree} (h : TA K H v (.N l r)) : ∃ a x y, v = .ref a ∧ SqT K H a [x, y] ∧ TA K H x l ∧ TA K H y r := by
  cases h with
  | tup hs ha =>
    cases ha with
    | cons h1 h2 =>
      cases h2 with
      | cons h3 h4 =>
        cases h4
        exact ⟨_, _, _, rfl, hs, h1, h3⟩
theorem ta_inv : ∀ {v : V} {t : Tree}, TA K H v t → ∃ a xs, v = .ref a ∧ SqT K H a xs
  | _, .L, h => by
    obtain ⟨a, e, q⟩ := ta_invL h
    exact ⟨a, _, e, q⟩
  | _, .N _ _, h => by
    obtain ⟨a, x, y, e, q, _⟩ := ta_invN h
    exact ⟨a, _, e, q⟩
theorem ta_mono (e : Tp H H') : ∀ {t : Tree} {v : V}, TA K H v t → TA K H' v t
  | .L, v, h => by
    obtain ⟨a, rfl, q⟩ := ta_invL h
    exact ta_leaf (e.sqT q)
  | .N l r, v, h => by
    obtain ⟨a, x, y, rfl, q, h1, h2⟩ := ta_invN h
    exact ta_node (e.sqT q) (ta_mono e h1) (ta_mono e h2)
mutual
theorem dp_same (e : Same H H') : ∀ (d : PyData) {v : V}, Dp K H v d → Dp K H' v d
  | .none, _, h => by
    cases h
    exact .non
  | .bool b, _, h => by
    cases h
    exact .bl b
  | .int i, _, h => by
    cases h
    exact .int i
  | .str x, _, h => by
    cases h
    exact .str x
  | .list ds, _, h => by
    cases h with
    | lst hs ha => exact .lst (e.seq hs) (dp_sameAll e ds ha)
  | .tuple ds, _, h => by
    cases h with
    | tup hs ha => exact .tup ((Tp.same e).sqT hs) (dp_sameAll e ds ha)
  | .dict _, _, h => by cases h
theorem dp_sameAll (e : Same H H') : ∀ (ds : List PyData) {vs : List V}, DpAll K H vs ds → DpAll K H' vs ds
  | [], _, h => by
    cases h
    exact .nil
  | d :: ds, _, h => by
    cases h with
    | cons h1 h2 => exact .cons (dp_same e d h1) (dp_sameAll e ds h2)
end
end
theorem one_le : 1 ≤ sizeLine := by decide
theorem two_le : 2 ≤ sizeLine := by decide
theorem zero_le' : 0 ≤ sizeLine := by decide
theorem four_le : 4 ≤ sizeLine := by decide
theorem ite_eq {b c : Bool} {A B : Prop} (e : b = c) (h : if c = true then A else B) : if b = true then A else B := e ▸ h
theorem ite_yes {b : Bool} {A B : Prop} (e : b = true) (h : A) : if b = true then A else B := by rw [if_pos e]; exact h
theorem ite_no {b : Bool} {A B : Prop} (e : b = false) (h : B) : if b = true then A else B := by rw [e]; exact iteF h
theorem tyx_tup {K : PySem.W.Frag} {H : Hp} {a : Addr} {xs : List V} (h : SqT K H a xs) : TyX K H (.ref a) (.type "tuple") := by
  rcases h with (h | ⟨o, h⟩) | ⟨o, its, n, h, c, _⟩
  · exact .base (.tup h)
  · exact .fTuple h
  · exact .kTuple h c
theorem tyx_lst {K : PySem.W.Frag} {H : Hp} {a : Addr} {xs : List V} (h : SqL K H a xs) : TyX K H (.ref a) (.type "list") := by
  rcases h with (h | ⟨o, h⟩) | ⟨o, its, n, h, c, _⟩
  · exact .base (.lst h)
  · exact .base (.frz h)
  · exact .kList h c
def Tree.nodes : Tree → Nat
  | .L => 1
  | .N l r => l.nodes + r.nodes + 1
/-! ### enumerate(a text): each sign in a new pair -/
def ItES (z : Str) : It :=
  ⟨fun j _ => j < z.cps.size, fun j G v G' => ∃ q c, v = .ref q ∧ G q = none ∧ G' = upd G q (.tup [.int (j : Nat), .str ⟨#[c]⟩]) ∧ z.cps[j]? = some c, fun j _ => z.cps.size ≤ j⟩
theorem draws_text {Pr : Program} {wo : World} {Ar : Around} (calm : Ar.handled = none) (it : Addr) (z : Str) (tk : Tok) :
    PySem.Draws Pr wo Ar it [it] z.cps.size (fun j v => ∃ c u, z.cps[j]? = some c ∧ v = .str ⟨#[c]⟩ u) (fun j g => g.IsStrIter it (PySem.strIterType z) z tk j) := by
  unfold PySem.strIterType
  cases z.cps.all (· < 128)
  · exact PySem.Draws.strWide calm it z tk
  · exact PySem.Draws.strAscii calm it z tk
theorem turn_ES {Pr : Program} {wo : World} {Kf : PySem.W.Frag} {ts : List Expr} {nn : Nat} {tp : Pos} (en it : Addr) (z : Str) (tk : Tok) :
    Turn Pr wo Kf (.Tuple ts nn tp) (ItES z) [en, it] en (fun j g => (∃ old, PySem.IsEnum g en it ((j : Nat) : Int) old) ∧ g.IsStrIter it (PySem.strIterType z) z tk j ∧ en ≠ it ∧ j ≤ z.cps.size) where
  mem := List.mem_cons_self
  obj := fun j g st b hb => by
    obtain ⟨⟨old, h1⟩, ⟨ob, h2, h3, h4⟩, _⟩ := st
    rcases List.mem_cons.mp hb with rfl | hb
    · exact ⟨_, h1, fun v q => nomatch q⟩
    · cases List.mem_singleton.mp hb
      refine ⟨ob, h2, fun v q => ?_⟩
      rw [h4] at q
      cases q
  keep := fun j g g' st kk => by
    obtain ⟨⟨old, h1⟩, ⟨ob, h2, h3⟩, h5⟩ := st
    exact ⟨⟨old, kk en List.mem_cons_self _ h1⟩, ⟨ob, kk it (List.mem_cons_of_mem _ List.mem_cons_self) _ h2, h3⟩, h5⟩
  item := by
    intro X e1 e2 e3 calm j pins s σ G Ex inv fp st lt
    cases e1
    cases e2
    cases e3
    obtain ⟨⟨old, h1⟩, h2, ne, le⟩ := st
    have l1 : en < s.heap.objs.size := Heap.lt_size h1
    have l2 : it < s.heap.objs.size := by
      obtain ⟨_, y, _⟩ := h2
      exact Heap.lt_size y
    refine PySem.wpAny_pyNext_enum_itemD (draws_text (show X.A.in1.handled = none from inv.ok.hd calm) it z tk) h1 h2 lt ne (fun y => ne (List.mem_singleton.mp y)) fun u g' t2 hu out h2' hT sz kp => ?_
    obtain ⟨c, u', hc, rfl⟩ := hu
    refine ⟨_, rfl, PySem.wpAny_letOwnedTupleGo_enum (s := { s with heap := g', toks := t2 + 1 }) out fun g'' h1' sb => ?_⟩
    have hT' : g''.get? s.heap.objs.size = some { cls := .type "tuple", data := .seq #[.int j t2, .str ⟨#[c]⟩ u'] } := (sb.2 _ (Nat.ne_of_gt l1)).trans hT
    have made : ObjOk X.prog X.w (upd G s.heap.objs.size (.tup [.int (j : Nat), .str ⟨#[c]⟩])) g'' s.heap.objs.size (.tup [.int (j : Nat), .str ⟨#[c]⟩]) :=
      ⟨two_le, [.int j t2, .str ⟨#[c]⟩ u'], .cons ⟨_, rfl⟩ (.cons ⟨_, rfl⟩ .nil), ⟨_, hT', rfl, _, rfl⟩⟩
    have inv' : Inv X pins σ (upd G s.heap.objs.size (.tup [.int (j : Nat), .str ⟨#[c]⟩])) { s with heap := g'', toks := t2 + 1 } := by
      refine Inv.turnedNew (ch := [en, it]) inv (fun b ob nb y => ?_) fp (Nat.le_refl _) made
      have n1 : b ≠ en := fun y => nb (by rw [y]; exact List.mem_cons_self)
      have n2 : b ≠ it := fun y => nb (by rw [y]; exact List.mem_cons_of_mem _ List.mem_cons_self)
      exact (sb.2 b n1).trans (kp b ob n1 n2 y)
    refine ⟨.ref s.heap.objs.size, _, inv', rfl, ⟨_, c, rfl, inv.hok.fresh (Nat.le_refl _), rfl, hc⟩, ⟨⟨.str ⟨#[c]⟩ u', ?_⟩, ?_, ne, lt⟩, fun b hb => ?_⟩
    · rw [show (((j + 1 : Nat) : Nat) : Int) = (j : Int) + 1 by omega]
      exact h1'
    · obtain ⟨ob, y1, y2⟩ := h2'
      exact ⟨ob, (sb.2 it (Ne.symm ne)).trans y1, y2⟩
    · have lb : b < s.heap.objs.size := by
        rcases List.mem_cons.mp hb with rfl | hb
        · exact l1
        · cases List.mem_singleton.mp hb
          exact l2
      rw [upd_ne (Nat.ne_of_lt lb)]
      exact (fp b hb).1
  done := by
    intro X e1 e2 e3 calm j pins s σ G Ex inv fp st ge
    cases e1
    cases e2
    cases e3
    obtain ⟨⟨old, h1⟩, h2, ne, le⟩ := st
    have ej : j = z.cps.size := Nat.le_antisymm le ge
    subst ej
    obtain ⟨f0, f1, f2, f3, f4, f5⟩ := fp it (List.mem_cons_of_mem _ List.mem_cons_self)
    exact PySem.wpAny_pyNext_enum_endD (draws_text (show X.A.in1.handled = none from inv.ok.hd calm) it z tk) h1 h2 fun g' eb => ⟨rfl, inv.turned (t' := s.toks) (fun b o nb y => eb b o nb y) f0 f1 f3 f4 f5⟩
  self := fun Ar j s Q Ex st y => by
    obtain ⟨⟨_, h1⟩, _⟩ := st
    exact PySem.wpAny_pyIter_enum h1 y
def iES (ta : L2.TA) : TI := fun σ G R => ta σ G fun vs G1 => ∃ z : Str, vs = [.str z] ∧ R (ItES z) G1
theorem pi_ES {X : Cx} {ex : Expr} {ta : L2.TA} {p pos tp : Pos} {ts : List Expr} {nn : Nat} (gl : Gl X "enumerate") (mm : X.mg "enumerate" = none) (ha : PA X [ex] ta) (hs : starEach [ex] X.env = [(false, eval ex X.env)] := by rfl) :
    PI X (.Tuple ts nn tp) (.Call (.Name "enumerate" p) [ex] [] pos) (iES ta) := by
  refine ⟨fun pins s σ G R inv y => ?_⟩
  refine PyProof.Rows.Call_ (ld_blt inv gl mm PyProof.Rows.boot_enumerate (PyProof.Rows.callWith_type1 (thn (ha.run pos pins s σ G _ inv y) fun us s1 ⟨vs, G1, inv1, r1, q1⟩ => ?_) hs rfl))
  obtain ⟨z, rfl, q⟩ := q1
  cases r1 with
  | cons r rr =>
    cases rr
    obtain ⟨tk, rfl⟩ := r
    refine PySem.call_enumerate_str fun g' h1 h2 sz kp => PySem.wpAny_pyIter_enum h1 ?_
    refine ⟨s1.heap.objs.size + 1, [s1.heap.objs.size + 1, s1.heap.objs.size], _, _, G1, rfl, inv1.kept (t' := s1.toks) kp, turn_ES (s1.heap.objs.size + 1) s1.heap.objs.size z tk, ⟨⟨.none, h1⟩, h2, Nat.succ_ne_self _, Nat.zero_le _⟩, fun b hb => ?_, q⟩
    have ge : s1.heap.objs.size ≤ b := by
      rcases List.mem_cons.mp hb with rfl | hb
      · exact Nat.le_succ _
      · cases List.mem_singleton.mp hb
        exact Nat.le_refl _
    exact inv1.fpOk ge (inv1.hok.fresh ge)
theorem for_ES {z : Str} {g : TG} {tb : TS} {D : Ends} {σ : L2.St} {G : Hp} (Pv : Nat → L2.St → Hp → Prop) (h0 : Pv 0 σ G)
    (hs : ∀ j c σ G, z.cps[j]? = some c → Pv j σ G → ∀ q, G q = none → g (.ref q) σ (upd G q (.tup [.int (j : Nat), .str ⟨#[c]⟩])) fun σ2 G2 => tb { D with nx := Pv (j + 1), ct := Pv (j + 1), bk := D.nx } σ2 G2) (hd : ∀ σ G, Pv z.cps.size σ G → D.nx σ G) :
    ∃ Wd : Nat → Nat → L2.St → Hp → Prop, (∃ m, Wd 0 m σ G) ∧ ∀ j m σ G, Wd j m σ G →
      ((ItES z).stop j G ∧ D.nx σ G) ∨ ((ItES z).go j G ∧ ∃ Nn : L2.St → Hp → Prop, (∀ σ' G', Nn σ' G' → ∃ m', m' < m ∧ Wd (j + 1) m' σ' G') ∧ ∀ v G', (ItES z).yld j G v G' → g v σ G' fun σ2 G2 => tb { D with nx := Nn, ct := Nn, bk := D.nx } σ2 G2) := by
  refine ⟨fun j m σ G => m = z.cps.size - j ∧ j ≤ z.cps.size ∧ Pv j σ G, ⟨_, rfl, Nat.zero_le _, h0⟩, ?_⟩
  rintro j m σ G ⟨rfl, le, pv⟩
  rcases Nat.lt_or_ge j z.cps.size with lt | ge
  · refine .inr ⟨lt, Pv (j + 1), fun σ' G' y => ⟨z.cps.size - (j + 1), by omega, rfl, lt, y⟩, fun v G' y => ?_⟩
    obtain ⟨q, c, rfl, nq, rfl, hc⟩ := y
    exact hs j c σ G hc pv q nq
  · have ej : j = z.cps.size := Nat.le_antisymm le ge
    subst ej
    exact .inl ⟨Nat.le_refl _, hd σ G pv⟩
/-! ### iterators at their end while an exception is handled -/
section
variable {Pr : Program} {wo : World} {Ar : Around} {Ex : Value → Shared → Prop} {st : Shared}
open HotX
/-- a StopIteration, made and raised there: all that stood stands -/
theorem stop_hot {α : Type} {xh : Addr} {Qa : α → Shared → Prop} (hot : HotAt Ar xh st.heap) (k : ∀ g (a : Addr), (∀ b o, st.heap.get? b = some o → g.get? b = some o) → (∃ o, g.get? a = some o ∧ o.cls = .type "StopIteration") → Ex (.ref a) { st with heap := g }) :
    wpAny (model Pr wo) Ar (newExc (.type "StopIteration") [] >>= fun e => (raiseNew e : Sem α)) Qa Ex st := by
  obtain ⟨hh, oe, ve, e1, e2, e3⟩ := hot
  simp only [newExc, newTuple]
  refine wpAny_bind (wpAny_bind (wpAny_newObj_type (wpAny_bind (m := firstArgMember _ _) (wpAny_of_eq (a := Value.none) (by first | rfl | (simp only [firstArgMember]; rfl)) (wpAny_newObj_type ?_ (by size_fits)))) (by size_fits)))
  refine raiseNew_hot (x1 := xh) ⟨hh, oe, ve, Heap.get?_push_of_some _ (Heap.get?_push_of_some _ e1), e2, e3⟩ (Nat.ne_of_lt (Heap.lt_size (Heap.get?_push_of_some _ e1))) (Heap.get?_push_size _ rfl) rfl (by first | (simp; done) | (simp; omega)) ?_
  refine k _ _ (fun b o y => ?_) ⟨_, Heap.get?_update_self _ (Heap.get?_push_size _ rfl) rfl, rfl⟩
  rw [Heap.get?_update_other _ _ (Nat.ne_of_gt (Heap.lt_size (Heap.get?_push_of_some _ y)))]
  exact Heap.get?_push_of_some _ (Heap.get?_push_of_some _ y)
theorem list_end_hot {ite lis xh : Addr} {j : Nat} {its : Array Value} {Qn : Option Value → Shared → Prop} (hot : HotAt Ar xh st.heap) (nxi : xh ≠ ite) (hi : st.heap.IsListIter ite lis j) (hL : st.heap.IsList lis its) (out : its[j]? = none)
    (k : ∀ g, Heap.ExtBut ite st.heap g → Qn none { st with heap := g }) : wpAny (model Pr wo) Ar (pyNext (.ref ite)) Qn Ex st := by
  obtain ⟨oi, h1, h2, h3⟩ := id hi
  obtain ⟨ol, h4, _, nl, h5⟩ := hL
  obtain ⟨hh, oe, ve, e1, e2, e3⟩ := hot
  unfold pyNext
  refine wpAny_bind (wpAny_attempt (wpAny_callSpecial?_slot (name := Str.ofString "__next__") hi.typeIs PySem.slot_listiter_next (wpAny_call_entry PySem.slot_listiter_next hi.typeIs PySem.entry_listiter_next ?_ (PySem.args_listiter_next _))))
  show wpAny _ _ (field (.ref ite) 0 >>= _) _ _ st
  refine wpAny_bind (wpAny_field h1 h3 (x := .ref lis) rfl ?_)
  show wpAny _ _ (if (Value.ref lis == Value.none) = true then _ else _) _ _ st
  rw [if_neg (show ¬ ((Value.ref lis == Value.none) = true) from Bool.false_ne_true)]
  show wpAny _ _ (field (.ref ite) 1 >>= _) _ _ st
  refine wpAny_bind (wpAny_field h1 h3 (x := .int j 0) rfl ?_)
  show wpAny _ _ (seqItems? (.ref lis) >>= _) _ _ st
  refine wpAny_bind (wpAny_seqItems h4 h5 ?_)
  simp only [Int.toNat_natCast, out]
  refine wpAny_bind (wpAny_rule (wpAny_bind (wpAny_setField h1 h3 (by simp) ?_)))
  have hot' : HotAt Ar.in1 xh (st.heap.update ite (Obj.mapFields (·.setIfInBounds 0 Value.none))) := ⟨hh, oe, ve, by rw [Heap.get?_update_other _ _ nxi.symm]; exact e1, e2, e3⟩
  refine stop_hot hot' fun g a kp ha => ?_
  obtain ⟨oa, y1, y2⟩ := ha
  refine wpAny_bind (wpAny_isInstance (T := "StopIteration") (b := true) ⟨oa, y1, y2⟩ PySem.isSubtype_stop (wpAny_pure (k _ fun b o nb y => kp b o ?_)))
  rw [Heap.get?_update_other _ _ (Ne.symm nb)]
  exact y
theorem tuple_end_hot {ite tup xh : Addr} {j : Nat} {its : Array Value} {Qn : Option Value → Shared → Prop} (hot : HotAt Ar xh st.heap) (nxi : xh ≠ ite) (hi : PyProof.Rows.IsTupIter st.heap ite tup j) (hT : PyProof.Rows.IsTup st.heap tup its) (out : its[j]? = none)
    (k : ∀ g, Heap.ExtBut ite st.heap g → Qn none { st with heap := g }) : wpAny (model Pr wo) Ar (pyNext (.ref ite)) Qn Ex st := by
  obtain ⟨oi, h1, h2, h3⟩ := id hi
  obtain ⟨ol, h4, _, nl, h5⟩ := hT
  obtain ⟨hh, oe, ve, e1, e2, e3⟩ := hot
  unfold pyNext
  refine wpAny_bind (wpAny_attempt (wpAny_callSpecial?_slot (name := Str.ofString "__next__") hi.typeIs PySem.F.slot_tuple_iterator_next (wpAny_call_entry PySem.F.slot_tuple_iterator_next hi.typeIs PySem.F.entry_tuple_iterator_next ?_ (PySem.F.args_tuple_iterator_next_1 _))))
  show wpAny _ _ (field (.ref ite) 0 >>= _) _ _ st
  refine wpAny_bind (wpAny_field h1 h3 (x := .ref tup) rfl ?_)
  show wpAny _ _ (if (Value.ref tup == Value.none) = true then _ else _) _ _ st
  rw [if_neg (show ¬ ((Value.ref tup == Value.none) = true) from Bool.false_ne_true)]
  show wpAny _ _ (field (.ref ite) 1 >>= _) _ _ st
  refine wpAny_bind (wpAny_field h1 h3 (x := .int j 0) rfl ?_)
  show wpAny _ _ (seqItems? (.ref tup) >>= _) _ _ st
  refine wpAny_bind (wpAny_seqItems h4 h5 ?_)
  simp only [Int.toNat_natCast, out]
  refine wpAny_bind (wpAny_rule (wpAny_bind (wpAny_setField h1 h3 (by simp) ?_)))
  have hot' : HotAt Ar.in1 xh (st.heap.update ite (Obj.mapFields (·.setIfInBounds 0 Value.none))) := ⟨hh, oe, ve, by rw [Heap.get?_update_other _ _ nxi.symm]; exact e1, e2, e3⟩
  refine stop_hot hot' fun g a kp ha => ?_
  obtain ⟨oa, y1, y2⟩ := ha
  refine wpAny_bind (wpAny_isInstance (T := "StopIteration") (b := true) ⟨oa, y1, y2⟩ PySem.isSubtype_stop (wpAny_pure (k _ fun b o nb y => kp b o ?_)))
  rw [Heap.get?_update_other _ _ (Ne.symm nb)]
  exact y
/-- a, b = a tuple, there -/
theorem unpack_hot {tup xh : Addr} {its : Array Value} {Ql : List Value → Shared → Prop} (hot : HotAt Ar xh st.heap) (hT : PyProof.Rows.IsTup st.heap tup its)
    (k : ∀ g, Heap.ExtBut st.heap.objs.size st.heap g → Ql its.toList { st with heap := g }) : wpAny (model Pr wo) Ar (unpackItems (.ref tup) its.size none) Ql Ex st := by
  have nt : tup ≠ st.heap.objs.size := by
    obtain ⟨o, y, _⟩ := hT
    exact Nat.ne_of_lt (Heap.lt_size y)
  obtain ⟨hh, oe, ve, e1, e2, e3⟩ := hot
  have nx : xh ≠ st.heap.objs.size := Nat.ne_of_lt (Heap.lt_size e1)
  unfold unpackItems
  refine wpAny_bind ?_
  unfold notIterableAtAll
  refine wpAny_bind (wpAny_specialOf hT.typeIs PyProof.Rows.slot_tuple_iter.lookup (wpAny_pure ?_))
  simp only [Bool.false_eq_true, if_false]
  refine wpAny_bind (wpAny_holding (PyProof.Rows.iter_tuple hT (wpAny_bind (wpAny_holding (PyProof.Rows.draw_tuple nt its.size 0 _ _ ⟨_, Heap.get?_push_size _ rfl, rfl, rfl⟩ (hT.push _) (by omega) fun g1 hi1 sb1 => ?_)))))
  rw [show List.take its.size (List.drop 0 its.toList) = its.toList by rw [List.drop_zero]; exact List.take_of_length_le (by simp), if_neg (by simp)]
  have hT1 : PyProof.Rows.IsTup g1 tup its := (hT.push _).extBut sb1.extBut nt
  have hot1 : HotAt Ar xh g1 := ⟨hh, oe, ve, sb1.extBut _ _ nx (Heap.get?_push_of_some _ e1), e2, e3⟩
  refine wpAny_bind (wpAny_holding (tuple_end_hot (st := { st with heap := g1 }) hot1 nx hi1 hT1 (by simp) fun g2 eb2 => ?_))
  simp only [Option.isSome_none, Bool.false_eq_true, if_false]
  exact wpAny_pure (k g2 fun b o nb y => eb2 b o nb (sb1.extBut b o nb (Heap.get?_push_of_some _ y)))
end
/-! ### a context in which an exception is handled that stood when it began -/
structure HotB (X : Cx) (xh : Addr) (oh : Obj) : Prop where
  hnd : X.A.handled = some (.ref xh)
  obj : X.s_0.heap.get? xh = some oh
  dat : ∃ vs : Array Value, oh.data = .fields vs ∧ vs[2]? = some .none
  unt : X.H_0 xh = none
  nfs : xh ∉ X.fs
  nex : xh ∉ X.ex
section
variable {X : Cx} {pins : List (Addr × Obj)} {σ : L2.St} {H : Hp} {s : Shared} {xh : Addr} {oh : Obj}
theorem HotB.get (h : HotB X xh oh) (I : Inv X pins σ H s) : s.heap.get? xh = some oh := I.base.keep xh oh h.obj h.unt h.nfs h.nex
theorem HotB.hot (h : HotB X xh oh) (I : Inv X pins σ H s) : HotX.HotAt X.A xh s.heap := by
  obtain ⟨vs, d1, d2⟩ := h.dat
  exact ⟨h.hnd, oh, vs, h.get I, d1, d2⟩
theorem HotB.none (h : HotB X xh oh) (I : Inv X pins σ H s) : H xh = Option.none := I.base.free xh oh h.obj h.unt h.nex
theorem HotB.nloc (h : HotB X xh oh) (I : Inv X pins σ H s) : xh ≠ X.env.locals := fun z => by
  obtain ⟨m, ⟨o, es, ep, e1, e2, _⟩, _⟩ := I.loc
  obtain ⟨vs, d1, _⟩ := h.dat
  have g := h.get I
  rw [z, e1] at g
  cases g
  rw [d1] at e2
  cases e2
theorem HotB.blk (h : HotB X xh oh) (I : Inv X pins σ H s) (scope : Scope) (ce : Env) {fp : List Addr} (hf : xh ∉ fp) : HotB (X.blk s H scope ce fp) xh oh :=
  ⟨h.hnd, h.get I, h.dat, h.none I, fun z => (List.mem_cons.mp (I.stkSub xh z)).elim (h.nloc I) h.nfs, hf⟩
/-- (a, b) = a tuple, there -/
theorem pg_tupB {es : List Expr} {k : Nat} {t : TGs} {n : Nat} {pos : Pos} (hb : HotB X xh oh) (h : PGs X es t)
    (hn : (assignEach es X.env).length = n := by rfl) (hst : (assignEach es X.env).findIdx? (·.1) = Option.none := by rfl) : PG X (.Tuple es k pos) (gTup X.K n t) := by
  refine ⟨fun pins s σ H v u Q I r y => ?_⟩
  obtain ⟨a, xs, rfl, hq, hl, y⟩ := y
  cases r
  obtain ⟨its, rv, hT, hz⟩ := I.tuple hq
  have e1 : (assignEach es X.env).length = its.toArray.size := by
    rw [List.size_toArray, hn, ← hl, rv.length]
  rw [PyProof.Rows.assign_Tuple]
  refine wpAny_bind (wpAny_standAt ?_)
  unfold unpack
  rw [e1, hst]
  refine wpAny_bind (wpAny_holding (unpack_hot (hb.hot I) hT fun g eb => ?_))
  have I1 : Inv X pins σ H { s with heap := g } := I.kept (t' := s.toks) fun b o e => eb b o (Nat.ne_of_lt (Heap.lt_size e)) e
  exact h.run pins _ σ H xs _ Q I1 (by simpa using rv) y
/-- [elt for tg in a list if ..], there -/
def tLcB (K : PySem.W.Frag) (tl : TE) (g : TG) (tt : TT) (te : TE) (vs : List Nat) : TE := fun σ H Q => tl σ H fun x H1 => ∃ a xs, x = .ref a ∧ SqL K H1 a xs ∧ ∀ D, H1 D = Option.none → ∃ Pv : Nat → Hp → Prop, Pv 0 (upd H1 D (.lst [])) ∧ (∀ i G, i ≤ xs.length → Pv i G → SqL K G a xs) ∧
  (∀ i v G, xs[i]? = some v → Pv i G → g v (wipe σ vs) G fun σ2 G2 => wipe σ2 vs = wipe σ vs ∧ tt σ2 G2 fun b G3 => if b = true then te σ2 G3 fun y G4 => ∃ acc, G4 D = some (.lst acc) ∧ acc.length < sizeLine ∧ Pv (i + 1) (upd G4 D (.lst (acc ++ [y]))) else Pv (i + 1) G3) ∧ ∀ G, Pv xs.length G → Q (.ref D) G
theorem pe_lcB {elt tg iter : Expr} {ifs : List Expr} {scope : Scope} {own : List (Str × Nat)} {pos : Pos} {tl : TE} {g : TG} {tt : TT} {te : TE} (hb : HotB X xh oh) (hN : X.N.Nodup) (hi : PE X iter tl) (ok : BlkOk X.N X.env.scope scope own)
    (hg : ∀ (s : Shared) (H : Hp) (C : Addr) (cl : List (Str × Addr)) (fp : List Addr), HotB (X.blk s H scope (compEnvC scope cl C X.env) fp) xh oh → PG (X.blk s H scope (compEnvC scope cl C X.env) fp) tg g)
    (ht : ∀ (s : Shared) (H : Hp) (C : Addr) (cl : List (Str × Addr)) (fp : List Addr), PTs (X.blk s H scope (compEnvC scope cl C X.env) fp) ifs tt)
    (he : ∀ (s : Shared) (H : Hp) (C : Addr) (cl : List (Str × Addr)) (fp : List Addr), PE (X.blk s H scope (compEnvC scope cl C X.env) fp) elt te) (hs : ∀ x, foldedSetIterable iter X.env x = pure x := by intro _; rfl) :
    PE X (.ListComp elt [⟨tg, iter, ifs, 0⟩] scope pos) (tLcB X.K tl g tt te (own.map (·.2))) := by
  refine ⟨fun pins s σ H Q I h => ?_⟩
  rw [eval_ListComp]
  have hfree : ∀ y ∈ scope.names, y.2 = .free → ∃ c, X.env.cells.lookup y.1 = some c := fun y hy e => (ok.free y hy e).elim (fun k => I.ok.has _ (.inl k)) (fun k => I.ok.has _ (.inr k))
  refine wpAny_comprehension_free (use := Option.none) rfl hs (closure_ok hfree) ok.kind (fun y hy e => by rw [ok.uniq y hy, e]) (thn (hi.run pins s σ H _ I h) fun xv s1 ⟨x, H1, I1, r1, a, xs, ex, hL, k⟩ => ?_)
  subst ex
  cases r1
  obtain ⟨its, rv, hl, hz⟩ := I1.list hL
  refine PySem.wpAny_pyIter_list hl.isList ?_
  -- the iterator's object, the new list, the block's frame
  have I2 : Inv X pins σ H1 { s1 with heap := s1.heap.push { cls := .type "list_iterator", data := .fields #[.ref a, .int 0 0] } } := I1.kept (t' := s1.toks) fun b o e => Heap.get?_push_of_some _ e
  have hit2 : ({ s1 with heap := s1.heap.push { cls := .type "list_iterator", data := .fields #[.ref a, .int 0 0] } } : Shared).heap.IsListIter s1.heap.objs.size a 0 := ⟨_, Heap.get?_push_size _ rfl, rfl, rfl⟩
  have it0 : H1 s1.heap.objs.size = Option.none := I1.hok.fresh (Nat.le_refl _)
  have fit : FpOk X pins H1 s1.heap.objs.size := I1.fpOk (Nat.le_refl _) it0
  have nxi : xh ≠ s1.heap.objs.size := Nat.ne_of_lt (Heap.lt_size (hb.get I1))
  have ltit : s1.heap.objs.size < ({ s1 with heap := s1.heap.push { cls := .type "list_iterator", data := .fields #[.ref a, .int 0 0] } } : Shared).heap.objs.size := by
    show _ < (s1.heap.push _).objs.size
    rw [Heap.size_push]
    exact Nat.lt_succ_self _
  generalize ({ s1 with heap := s1.heap.push { cls := .type "list_iterator", data := .fields #[.ref a, .int 0 0] } } : Shared) = s2 at *
  generalize s1.heap.objs.size = it at *
  refine wpAny_newObj_type (newEnv_comp ?_) (by show 0 ≤ sizeLine; decide)
  obtain ⟨Pv, p0, pl, pt, pd⟩ := k s2.heap.objs.size (I2.hok.fresh (Nat.le_refl _))
  have I3 : Inv X pins σ (upd H1 s2.heap.objs.size (.lst [])) { s2 with heap := s2.heap.push { cls := .type "list", data := .seq ([] : List Value).toArray } } :=
    I2.laid (t' := s2.toks) (fun b o e => Heap.get?_push_of_some _ e) (Nat.le_refl _) ⟨Nat.zero_le _, [], 0, .nil, Heap.get?_push_size _ rfl⟩
  have hit3 : ({ s2 with heap := s2.heap.push { cls := .type "list", data := .seq ([] : List Value).toArray } } : Shared).heap.IsListIter it a 0 := by
    obtain ⟨o, y1, y2⟩ := hit2
    exact ⟨o, Heap.get?_push_of_some _ y1, y2⟩
  have lt3 : it < ({ s2 with heap := s2.heap.push { cls := .type "list", data := .seq ([] : List Value).toArray } } : Shared).heap.objs.size := by
    show _ < (s2.heap.push _).objs.size
    rw [Heap.size_push]
    exact Nat.lt_succ_of_lt ltit
  have fit3 : FpOk X pins (upd H1 s2.heap.objs.size (.lst [])) it := ⟨by rw [upd_ne (Nat.ne_of_lt ltit)]; exact it0, fit.2⟩
  generalize hDD : s2.heap.objs.size = D at *
  generalize ({ s2 with heap := s2.heap.push { cls := .type "list", data := .seq ([] : List Value).toArray } } : Shared) = s3 at *
  generalize upd H1 D (.lst []) = H3 at *
  have I4 := block_start I3 ok hN (fp := [it]) fun b hm => by
    rw [List.mem_singleton.mp hm]
    exact ⟨fit3, lt3⟩
  -- the block's context, by letters
  have hotB := fun ce => hb.blk I3 scope ce (fp := [it]) fun z => nxi (List.mem_singleton.mp z)
  have pg := fun cl => hg s3 H3 s3.heap.objs.size cl [it] (hotB _)
  have pts := fun cl => ht s3 H3 s3.heap.objs.size cl [it]
  have pe := fun cl => he s3 H3 s3.heap.objs.size cl [it]
  have hit4 : ({ s3 with heap := pushCells (s3.heap.push { cls := .type "dict", data := .dict #[] }) scope.names } : Shared).heap.IsListIter it a 0 := by
    obtain ⟨o, y1, y2⟩ := hit3
    exact ⟨o, pushCells_keeps _ _ _ _ (Heap.get?_push_of_some _ y1), y2⟩
  show codeAny _ _ (.compStart (.ListComp elt [⟨tg, iter, ifs, 0⟩] scope pos) 0 (.ref it) (.ref D) (compEnvC scope (cellsFrom (s3.heap.objs.size + 1) scope.names (cloFrom X.env.cells scope.names [])) s3.heap.objs.size X.env)) (compPost (model X.prog X.w) X.A X.xe Option.none (EP X pins σ Q) (.ref D) s3.heap.objs.size) { s3 with heap := pushCells (s3.heap.push { cls := .type "dict", data := .dict #[] }) scope.names }
  specialize pg (cellsFrom (s3.heap.objs.size + 1) scope.names (cloFrom X.env.cells scope.names []))
  specialize pts (cellsFrom (s3.heap.objs.size + 1) scope.names (cloFrom X.env.cells scope.names []))
  specialize pe (cellsFrom (s3.heap.objs.size + 1) scope.names (cloFrom X.env.cells scope.names []))
  have eL : (compEnvC scope (cellsFrom (s3.heap.objs.size + 1) scope.names (cloFrom X.env.cells scope.names [])) s3.heap.objs.size X.env).locals = s3.heap.objs.size := rfl
  generalize compEnvC scope (cellsFrom (s3.heap.objs.size + 1) scope.names (cloFrom X.env.cells scope.names [])) s3.heap.objs.size X.env = ce at *
  generalize ({ s3 with heap := pushCells (s3.heap.push { cls := .type "dict", data := .dict #[] }) scope.names } : Shared) = s4 at *
  have hb4 := hotB ce
  have mem1 : it ∈ [it] := List.mem_singleton.mpr rfl
  have fpk : ∀ {σ' : L2.St} {G : Hp} {s' : Shared}, Inv (X.blk s3 H3 scope ce [it]) [] σ' G s' → G it = Option.none → FpOk (X.blk s3 H3 scope ce [it]) [] G it := fun {σ' G s'} J g0 =>
    ⟨g0, (J.ok.exf it mem1).1, J.ok.exfs it mem1, .inl mem1, fun y c e => (J.ok.exf it mem1).2 y c e, fun p hp => absurd (show p ∈ ([] : List (Addr × Obj)) ++ [] from hp) (by simp)⟩
  have loop : ∀ s4 : Shared, Inv (X.blk s3 H3 scope ce [it]) [] (wipe σ (own.map (·.2))) H3 s4 → s4.heap.IsListIter it a 0 → codeAny (model X.prog X.w) X.A (.compLoop (.ListComp elt [⟨tg, iter, ifs, 0⟩] scope pos) 0 (.ref it) (.ref D) ce) (compPost (model X.prog X.w) X.A X.xe Option.none (EP X pins σ Q) (.ref D) s3.heap.objs.size) s4 := by
    intro s4 I4 hit4
    refine compLoop_any (fun n s' => ∃ j G, n = xs.length - j ∧ j ≤ xs.length ∧ Inv (X.blk s3 H3 scope ce [it]) [] (wipe σ (own.map (·.2))) G s' ∧ s'.heap.IsListIter it a j ∧ G it = Option.none ∧ Pv j G) ?_ _ ⟨0, H3, rfl, Nat.zero_le _, I4, hit4, fit3.1, p0⟩
    rintro n s5 ⟨j, G, rfl, le, I5, hi5, g5, pv⟩
    have hL5 : SqL (X.blk s3 H3 scope ce [it]).K G a xs := pl j G le pv
    obtain ⟨its5, rv5, hl5, hz5⟩ := I5.list hL5
    obtain ⟨f0, f1, f2, f3, f4, f5⟩ := fpk I5 g5
    rcases Nat.lt_or_ge j xs.length with lt | ge
    · obtain ⟨u, hu, ru⟩ := rv5.get (List.getElem?_eq_getElem lt)
      refine PySem.wpAny_pyNext_list_item hi5 hl5.isList (x := u) (by simpa using hu) fun g6 hi6 sb6 => ?_
      have I6 : Inv (X.blk s3 H3 scope ce [it]) [] (wipe σ (own.map (·.2))) G { s5 with heap := g6 } := I5.turned (t' := s5.toks) (fun b o nb e => (sb6.2 b nb).trans e) f0 f1 f3 f4 f5
      obtain ⟨o6, y1, y2, y3⟩ := id hi6
      refine go_of (s := { s5 with heap := g6 }) y1 y2 y3 (by decide) ?_
      have I6p := I6.pinned (fp := [it]) (fun b hm => by rw [List.mem_singleton.mp hm]; exact fpk I6 g5) (fun b hm => by rw [List.mem_singleton.mp hm]; exact ⟨o6, y1, fun v z => by rw [y3] at z; cases z⟩)
      refine thnF (pg.run _ _ _ G _ u _ I6p ru (pt j _ G (List.getElem?_eq_getElem lt) pv)) fun _ s8 ⟨σ8, H8, I8, hw8, q8⟩ => ?_
      refine thnF (pts.run _ s8 σ8 H8 _ I8 q8) fun b s9 ⟨H9, I9, q9⟩ => ?_
      have fin : ∀ {s' : Shared} {G' : Hp}, Inv (X.blk s3 H3 scope ce [it]) ([] ++ pinsAt [it] g6) σ8 G' s' → Pv (j + 1) G' → ∃ m, m < xs.length - j ∧ ∃ j' G', m = xs.length - j' ∧ j' ≤ xs.length ∧ Inv (X.blk s3 H3 scope ce [it]) [] (wipe σ (own.map (·.2))) G' s' ∧ s'.heap.IsListIter it a j' ∧ G' it = Option.none ∧ Pv j' G' := fun {s' G'} J nx => by
        have pin := J.pin (it, o6) (List.mem_append_right _ (List.mem_append_right _ (mem_pinsAt mem1 y1)))
        have hln : (wipe σ (own.map (·.2))).length = σ8.length := by rw [← hw8, wipe_length]
        refine ⟨xs.length - (j + 1), by omega, j + 1, G', rfl, lt, (J.unpinned (pins := [])).weak hln (fun i v e => ?_), ⟨o6, pin.1, y2, y3⟩, pin.2.1, nx⟩
        rw [← hw8] at e
        exact (wipe_some e).1
      cases b with
      | false =>
        simp only [Bool.false_eq_true, if_false] at q9 ⊢
        exact fin I9 q9
      | true =>
        simp only [if_true] at q9 ⊢
        refine thnF (pe.run _ s9 σ8 H9 _ I9 q9) fun z s10 ⟨yv, H10, I10, r10, acc, hD10, hz10, nx⟩ => ?_
        exact app_ok (X := X.blk s3 H3 scope ce [it]) I10 hD10 hz10 r10 fun s11 I11 => fin I11 nx
    · have ej : j = xs.length := Nat.le_antisymm le ge
      subst ej
      refine list_end_hot (hb4.hot I5) nxi hi5 hl5.isList (by have := rv5.length; simp; omega) fun g6 eb => ?_
      have I6 : Inv (X.blk s3 H3 scope ce [it]) [] (wipe σ (own.map (·.2))) G { s5 with heap := g6 } := I5.turned (t' := s5.toks) (fun b o nb e => eb b o nb e) f0 f1 f3 f4 f5
      have I7 : Inv X pins σ G { s5 with heap := g6 } := I3.call' (ch := [it]) I6.os I6.base I6.hok I6.bare fun b hm => by
        rw [List.mem_singleton.mp hm]
        exact ⟨fit3.2.2.2.1, fit3.2.1, fit3.2.2.2.2.1, fit3.2.2.2.2.2⟩
      have nC : G s3.heap.objs.size = Option.none := by
        have z : G ce.locals = Option.none := I6.free
        rw [eL] at z
        exact z
      obtain ⟨m, hn, _⟩ := I6.loc
      have hn : g6.Ns ce.locals m := hn
      rw [eL] at hn
      obtain ⟨k0, k1, k2, k3, k4, k5⟩ := I3.fpOk (Nat.le_refl _) nC
      exact ⟨m, hn, fun g7 sb => ⟨.ref D, G, I7.turned (t' := s5.toks) (fun b o nb e => (sb.2 b nb).trans e) k0 k1 k3 k4 k5, rfl, pd G pv⟩⟩
  refine codeAny_compStart_list (loop s4 I4 hit4) ?_
  exact PySem.wpAny_pyIter_listiter hit4 (loop s4 I4 hit4)
end
open PySem.Spec PyProof.Rows
/-! ### isinstance of the handled exception, wherever it was handed -/
def rIsB (K : PySem.W.Frag) (D xh : Addr) : List V → Hp → VK → Prop := fun vs H Q => ∃ (c : V) (u : Value) (b : Bool), vs = [.ref xh, c] ∧ ClsV c u ∧ PySem.W.kitOne K (.ref D) u = some b ∧ Q (.bl b) H
theorem call_isB {X : Cx} {xh D : Addr} {oh : Obj} (hb : HotB X xh oh) (C : ExcC X.K D) (hc : oh.cls = .ref D) (hd : oh.dict = none) : CallR X (.builtin "isinstance") (rIsB X.K D xh) := by
  intro pins s σ H vs us Q I r y
  obtain ⟨c, u, b, rfl, kc, e, q⟩ := y
  obtain ⟨u1, u2, rfl, r1, r2⟩ := vals2 r
  cases (show u1 = Value.ref xh from r1)
  have e2 := kc.eq r2
  subst e2
  obtain ⟨ws, d1, _⟩ := hb.dat
  have J : PySem.W.InstAt s.heap xh oh D none := by
    have g := hb.get I
    obtain ⟨oc, od, oda, osl⟩ := oh
    dsimp only at hc hd d1
    subst hc hd d1
    exact ⟨g, rfl, rfl, trivial⟩
  exact PySem.W.kia_one (PySem.W.handS_kitx_exc C.hg C.hk C.hs C.hd C.ha C.hn C.ht C.hm) I.kIn J e (fun z => nomatch z) fun tk => ⟨.bl b, H, I.tok tk, rfl, q⟩
/-! ### a def called while an exception is handled, that exception told -/
structure HotP (A : Around) (outer : List Env) (H : Hp) (s : Shared) (xh : Addr) (oh : Obj) : Prop where
  hnd : A.handled = some (.ref xh)
  dat : ∃ vs : Array Value, oh.data = .fields vs ∧ vs[2]? = some .none
  pin : L2H.PinOk outer H s (xh, oh)
theorem HotP.b {CX : CXT} {P : Program} {w : World} {K : PySem.W.Frag} {mg : Str → Option Value} {base : Heap} {N : List Str} {qual : Str} {scope : Scope} {f : Addr} {cd : Value} {A : Around} {outer : List Env} {s : Shared} {H : Hp} {E : XK} {xh : Addr} {oh : Obj} (h : HotP A outer H s xh oh) :
    HotB (L2H.cxH CX P w K mg base N qual scope f cd A outer s H E (xh, oh)) xh oh := ⟨h.hnd, h.pin.get, h.dat, h.pin.free, h.pin.nofs, fun z => nomatch (show xh ∈ ([] : List Addr) from z)⟩
/-- its promise: sp with the exception told -/
def FnB (P : Program) (w : World) (K : PySem.W.Frag) (mg : Str → Option Value) (base : Heap) (k : Nat) (f : Addr) (fd : FuncData) (ps : List Str) (sp : Addr → Value → Option Addr → Sp) : Prop :=
  ∀ (A : Around) (outer : List Env) (s : Shared) (H : Hp) (args : Args) (us : List Value) (vs : List V) (Q : VK) (xh : Addr) (oh : Obj), L2H.RoomH k A → HotP A outer H s xh oh → Env0 P w K mg base A outer s H → BindsTo s fd args (ps.zip us) → Vals vs us → vs.length = ps.length → sp xh oh.cls oh.dict vs H Q E0 →
    codeAny (model P w) A (.call (.ref f) args) (CR CX0 outer P w H s Q E0) s
theorem Fun.okB {P : Program} {w : World} {K : PySem.W.Frag} {mg : Str → Option Value} {base : Heap} {x qual : Str} {st : Stmt} {f : Addr} {fd : FuncData} {N ps : List Str} {k : Nat} {sp : Addr → Value → Option Addr → Sp} (F : L2.Fun K x qual st f fd) (S : FnScope N ps (defScope st))
    (body : ∀ (cdv : Value) (A : Around) (outer : List Env) (s : Shared) (H : Hp) (vs : List V) (Q : VK) (xh : Addr) (oh : Obj), L2H.RoomH k (A.deeper (PyProof.Rows.envOfC qual (defScope st) s.heap.objs.size f cdv)) → HotB (L2H.cxH CX0 P w K mg base N qual (defScope st) f cdv A outer s H E0 (xh, oh)).nox xh oh → sp xh oh.cls oh.dict vs H Q E0 →
      ∃ t, PSs (L2H.cxH CX0 P w K mg base N qual (defScope st) f cdv A outer s H E0 (xh, oh)).nox (defBody st) t ∧ t { nx := fun _ H' => Q .non H', rt := Q } (L2.start N vs) H) : FnB P w K mg base (k + 1) f fd ps sp := by
  obtain ⟨oc, od, kV, doc, pm, an, cdv, ct, osl, rfl, lk, hcd⟩ := F.ex
  intro A outer s H args us vs Q xh oh hr hp e0 hb r hl hsp
  have KX : K.In s.heap := e0.mod.kin.keeps fun b o e => (e0.bs b o e).1
  have hkind : ∀ y ∈ ps.zip us, (defScope st).names.lookup y.1 = some .local ∨ ((defScope st).names.lookup y.1 = some .cell ∧ ((cellsFrom (s.heap.objs.size + 1) (defScope st).names []).lookup y.1).isSome = true) := by
    rintro ⟨n, v⟩ hy
    exact (S.par n (List.of_mem_zip hy).1).imp id fun q => ⟨q, PySem.W.cellsFrom_some _ _ _ (.inl q)⟩
  refine codeAny_call_function hr.depth (KX _ _ lk) rfl S.co S.gen rfl (PySem.W.codeRec_of KX hcd) (hb _ _ _ _ (wpAny_newFunctionEnv_cells S.kind hkind fun env he s1 y => ?_))
  subst he
  refine ⟨(e0.mod.nolimit.keeps fun b o e => (e0.bs b o e).1).keeps y.toInCall.keep, codeAny_func ?_⟩
  have hB := hp.b (CX := CX0) (P := P) (w := w) (K := K) (mg := mg) (base := base) (N := N) (qual := qual) (scope := defScope st) (f := f) (cd := cdv) (E := E0)
  obtain ⟨t, ht, hq⟩ := body cdv A outer s H vs Q xh oh (hr.deeper _) ⟨hB.hnd, hB.obj, hB.dat, hB.unt, hB.nfs, hB.nex⟩ hsp
  have I : Inv (L2H.cxH CX0 P w K mg base N qual (defScope st) f cdv A outer s H E0 (xh, oh)) [] (L2.start N vs) H s1 := L2H.inv_startH S hp.pin e0 hl r y
  refine wpAny_mono (ht.run [] s1 (L2.start N vs) H _ (I.wish _) hq) (fun fl s' z => ?_) fun _ _ z => z.elim
  have z' : SP (L2H.cxH CX0 P w K mg base N qual (defScope st) f cdv A outer s H E0 (xh, oh)) [] { nx := fun _ H' => Q .non H', rt := Q } fl s' := z.unwish
  cases fl with
  | ret u =>
    obtain ⟨v, σ', H', J, rv, q⟩ := z'
    exact ⟨v, H', J.os, J.bare, J.base, J.hok, rv, q⟩
  | next =>
    obtain ⟨σ', H', J, q⟩ := z'
    exact ⟨V.non, H', J.os, J.bare, J.base, J.hok, rfl, q⟩
  | brk => exact z'.elim fun _ y => y.elim fun _ y => y.2.elim
  | cont => exact z'.elim fun _ y => y.elim fun _ y => y.2.elim
/-! ### calls of such defs, out of the suite or out of another such def -/
structure HotG (X : Cx) (xh : Addr) (oh : Obj) : Prop where
  hnd : X.A.handled = some (.ref xh)
  dat : ∃ vs : Array Value, oh.data = .fields vs ∧ vs[2]? = some .none
  at_ : ∀ {pins : List (Addr × Obj)} {σ : L2.St} {H : Hp} {s : Shared}, Inv X pins σ H s → s.heap.get? xh = some oh ∧ H xh = none ∧ xh ≠ X.env.locals ∧ xh ∉ X.fs
theorem HotB.g {X : Cx} {xh : Addr} {oh : Obj} (h : HotB X xh oh) : HotG X xh oh := ⟨h.hnd, h.dat, fun I => ⟨h.get I, h.none I, h.nloc I, h.nfs⟩⟩
theorem hotG_suite {X : Cx} {a : Addr} {oe : Obj} {pn : List (Addr × Obj)} {cls : Value} {d : Option Addr} (hz : L2N.Zn cls d oe) (hf : ∃ vs, oe.data = .fields vs) : HotG (X.suite a ((a, oe) :: pn)) a oe := by
  obtain ⟨vs, e⟩ := hf
  refine ⟨rfl, ⟨vs, e, hz.2.2 vs e⟩, fun I => ?_⟩
  obtain ⟨h1, h2, h3, h4, _⟩ := I.pin (a, oe) (List.mem_append_left _ List.mem_cons_self)
  exact ⟨h1, h2, h3, h4⟩
theorem HotG.p {X : Cx} {xh : Addr} {oh : Obj} (h : HotG X xh oh) {pins : List (Addr × Obj)} {σ : L2.St} {H : Hp} {s : Shared} (I : Inv X pins σ H s) : HotP X.A X.stack H s xh oh := by
  obtain ⟨h1, h2, h3, h4⟩ := h.at_ I
  obtain ⟨vs, d1, d2⟩ := h.dat
  exact ⟨h.hnd, h.dat, h1, h2, fun z => (List.mem_cons.mp (I.stkSub xh z)).elim h3 h4, fun v z => by rw [d1] at z; cases z⟩
def tCallG (sp : Addr → Value → Option Addr → Sp) (xh : Addr) (cls : Value) (dd : Option Addr) (n : Nat) (t : L2.TA) : TE := fun σ H Q => t σ H fun vs H1 => vs.length = n ∧ sp xh cls dd vs H1 Q E0
theorem pe_callG {X : Cx} {k : Nat} {f : Addr} {fd : FuncData} {ps : List Str} {sp : Addr → Value → Option Addr → Sp} {xh : Addr} {oh : Obj} {x : Str} {p pos : Pos} {e : Expr} {es : List Expr} {t : L2.TA} (G : FnB X.prog X.w X.K X.mg X.base k f fd ps sp) (hr : L2H.RoomH k X.A) (hg : HotG X xh oh) {cls : Value} {dd : Option Addr} (hcl : oh.cls = cls) (hdd : oh.dict = dd) (gl : Gl X x) (hm : X.mg x = some (.ref f)) (hk : PySem.W.keepIn X.K (.ref f) = true) (hb : Binds X.K fd ps [])
    (ha : PA X (e :: es) t) (hdb : (x == ("__debug__" : Str)) = false := by decide) (he : starEach (e :: es) X.env = (false, eval e X.env) :: starEach es X.env := by rfl) (hpl : (backTo pos (starEach es X.env)).any (·.1) = false := by rfl) :
    PE X (.Call (.Name x p) (e :: es) [] pos) (tCallG sp xh cls dd ps.length t) := by
  subst hcl hdd
  refine ⟨fun pins s σ H Q I y => ?_⟩
  refine wpAny_Call_Name_kw (ld_glob I gl hm (PySem.W.callWith_K (h₀ := X.base) I.ok.mod.kin hk (thn (ha.run pos pins s σ H _ I y) fun us s1 ⟨vs, H1, I1, r, q⟩ => ⟨I1.kIn, ?_⟩) he hpl) hdb)
  obtain ⟨hl, q⟩ := q
  have hu : us.length = ps.length := by rw [← r.length, hl]
  have hbb : BindsTo s1 fd ⟨us, []⟩ (ps.zip us) := by
    have z := hb s1 us I1.kIn (by rw [List.append_nil]; exact hu)
    rw [List.append_nil] at z
    exact z
  refine wpAny_call (codeAny_mono (G X.A X.stack s1 H1 ⟨us, []⟩ us vs Q xh oh hr (hg.p I1) I1.env0 hbb r hl q) fun rs s' hq => ?_)
  cases rs with
  | error e => exact False.elim hq
  | ok fl =>
    cases fl with
    | ret u => exact I1.after hq
    | next => exact False.elim hq
    | brk => exact False.elim hq
    | cont => exact False.elim hq
/-! ### a lambda without parameters handed to a def, its errors told with their context -/
def lamCxN (X : Cx) (A : Around) (outer : List Env) (s : Shared) (H : Hp) (E : XK) (scope : Scope) (f c : Addr) : Cx :=
  (LamX.lamCx X A outer s H E scope f c).wish fun e s' => wpAny (model X.prog X.w) (A.deeper (LamX.lamEnv X scope s.heap.objs.size f c)) (leaving (LamX.lamEnv X scope s.heap.objs.size f c) e) (fun _ s2 => L2N.CX X.prog X.w outer H s E e s2) (fun e2 s2 => L2N.CX X.prog X.w outer H s E e2 s2) s'
theorem pe_actN {X : Cx} {pins : List (Addr × Obj)} {σ : L2.St} {H : Hp} {s : Shared} {CXg : CXT} {Eg : XK} {Ng : List Str} {qg : Str} {sg : Scope} {g f c : Addr} {cdg pm ctv : Value} {params : Arguments} {body : Expr} {scope : Scope} {k i : Nat} {a : Str} {pn : List (Addr × Obj)} {xe : Value → Shared → Prop} {W : WX} {E : L2.St → XK} {tb : XK → TE} {p1 p2 : Pos}
    (I : Inv X pins σ H s) (L : LamX.LamS X.env.scope scope) (hf : s.heap.get? f = some (PySem.W.kla_obj "<lambda>" (X.env.qual ++ "<lambda>") params body scope (cloFrom X.env.cells scope.names []) pm c ctv)) (hfn : H f = none) (hfr : f ∉ frs X.stack)
    (hbind : bindArgs (PySem.W.kla_fn "<lambda>" (X.env.qual ++ "<lambda>") params body scope (cloFrom X.env.cells scope.names []) pm (.ref c) ctv) ⟨[], []⟩ = pure [])
    (tk : L2N.Takes ((cxOf CXg X.prog X.w X.K X.mg X.base Ng qg sg g cdg X.A X.stack s H Eg).tr pn xe) W) (hW : ∀ cls d σ2 H2, E σ2 cls d H2 → W cls d σ2 H2) (hr : Room (k + 1) (X.A.deeper (envOfC qg sg s.heap.objs.size g cdg)))
    (hbody : ∀ (A : Around) (outer : List Env) (s : Shared) (H : Hp) (E : XK), Room k (A.deeper (LamX.lamEnv X scope s.heap.objs.size f c)) → PE (lamCxN X A outer s H E scope f c) body (tb E))
    (hN : Ng[i]? = some a) (hv : Vis sg a) (hd : (a == ("__debug__" : Str)) = false := by decide) (hcd : (a == ("__classdict__" : Str)) = false := by decide) :
    PE ((cxOf CXg X.prog X.w X.K X.mg X.base Ng qg sg g cdg X.A X.stack s H Eg).tr pn xe) (.Call (.Name a p1) [] [] p2) (fun σZ HZ Q => σZ[i]? = some (some (.ref f)) ∧ HZ c = some (LamX.CodeO c (X.env.qual ++ "<lambda>")) ∧ tb (E σZ) σ HZ Q) := by
  refine ⟨fun pz sz σz Hz Q Iz ⟨hs, hc, y⟩ => ?_⟩
  refine wpAny_Call_Name_kw (thn ((pe_var (pos := p1) (i := i) hN hv hd hcd).run pz sz σz Hz (fun v H1 => v = .ref f ∧ H1 = Hz) Iz ⟨.ref f, hs, rfl, rfl⟩) fun u s1 ⟨v, H1, I1, r1, ev, eH⟩ => ?_)
  subst ev eH
  cases (show u = Value.ref f from r1)
  have of1 := I1.base.keep f _ hf hfn hfr (fun z => nomatch (show f ∈ ([] : List Addr) from z))
  refine PySem.W.callWith_F0 ⟨_, _, _, _, of1⟩ ?_
  obtain ⟨⟨oc, vs, t, hoc, hdc, hvc⟩, _, _⟩ := I1.hok c _ hc
  have run : codeAny (model X.prog X.w) (X.A.deeper (envOfC qg sg s.heap.objs.size g cdg)) (.call (.ref f) ⟨[], []⟩) (CR (L2N.CX X.prog X.w) (envOfC qg sg s.heap.objs.size g cdg :: X.stack) X.prog X.w H1 s1 Q (E σz)) s1 := by
    refine PySem.W.kla_callFunE hr.depth of1 rfl L.co L.gen rfl ⟨c, oc, vs, t, rfl, hoc, hdc, hvc⟩ ?_
    rw [hbind]
    refine wpAny_pure (wpAny_newFunctionEnv (fun y hy => (L.own y hy).2) (fun y hy => absurd hy (by simp)) (fun g1 hns hsb => ⟨I1.nolimit.fresh _ hsb, ?_⟩) L.kind)
    have kp : ∀ b o, s1.heap.get? b = some o → g1.get? b = some o := fun b o e => hsb.extBut b o (Nat.ne_of_lt (Heap.lt_size e)) (Heap.get?_push_of_some _ e)
    have J := LamX.lam_start2 (E := E σz) (f := f) (c' := c) (tk := s1.toks + ([] : List (Str × Value)).length) I L I1.env0 hr.hd I1.base hns kp
    refine PySem.W.kla_codeExpr (wpAny_mono ((hbody _ _ s1 H1 (E σz) (hr.deeper _)).run [] _ _ H1 Q (J.wish _) y) (fun v s3 ⟨w3, H3, J3, rv, q⟩ => ⟨w3, H3, J3.os, J3.bare, J3.base, J3.hok, rv, q⟩) fun e s3 z => z)
  refine wpAny_call (codeAny_mono run fun rs s2 hq => ?_)
  cases rs with
  | error e => exact tk e s2 (L2N.XE.of_call I1 (fun cls d H' h => hW cls d σz H' h) hq)
  | ok fl =>
    cases fl with
    | ret u => exact I1.after hq
    | next => exact False.elim hq
    | brk => exact False.elim hq
    | cont => exact False.elim hq
/-- the def that calls what it got; TT: what it makes of the lambda's reading -/
def GivesN (X : Cx) (Ng : List Str) (x : Str) (sg : Scope) (g : Addr) (cdg : Value) (bg : List Stmt) (a q : Str) (TT : (XK → Hp → VK → Prop) → Hp → VK → Prop) : Prop :=
  ∀ (k : Nat) (f c : Addr) (s : Shared) (H : Hp) (Q : VK) (tl : XK → Hp → VK → Prop), Room k (X.A.deeper (envOfC x sg s.heap.objs.size g cdg)) → 40 ≤ k →
    (∀ (W : WX) (pn : List (Addr × Obj)) (xe : Value → Shared → Prop) (E : L2.St → XK) (p1 p2 : Pos), L2N.Takes ((cxOf CX0 X.prog X.w X.K X.mg X.base Ng x sg g cdg X.A X.stack s H E0).tr pn xe) W → (∀ cls d σ2 H2, E σ2 cls d H2 → W cls d σ2 H2) →
      PE ((cxOf CX0 X.prog X.w X.K X.mg X.base Ng x sg g cdg X.A X.stack s H E0).tr pn xe) (.Call (.Name a p1) [] [] p2) (fun σZ HZ Q => σZ[0]? = some (some (.ref f)) ∧ HZ c = some (LamX.CodeO c q) ∧ tl (E σZ) HZ Q)) →
    H c = some (LamX.CodeO c q) → TT tl H Q →
    ∃ t, PSs (cxOf CX0 X.prog X.w X.K X.mg X.base Ng x sg g cdg X.A X.stack s H E0).nox bg t ∧ t { nx := fun _ H' => Q .non H', rt := Q } (L2.start Ng [.ref f]) H
theorem pe_lamN {X : Cx} {T : List (Addr × Str)} {TT : (XK → Hp → VK → Prop) → Hp → VK → Prop} {x a : Str} {g c P : Addr} {k : Nat} {pg : Arguments} {bg : List Stmt} {sg : Scope} {dV kV doc pm cdv ct oc : Value} {an od : Option Addr} {osl : Array (Option Value)} {Ng : List Str}
    {params : Arguments} {body : Expr} {scope : Scope} {t : XK → TE} {p lpos pos : Pos} (hg : Gl X x) (hm : X.mg x = some (.ref g)) (hk : PySem.W.keepIn X.K (.ref g) = true)
    (lk : X.K.lookup g = some ⟨oc, od, .func (PySem.W.fnOf x x pg bg sg dV kV doc pm an cdv ct), osl⟩) (hcg : PySem.W.codeIn X.K cdv x = true) (hb : Binds X.K (PySem.W.fnOf x x pg bg sg dV kV doc pm an cdv ct) [a] []) (Sg : FnScope Ng [a] sg) (hNg : Ng[0]? = some a) (hva : Vis sg a)
    (hG : GivesN X Ng x sg g cdv bg a (X.env.qual ++ "<lambda>") TT) (TB : LamX.TabB X.base X.mg c P) (hcode : X.env.code = .ref c) (hmT : (P, X.env.qual ++ "<lambda>") ∈ T) (hu : ∀ p ∈ T, p.1 = P → p.2 = X.env.qual ++ "<lambda>") (hr : Room (k + 2) X.A) (k40 : 40 ≤ k + 1) (L : LamX.LamS X.env.scope scope) (hdef : defaultsOf params X.env = ([], []))
    (hbind : ∀ (q : Str) (cl : List (Str × Addr)) (pm cv ctv : Value), bindArgs (PySem.W.kla_fn "<lambda>" q params body scope cl pm cv ctv) ⟨[], []⟩ = pure [])
    (hbody : ∀ (A : Around) (outer : List Env) (s : Shared) (H : Hp) (E : XK) (f c2 : Addr), Room k (A.deeper (LamX.lamEnv X scope s.heap.objs.size f c2)) → PE (lamCxN X A outer s H E scope f c2) body (t E))
    (hdb : (x == ("__debug__" : Str)) = false := by decide) (hd : (a == ("__debug__" : Str)) = false := by decide) (hcd : (a == ("__classdict__" : Str)) = false := by decide) :
    PE X (.Call (.Name x p) [.Lambda params body scope lpos] [] pos) (LamX.tLam T TT t) := by
  refine ⟨fun pins s σ H Q I ⟨hT, y⟩ => ?_⟩
  refine wpAny_Call_Name_kw (ld_glob I hg hm (PySem.W.callWith_K (h₀ := X.base) I.ok.mod.kin hk ?_ (by rfl) (by rfl)) hdb)
  show wpAny _ _ (spliced ((false, eval (.Lambda params body scope lpos) X.env) :: backTo pos (starEach [] X.env))) _ _ s
  refine Calls.spliced_cons (LamX.lam_make2 I TB hcode hmT hu hT hdef (L.has I.ok) fun f c2 pm2 ctv H1 s1 I1 eN T1 hf hfn hfr hco => Calls.spliced_nil ⟨I1.kIn, ?_⟩)
  have run : codeAny (model X.prog X.w) X.A (.call (.ref g) ⟨[.ref f], []⟩) (CR CX0 X.stack X.prog X.w H1 s1 Q E0) s1 := by
    refine LamX.run_ofS (N := Ng) (ps := [a]) (us := [.ref f]) (vs := [.ref f]) lk hcg Sg hr I1.env0 (hb s1 [.ref f] I1.kIn rfl) (.cons rfl .nil) rfl fun hr2 => ?_
    obtain ⟨t2, ht2, hq2⟩ := hG _ f c2 s1 H1 Q (fun E H' Q' => t E σ H' Q') hr2 k40 (fun W pn xe E p1 p2 tk hW => pe_actN (i := 0) I1 L hf hfn hfr (hbind _ _ _ _ _) tk hW hr2 (fun A outer s H E hr3 => hbody A outer s H E f c2 hr3) hNg hva hd hcd) hco (y H1 eN T1)
    exact ⟨t2, ht2.nox, hq2⟩
  refine wpAny_call (codeAny_mono run fun rs s2 hq => ?_)
  cases rs with
  | error e => exact (show False from hq).elim
  | ok fl =>
    cases fl with
    | ret u => exact I1.after hq
    | next => exact False.elim hq
    | brk => exact False.elim hq
    | cont => exact False.elim hq
/-! ### try: return ('value', ask()) / except TermError as e: the error's word and field -/
/-- a class that TermError names -/
structure Wd (K : PySem.W.Frag) (CT D : Addr) (dd : Option Addr) : Prop where
  exc : ExcC K D
  nod : dd = none
  mat : PySem.W.exmOne K (.ref D) (.ref CT) = some true
def spName (K : PySem.W.Frag) (CT : Addr) (word : Addr → Option Str) : Addr → Value → Option Addr → Sp := fun xh cls dd vs H Q _ => ∃ (D : Addr) (nm : Str), cls = .ref D ∧ Wd K CT D dd ∧ word D = some nm ∧ vs = [.ref xh] ∧ ∀ H', Same H H' → Q (.str nm) H'
def spField (word : Addr → Option Str) (fld : Addr → Option Addr → Hp → V → Prop) : Addr → Value → Option Addr → Sp := fun xh cls dd vs H Q _ => ∃ (D : Addr) (nm : Str) (v : V), cls = .ref D ∧ word D = some nm ∧ fld D dd H v ∧ vs = [.ref xh, .str nm] ∧ ∀ H', Same H H' → Q v H'
def tSuite (K : PySem.W.Frag) (CT : Addr) (word : Addr → Option Str) (fld : Addr → Option Addr → Hp → V → Prop) (a : Addr) (cls : Value) (d : Option Addr) : TS :=
  tSeq (tAsg (tCallG (spName K CT word) a cls d 1 (tCons (tVar 1) tNil)) (gName 2)) (tRet (tTup (tCons (tVar 2) (tCons (tCallG (spField word fld) a cls d 2 (tCons (tVar 1) (tCons (tVar 2) tNil))) tNil))))
def TTry (K : PySem.W.Frag) (CT : Addr) (word : Addr → Option Str) (fld : Addr → Option Addr → Hp → V → Prop) : (XK → Hp → VK → Prop) → Hp → VK → Prop := fun tl H Q =>
  ∀ f : Addr, tl (fun cls d H2 => wAs K (.ref CT) 1 (tSuite K CT word fld) (fun _ _ _ _ => False) { nx := fun _ H' => Q .non H', rt := Q } cls d [some (.ref f), none, none] H2) H
    (fun v H' => 2 ≤ sizeLine ∧ ∀ p, H' p = none → Q (.ref p) (upd H' p (.tup [.str ("value" : Str), v])))
theorem wTry {K : PySem.W.Frag} {CT : Addr} {word : Addr → Option Str} {fld : Addr → Option Addr → Hp → V → Prop} {Q : VK} {n : L2.St → Hp → Prop} {cls : Value} {dd : Option Addr} {f D : Addr} {nm : Str} {v : V} {H' : Hp}
    (hst : ∀ D dd H H' v, Same H H' → fld D dd H v → fld D dd H' v) (e : cls = .ref D) (hw : Wd K CT D dd) (ew : word D = some nm) (hf : fld D dd H' v) (h : ∀ (p : Addr) (H2 : Hp), Same H' H2 → H2 p = none → Q (.ref p) (upd H2 p (.tup [.str nm, v]))) :
    wAs K (.ref CT) 1 (tSuite K CT word fld) (fun _ _ _ _ => False) { nx := n, rt := Q } cls dd [some (.ref f), none, none] H' := by
  subst e
  refine ⟨true, hw.mat, fun _ a _ => ?_, fun z => nomatch z⟩
  refine ⟨_, rfl, rfl, D, nm, rfl, hw, ew, rfl, fun H1 k1 => ?_⟩
  refine ⟨_, rfl, _, rfl, _, rfl, rfl, D, nm, v, rfl, ew, hst _ _ _ _ _ k1 hf, rfl, fun H2 k2 => ⟨by show 2 ≤ sizeLine; decide, fun p hp => h p H2 (k1.trans k2) hp⟩⟩
theorem try_gives {X : Cx} {x q : Str} {sg : Scope} {g CT fN fF : Addr} {cdg : Value} {fdN fdF : FuncData} {word : Addr → Option Str} {fld : Addr → Option Addr → Hp → V → Prop} {j1 n1 n2 : Nat} {q1 q2 q3 q4 q5 q6 q7 q8 q9 p1 p2 p3 p4 p5 p6 p7 p8 p9 q10 q11 : Pos}
    (s0 : sg.names.lookup ("_law_ask" : Str) = some .local) (s1 : sg.names.lookup ("_law_e" : Str) = some .local) (s2 : sg.names.lookup ("_law_word" : Str) = some .local) (g1 : sg.names.lookup ("TermError" : Str) = some .globalImplicit) (g2 : sg.names.lookup ("_law_error_name" : Str) = some .globalImplicit) (g3 : sg.names.lookup ("_law_error_field" : Str) = some .globalImplicit)
    (mT : X.mg ("TermError" : Str) = some (.ref CT)) (mN : X.mg ("_law_error_name" : Str) = some (.ref fN)) (mF : X.mg ("_law_error_field" : Str) = some (.ref fF)) (kN : PySem.W.keepIn X.K (.ref fN) = true) (kF : PySem.W.keepIn X.K (.ref fF) = true) (bN : Binds X.K fdN [("_law_e" : Str)] []) (bF : Binds X.K fdF [("_law_e" : Str), "_law_word"] [])
    (GN : FnB X.prog X.w X.K X.mg X.base 3 fN fdN [("_law_e" : Str)] (spName X.K CT word)) (GF : FnB X.prog X.w X.K X.mg X.base 3 fF fdF [("_law_e" : Str), "_law_word"] (spField word fld)) :
    GivesN X [("_law_ask" : Str), "_law_e", "_law_word"] x sg g cdg [.Try [.Return (some (.Tuple [.Constant (.str ("value" : Str)) j1 p1, .Call (.Name ("_law_ask" : Str) p2) [] [] p3] n1 p4)) p5] [.ExceptHandler (some (.Name ("TermError" : Str) p6)) (some ("_law_e" : Str)) [.Assign [.Name ("_law_word" : Str) q1] (.Call (.Name ("_law_error_name" : Str) q2) [.Name ("_law_e" : Str) q3] [] q4) q5, .Return (some (.Tuple [.Name ("_law_word" : Str) q6, .Call (.Name ("_law_error_field" : Str) q7) [.Name ("_law_e" : Str) q8, .Name ("_law_word" : Str) q9] [] p7] n2 p8)) p9] q10] [] [] q11] ("_law_ask" : Str) q (TTry X.K CT word fld) := by
  intro k f c s H Q tl hr k40 act hc y
  have hr3 := hr.mono (show 3 ≤ k by omega)
  have nd : ([("_law_ask" : Str), "_law_e", "_law_word"] : List Str).Nodup := by decide +kernel
  refine ⟨_, pss_one (L2N.ps_try_as (i := 1) (c := .ref CT) (tb := fun W => tRet (tTup (tCons (tC (.str ("value" : Str))) (tCons (fun σZ HZ Q => σZ[0]? = some (some (.ref f)) ∧ HZ c = some (LamX.CodeO c q) ∧ tl (fun cls d H2 => W cls d σZ H2) HZ Q) tNil))))
    (ts := tSuite X.K CT word fld) (Wout := fun _ _ _ _ => False) rfl rfl nd rfl s1 ⟨g1, by decide +kernel, .inl mT⟩ (fun _ _ ⟨_, _, _, _, _, _, _, _, _, _, _, _, _, _, _, _, z⟩ => z.elim)
    (fun W pn xe tk _ => pss_one (ps_ret (pe_tup (pa_cons pe_str (pa_cons (act W pn xe (fun σ2 cls d H2 => W cls d σ2 H2) _ _ tk (fun _ _ _ _ h => h)) pa_nil)))))
    (fun a oe cls d pn hz hf => pss_cons (ps_set (i := 2) nd rfl (.inl s2) (by exact pe_callG (X := Cx.suite (cxOf CX0 X.prog X.w X.K X.mg X.base [("_law_ask" : Str), "_law_e", "_law_word"] x sg g cdg X.A X.stack s H E0).nox a ((a, oe) :: pn)) GN ⟨hr3.dp, hr3.un⟩ (hotG_suite hz hf) hz.1 hz.2.1 g2 mN kN bN (pa_cons (pe_var (i := 1) rfl (.inl s1)) pa_nil)))
      (pss_one (ps_ret (pe_tup (pa_cons (pe_var (i := 2) rfl (.inl s2)) (pa_cons (by exact pe_callG (X := Cx.suite (cxOf CX0 X.prog X.w X.K X.mg X.base [("_law_ask" : Str), "_law_e", "_law_word"] x sg g cdg X.A X.stack s H E0).nox a ((a, oe) :: pn)) GF ⟨hr3.dp, hr3.un⟩ (hotG_suite hz hf) hz.1 hz.2.1 g3 mF kF bF (pa_cons (pe_var (i := 1) rfl (.inl s1)) (pa_cons (pe_var (i := 2) rfl (.inl s2)) pa_nil))) pa_nil))))))), ?_⟩
  exact ⟨rfl, hc, y f⟩
section OPN
open PySem PySem.Spec PyProof.Rows
/-! ### len(o) by an own __len__ -/
def rLenO (C : Addr) (sp : Sp) (E : XK) : List V → Hp → VK → Prop := fun xs H Q => ∃ (a dx : Addr) (fs : List (Str × V)), xs = [V.ref a] ∧ H a = some (.ins C dx fs) ∧ sp [.ref a] H (fun z H' => ∃ i : Int, z = .int i ∧ 0 ≤ i ∧ i < 2 ^ 63 ∧ Q (.int i) H') E
theorem call_lenO {X : Cx} {CX : CXT} {C g : Addr} {n : Nat} {fd : FuncData} {ps : List Str} {sp : Sp} {E : XK} (hs : PySem.W.findIn X.K (.ref C) "__len__" = some (some (.ref g))) (hf : PySem.W.isFn X.K (.ref g) = true) (F : FnOk X.prog X.w X.K X.mg X.base CX n g fd ps sp) (hr : Room (n + 1) X.A) (hb : Binds X.K fd ps []) (hx : Passes CX X E) : CallR X (.builtin "len") (rLenO C sp E) := by
  intro pins s σ H xs us Q I r h
  obtain ⟨a, dx, fs, rfl, e, q⟩ := h
  obtain ⟨u, rfl, ru⟩ := r.one
  cases (show u = Value.ref a from ru)
  obtain ⟨mA, O, _, _, _, _⟩ := ins_get I.hok e
  obtain ⟨od, J, _⟩ := O.look
  have r2 : Vals [V.ref a] [Value.ref a] := .cons rfl .nil
  have hl : ([Value.ref a] ++ []).length = ps.length := by
    have z := F.len _ _ _ _ q
    rw [List.append_nil]
    exact z
  refine Calls.call_function_entry PySem.kind_len PySem.plain_len PySem.entry_len (PySem.args_len1 _) ?_
  unfold Builtin.«len»
  refine wpAny_bind (m := oneArg "len" _) (wpAny_pure ?_)
  refine wpAny_bind (m := callSpecial? (.ref a) (Str.ofString "__len__")) (PySem.W.special_fn I.kIn J hs (beq_iff_eq.mp hf) (wpAny_mono (Q := EP X pins σ fun z H' => ∃ i : Int, z = .int i ∧ 0 ≤ i ∧ i < 2 ^ 63 ∧ Q (.int i) H') (E := X.xe) (wpAny_call (codeAny_mono (F.run X.A.in1 X.stack s H ⟨[.ref a], []⟩ [.ref a] [.ref a] _ E hr.in1 I.env0.in1 (by have z := hb s [.ref a] I.kIn hl; rw [List.append_nil] at z; exact z) r2 q) fun r s' hq => ?_)) (fun v s' hv => ?_) fun _ _ y => y))
  · cases r with
    | error e => exact hx pins σ H s e s' I hq
    | ok fl =>
      cases fl with
      | ret u => exact I.after hq
      | next => exact False.elim hq
      | brk => exact False.elim hq
      | cont => exact False.elim hq
  · obtain ⟨z, H', I', rz, i, rfl, h0, h1, qz⟩ := hv
    obtain ⟨t, rfl⟩ := (show ∃ t, v = Value.int i t from rz)
    refine wpAny_bind (wpAny_holding (wpAny_pure ?_))
    refine wpAny_bind (wpAny_letGo ?_)
    show wpAny _ _ (if i < 0 then _ else _) _ _ _
    rw [if_neg (by omega)]
    show wpAny _ _ (if i ≥ 2 ^ 63 then _ else _) _ _ _
    rw [if_neg (by omega)]
    exact wpAny_bind (wpAny_mkInt (wpAny_pure ⟨_, rfl, V.int i, H', I'.tok _, ⟨_, rfl⟩, qz⟩))
end OPN
/-! ### the tables: rows up to their periods, and what follows of them -/
def ent (row : List Nat) (b : Nat) : Nat := row.getD ((b - 1) % row.length) 0
def chain (N e : Nat) (up : List (List Nat)) : Nat → List Nat → Bool
  | v, [] => Nat.beq v N
  | v, x :: r => Nat.blt v N && (Nat.blt e v && (Nat.beq x (ent (up.getD (v - e - 1) []) (e + 1)) && chain N e up x r))
def rowOk (N e : Nat) (up : List (List Nat)) : List Nat → Bool
  | [] => false
  | v :: r => Nat.beq v (e + 1) && (Nat.beq (N % (r.length + 1)) 0 && chain N e up v r)
def chk (N : Nat) : Nat → List (List Nat) → Bool
  | _, [] => false
  | e, [r] => Nat.beq e N && (r == List.range' 1 N)
  | e, r :: s :: up => rowOk N e (s :: up) r && chk N (e + 1) (s :: up)
structure RowG (N : Nat) (R : Nat → List Nat) (e : Nat) (r : List Nat) : Prop where
  ne : 0 < r.length
  hd : r.getD 0 0 = e + 1
  lst : r.getD (r.length - 1) 0 = N
  dv : N % r.length = 0
  step : ∀ j, j + 1 < r.length → e < r.getD j 0 ∧ r.getD j 0 < N ∧ r.getD (j + 1) 0 = ent (R (r.getD j 0)) (e + 1)
theorem chain_of {N e : Nat} {up : List (List Nat)} : ∀ (r : List Nat) (v : Nat), chain N e up v r = true →
    (v :: r).getD r.length 0 = N ∧ ∀ j, j + 1 < (v :: r).length → e < (v :: r).getD j 0 ∧ (v :: r).getD j 0 < N ∧ (v :: r).getD (j + 1) 0 = ent (up.getD ((v :: r).getD j 0 - e - 1) []) (e + 1)
  | [], v, h => by
    refine ⟨Nat.eq_of_beq_eq_true h, fun j hj => ?_⟩
    simp at hj
  | x :: r, v, h => by
    have h : (Nat.blt v N && (Nat.blt e v && (Nat.beq x (ent (up.getD (v - e - 1) []) (e + 1)) && chain N e up x r))) = true := h
    rw [Bool.and_eq_true, Bool.and_eq_true, Bool.and_eq_true] at h
    obtain ⟨h1, h2, h3, h4⟩ := h
    obtain ⟨i1, i2⟩ := chain_of r x h4
    refine ⟨by simpa using i1, fun j hj => ?_⟩
    cases j with
    | zero => exact ⟨Nat.le_of_ble_eq_true h2, Nat.le_of_ble_eq_true h1, Nat.eq_of_beq_eq_true h3⟩
    | succ j =>
      have := i2 j (by simpa using hj)
      simpa using this
theorem chk_of {N : Nat} : ∀ (up : List (List Nat)) (e : Nat), chk N e up = true → e ≤ N ∧ up.length + e = N + 1 ∧ up.getD (N - e) [] = List.range' 1 N ∧ ∀ e', e ≤ e' → e' < N → RowG N (fun x => up.getD (x - e) []) e' (up.getD (e' - e) [])
  | [], e, h => by cases h
  | [r], e, h => by
    have h : (Nat.beq e N && (r == List.range' 1 N)) = true := h
    rw [Bool.and_eq_true] at h
    obtain rfl := Nat.eq_of_beq_eq_true h.1
    refine ⟨Nat.le_refl _, by simp; omega, ?_, fun e' h1 h2 => absurd h1 (by omega)⟩
    rw [Nat.sub_self]
    simpa using h.2
  | r :: s :: up, e, h => by
    have h : (rowOk N e (s :: up) r && chk N (e + 1) (s :: up)) = true := h
    rw [Bool.and_eq_true] at h
    obtain ⟨a1, a2, a3, a4⟩ := chk_of (s :: up) (e + 1) h.2
    have sh : ∀ x, e + 1 ≤ x → (r :: s :: up).getD (x - e) [] = (s :: up).getD (x - (e + 1)) [] := fun x hx => by
      obtain ⟨k, rfl⟩ : ∃ k, x = e + 1 + k := ⟨x - (e + 1), by omega⟩
      rw [show e + 1 + k - e = k + 1 by omega, show e + 1 + k - (e + 1) = k by omega]
      rfl
    refine ⟨by omega, by simp only [List.length_cons] at a2 ⊢; omega, by rw [sh N (by omega)]; exact a3, fun e' h1 h2 => ?_⟩
    rcases Nat.eq_or_lt_of_le h1 with rfl | h3
    · cases r with
      | nil => cases h.1
      | cons v r =>
        have z : (Nat.beq v (e + 1) && (Nat.beq (N % (r.length + 1)) 0 && chain N e (s :: up) v r)) = true := h.1
        rw [Bool.and_eq_true, Bool.and_eq_true] at z
        obtain ⟨z1, z2, z3⟩ := z
        obtain ⟨c1, c2⟩ := chain_of r v z3
        rw [show ((v :: r) :: s :: up).getD (e - e) [] = v :: r by rw [Nat.sub_self]; rfl]
        refine ⟨by simp, Nat.eq_of_beq_eq_true z1, c1, Nat.eq_of_beq_eq_true z2, fun j hj => ?_⟩
        obtain ⟨d1, d2, d3⟩ := c2 j hj
        refine ⟨d1, d2, d3.trans ?_⟩
        show _ = ent (((v :: r) :: s :: up).getD ((v :: r).getD j 0 - e) []) (e + 1)
        rw [sh _ d1, show (v :: r).getD j 0 - (e + 1) = (v :: r).getD j 0 - e - 1 by omega]
    · have g := a4 e' h3 h2
      rw [sh e' h3]
      refine ⟨g.ne, g.hd, g.lst, g.dv, fun j hj => ?_⟩
      obtain ⟨d1, d2, d3⟩ := g.step j hj
      refine ⟨d1, d2, d3.trans ?_⟩
      show ent ((s :: up).getD (_ - (e + 1)) []) _ = ent ((r :: s :: up).getD (_ - e) []) _
      rw [sh _ (by omega)]
/-- the rows of a table with N elements -/
structure Good (N : Nat) (T : List (List Nat)) : Prop where
  len : T.length = N
  pos : 0 < N
  top : T.getD (N - 1) [] = List.range' 1 N
  row : ∀ e, 1 ≤ e → e < N → RowG N (fun x => T.getD (x - 1) []) e (T.getD (e - 1) [])
theorem good_of {N : Nat} {T : List (List Nat)} (h : chk N 1 T = true) : Good N T := by
  obtain ⟨a1, a2, a3, a4⟩ := chk_of T 1 h
  exact ⟨by omega, a1, a3, a4⟩
def opT (T : List (List Nat)) (a b : Nat) : Nat := ent (T.getD (a - 1) []) b
section
variable {N : Nat} {T : List (List Nat)}
theorem lv_top (g : Good N T) {b : Nat} (h1 : 1 ≤ b) (h2 : b ≤ N) : opT T N b = b := by
  unfold opT ent
  rw [g.top, List.length_range', Nat.mod_eq_of_lt (by omega), List.getD_eq_getElem?_getD, List.getElem?_range' (by omega)]
  simp
  omega
theorem lv_one (g : Good N T) {a : Nat} (h1 : 1 ≤ a) (h2 : a < N) : opT T a 1 = a + 1 := by
  have r := g.row a h1 h2
  unfold opT ent
  rw [Nat.sub_self, Nat.zero_mod]
  exact r.hd
theorem lv_suc (g : Good N T) {a b : Nat} (h1 : 1 ≤ a) (h2 : a < N) (hb : 1 ≤ b) : opT T a (b + 1) = opT T (opT T a b) (a + 1) := by
  have r := g.row a h1 h2
  have hne : 0 < (T.getD (a - 1) []).length := r.ne
  have hlst : (T.getD (a - 1) []).getD ((T.getD (a - 1) []).length - 1) 0 = N := r.lst
  have hhd : (T.getD (a - 1) []).getD 0 0 = a + 1 := r.hd
  have hj := Nat.mod_lt (b - 1) hne
  have e1 : opT T a b = (T.getD (a - 1) []).getD ((b - 1) % (T.getD (a - 1) []).length) 0 := rfl
  have e2 : opT T a (b + 1) = (T.getD (a - 1) []).getD (b % (T.getD (a - 1) []).length) 0 := rfl
  have hm : b % (T.getD (a - 1) []).length = ((b - 1) % (T.getD (a - 1) []).length + 1) % (T.getD (a - 1) []).length := by
    rw [Nat.mod_add_mod, show b - 1 + 1 = b by omega]
  generalize hJ : (b - 1) % (T.getD (a - 1) []).length = j at *
  by_cases c : j + 1 < (T.getD (a - 1) []).length
  · have s := (r.step j c).2.2
    rw [e2, hm, Nat.mod_eq_of_lt c, e1]
    exact s
  · have hj' : j + 1 = (T.getD (a - 1) []).length := by omega
    rw [e2, hm, hj', Nat.mod_self, e1, show j = (T.getD (a - 1) []).length - 1 by omega, hlst, hhd, lv_top g (by omega) (by omega)]
theorem lv_gt (g : Good N T) {a b : Nat} (h1 : 1 ≤ a) (h2 : a < N) : a < opT T a b ∧ opT T a b ≤ N := by
  have r := g.row a h1 h2
  have hne : 0 < (T.getD (a - 1) []).length := r.ne
  have hlst : (T.getD (a - 1) []).getD ((T.getD (a - 1) []).length - 1) 0 = N := r.lst
  have hj := Nat.mod_lt (b - 1) hne
  have e1 : opT T a b = (T.getD (a - 1) []).getD ((b - 1) % (T.getD (a - 1) []).length) 0 := rfl
  rw [e1]
  generalize (b - 1) % (T.getD (a - 1) []).length = j at *
  by_cases c : j + 1 < (T.getD (a - 1) []).length
  · have s := r.step j c
    exact ⟨s.1, Nat.le_of_lt s.2.1⟩
  · rw [show j = (T.getD (a - 1) []).length - 1 by omega, hlst]
    omega
theorem lv_rng (g : Good N T) {a b : Nat} (h1 : 1 ≤ a) (h2 : a ≤ N) (h3 : 1 ≤ b) (h4 : b ≤ N) : 1 ≤ opT T a b ∧ opT T a b ≤ N := by
  rcases Nat.eq_or_lt_of_le h2 with rfl | h
  · rw [lv_top g h3 h4]
    exact ⟨h3, h4⟩
  · have := lv_gt (b := b) g h1 h
    omega
theorem lv_last (g : Good N T) {a : Nat} (h1 : 1 ≤ a) (h2 : a ≤ N) : opT T a N = N := by
  rcases Nat.eq_or_lt_of_le h2 with rfl | h
  · exact lv_top g h1 (Nat.le_refl _)
  · have r := g.row a h1 h
    have hne : 0 < (T.getD (a - 1) []).length := r.ne
    have hlst : (T.getD (a - 1) []).getD ((T.getD (a - 1) []).length - 1) 0 = N := r.lst
    have hdv : N % (T.getD (a - 1) []).length = 0 := r.dv
    show (T.getD (a - 1) []).getD ((N - 1) % (T.getD (a - 1) []).length) 0 = N
    generalize (T.getD (a - 1) []).length = p at *
    have e : (N - 1) % p = p - 1 := by
      have p0 := g.pos
      obtain ⟨k, hk⟩ := Nat.dvd_of_mod_eq_zero hdv
      have k0 : 0 < k := by
        rcases Nat.eq_zero_or_pos k with rfl | z
        · omega
        · exact z
      obtain ⟨m, rfl⟩ : ∃ m, k = m + 1 := ⟨k - 1, by omega⟩
      rw [hk, Nat.mul_succ, show p * m + p - 1 = (p - 1) + p * m by omega, Nat.add_mul_mod_self_left, Nat.mod_eq_of_lt (by omega)]
    rw [e, hlst]
theorem lv_ld (g : Good N T) : ∀ (k a : Nat), 1 ≤ a → a ≤ N → N - a ≤ k → ∀ (m b : Nat), 1 ≤ b → b ≤ N → N - b ≤ m → ∀ c, 1 ≤ c → c ≤ N → opT T a (opT T b c) = opT T (opT T a b) (opT T a c) := by
  intro k
  induction k with
  | zero =>
    intro a a1 a2 a3 m b b1 b2 _ c c1 c2
    obtain rfl : a = N := by omega
    have := lv_rng g b1 b2 c1 c2
    rw [lv_top g this.1 this.2, lv_top g b1 b2, lv_top g c1 c2]
  | succ k ihk =>
    intro a a1 a2 a3
    rcases Nat.eq_or_lt_of_le a2 with ha | ha
    · exact ihk a a1 a2 (by omega)
    intro m
    induction m with
    | zero =>
      intro b b1 b2 b3 c c1 c2
      obtain rfl : b = N := by omega
      have := lv_rng g a1 a2 c1 c2
      rw [lv_top g c1 c2, lv_last g a1 a2, lv_top g this.1 this.2]
    | succ m ihm =>
      intro b b1 b2 b3
      rcases Nat.eq_or_lt_of_le b2 with hb | hb
      · exact ihm b b1 b2 (by omega)
      intro c c1
      induction c with
      | zero => omega
      | succ c ihc =>
        intro c2
        rcases Nat.eq_zero_or_pos c with rfl | c0
        · rw [Nat.zero_add, lv_one g b1 hb, lv_one g a1 ha]
          exact lv_suc g a1 ha b1
        · have x := lv_gt (b := c) g b1 hb
          have y := lv_gt (b := b) g a1 ha
          have z := lv_rng g a1 a2 c0 (Nat.le_of_lt c2)
          rw [lv_suc g b1 hb c0, ihm (opT T b c) (by omega) x.2 (by omega) (b + 1) (by omega) (by omega), ihc c0 (by omega), lv_suc g a1 ha b1,
            ← ihk (opT T a b) (by omega) y.2 (by omega) N (opT T a c) z.1 z.2 (by omega) (a + 1) (by omega) (by omega), ← lv_suc g a1 ha c0]
theorem lv_dist (g : Good N T) {a b c : Nat} (a1 : 1 ≤ a) (a2 : a ≤ N) (b1 : 1 ≤ b) (b2 : b ≤ N) (c1 : 1 ≤ c) (c2 : c ≤ N) : opT T a (opT T b c) = opT T (opT T a b) (opT T a c) :=
  lv_ld g N a a1 a2 (by omega) N b b1 b2 (by omega) c c1 c2
end
def tb0 : List (List Nat) := [[1]]
def tb1 : List (List Nat) := [[2], List.range' 1 2]
def tb2 : List (List Nat) := [[2, 4], [3, 4], [4], List.range' 1 4]
def tb3 : List (List Nat) := [[2, 4, 6, 8], [3, 4, 7, 8], [4, 8], [5, 6, 7, 8], [6, 8], [7, 8], [8], List.range' 1 8]
def tb4 : List (List Nat) := [[2, 12, 14, 16], [3, 12, 15, 16], [4, 8, 12, 16], [5, 6, 7, 8, 13, 14, 15, 16], [6, 8, 14, 16], [7, 8, 15, 16], [8, 16], [9, 10, 11, 12, 13, 14, 15, 16], [10, 12, 14, 16], [11, 12, 15, 16], [12, 16], [13, 14, 15, 16], [14, 16], [15, 16], [16], List.range' 1 16]
def tb5 : List (List Nat) := [[2, 12, 14, 16, 18, 28, 30, 32], [3, 12, 15, 16, 19, 28, 31, 32], [4, 8, 12, 16, 20, 24, 28, 32], [5, 6, 7, 8, 13, 14, 15, 16, 21, 22, 23, 24, 29, 30, 31, 32], [6, 24, 30, 32], [7, 24, 31, 32], [8, 16, 24, 32], [9, 10, 11, 12, 13, 14, 15, 16, 25, 26, 27, 28, 29, 30, 31, 32], [10, 28, 30, 32], [11, 28, 31, 32], [12, 16, 28, 32], [13, 14, 15, 16, 29, 30, 31, 32], [14, 16, 30, 32], [15, 16, 31, 32], [16, 32], [17, 18, 19, 20, 21, 22, 23, 24, 25, 26, 27, 28, 29, 30, 31, 32], [18, 28, 30, 32], [19, 28, 31, 32], [20, 24, 28, 32], [21, 22, 23, 24, 29, 30, 31, 32], [22, 24, 30, 32], [23, 24, 31, 32], [24, 32], [25, 26, 27, 28, 29, 30, 31, 32], [26, 28, 30, 32], [27, 28, 31, 32], [28, 32], [29, 30, 31, 32], [30, 32], [31, 32], [32], List.range' 1 32]
def tb6 : List (List Nat) := [[2, 12, 14, 48, 50, 60, 62, 64], [3, 12, 15, 48, 51, 60, 63, 64], [4, 8, 12, 16, 20, 24, 28, 32, 36, 40, 44, 48, 52, 56, 60, 64], [5, 6, 7, 8, 45, 46, 47, 48, 53, 54, 55, 56, 61, 62, 63, 64], [6, 56, 62, 64], [7, 56, 63, 64], [8, 48, 56, 64], [9, 10, 11, 12, 45, 46, 47, 48, 57, 58, 59, 60, 61, 62, 63, 64], [10, 60, 62, 64], [11, 60, 63, 64], [12, 48, 60, 64], [13, 14, 15, 16, 29, 30, 31, 32, 45, 46, 47, 48, 61, 62, 63, 64], [14, 48, 62, 64], [15, 48, 63, 64], [16, 32, 48, 64], [17, 18, 19, 20, 21, 22, 23, 24, 25, 26, 27, 28, 29, 30, 31, 32, 49, 50, 51, 52, 53, 54, 55, 56, 57, 58, 59, 60, 61, 62, 63, 64], [18, 28, 30, 32, 50, 60, 62, 64], [19, 28, 31, 32, 51, 60, 63, 64], [20, 24, 28, 32, 52, 56, 60, 64], [21, 22, 23, 24, 29, 30, 31, 32, 53, 54, 55, 56, 61, 62, 63, 64], [22, 56, 62, 64], [23, 56, 63, 64], [24, 32, 56, 64], [25, 26, 27, 28, 29, 30, 31, 32, 57, 58, 59, 60, 61, 62, 63, 64], [26, 60, 62, 64], [27, 60, 63, 64], [28, 32, 60, 64], [29, 30, 31, 32, 61, 62, 63, 64], [30, 32, 62, 64], [31, 32, 63, 64], [32, 64], [33, 34, 35, 36, 37, 38, 39, 40, 41, 42, 43, 44, 45, 46, 47, 48, 49, 50, 51, 52, 53, 54, 55, 56, 57, 58, 59, 60, 61, 62, 63, 64], [34, 44, 46, 48, 50, 60, 62, 64], [35, 44, 47, 48, 51, 60, 63, 64], [36, 40, 44, 48, 52, 56, 60, 64], [37, 38, 39, 40, 45, 46, 47, 48, 53, 54, 55, 56, 61, 62, 63, 64], [38, 56, 62, 64], [39, 56, 63, 64], [40, 48, 56, 64], [41, 42, 43, 44, 45, 46, 47, 48, 57, 58, 59, 60, 61, 62, 63, 64], [42, 60, 62, 64], [43, 60, 63, 64], [44, 48, 60, 64], [45, 46, 47, 48, 61, 62, 63, 64], [46, 48, 62, 64], [47, 48, 63, 64], [48, 64], [49, 50, 51, 52, 53, 54, 55, 56, 57, 58, 59, 60, 61, 62, 63, 64], [50, 60, 62, 64], [51, 60, 63, 64], [52, 56, 60, 64], [53, 54, 55, 56, 61, 62, 63, 64], [54, 56, 62, 64], [55, 56, 63, 64], [56, 64], [57, 58, 59, 60, 61, 62, 63, 64], [58, 60, 62, 64], [59, 60, 63, 64], [60, 64], [61, 62, 63, 64], [62, 64], [63, 64], [64], List.range' 1 64]
def tb7 : List (List Nat) := [[2, 12, 14, 112, 114, 124, 126, 128], [3, 12, 15, 48, 51, 60, 63, 64, 67, 76, 79, 112, 115, 124, 127, 128], [4, 8, 12, 80, 84, 88, 92, 96, 100, 104, 108, 112, 116, 120, 124, 128], [5, 6, 7, 8, 109, 110, 111, 112, 117, 118, 119, 120, 125, 126, 127, 128], [6, 120, 126, 128], [7, 120, 127, 128], [8, 112, 120, 128], [9, 10, 11, 12, 109, 110, 111, 112, 121, 122, 123, 124, 125, 126, 127, 128], [10, 124, 126, 128], [11, 124, 127, 128], [12, 112, 124, 128], [13, 14, 15, 80, 93, 94, 95, 96, 109, 110, 111, 112, 125, 126, 127, 128], [14, 112, 126, 128], [15, 112, 127, 128], [16, 32, 48, 64, 80, 96, 112, 128], [17, 18, 19, 20, 21, 22, 23, 24, 25, 26, 27, 28, 29, 30, 31, 32, 49, 50, 51, 52, 53, 54, 55, 56, 57, 58, 59, 60, 61, 62, 63, 64, 81, 82, 83, 84, 85, 86, 87, 88, 89, 90, 91, 92, 93, 94, 95, 96, 113, 114, 115, 116, 117, 118, 119, 120, 121, 122, 123, 124, 125, 126, 127, 128], [18, 28, 30, 96, 114, 124, 126, 128], [19, 28, 31, 96, 115, 124, 127, 128], [20, 24, 28, 32, 52, 56, 60, 64, 84, 88, 92, 96, 116, 120, 124, 128], [21, 22, 23, 24, 93, 94, 95, 96, 117, 118, 119, 120, 125, 126, 127, 128], [22, 120, 126, 128], [23, 120, 127, 128], [24, 96, 120, 128], [25, 26, 27, 28, 93, 94, 95, 96, 121, 122, 123, 124, 125, 126, 127, 128], [26, 124, 126, 128], [27, 124, 127, 128], [28, 96, 124, 128], [29, 30, 31, 32, 61, 62, 63, 64, 93, 94, 95, 96, 125, 126, 127, 128], [30, 96, 126, 128], [31, 96, 127, 128], [32, 64, 96, 128], [33, 34, 35, 36, 37, 38, 39, 40, 41, 42, 43, 44, 45, 46, 47, 48, 49, 50, 51, 52, 53, 54, 55, 56, 57, 58, 59, 60, 61, 62, 63, 64, 97, 98, 99, 100, 101, 102, 103, 104, 105, 106, 107, 108, 109, 110, 111, 112, 113, 114, 115, 116, 117, 118, 119, 120, 121, 122, 123, 124, 125, 126, 127, 128], [34, 44, 46, 112, 114, 124, 126, 128], [35, 44, 47, 112, 115, 124, 127, 128], [36, 40, 44, 48, 52, 56, 60, 64, 100, 104, 108, 112, 116, 120, 124, 128], [37, 38, 39, 40, 109, 110, 111, 112, 117, 118, 119, 120, 125, 126, 127, 128], [38, 120, 126, 128], [39, 120, 127, 128], [40, 112, 120, 128], [41, 42, 43, 44, 109, 110, 111, 112, 121, 122, 123, 124, 125, 126, 127, 128], [42, 124, 126, 128], [43, 124, 127, 128], [44, 112, 124, 128], [45, 46, 47, 48, 61, 62, 63, 64, 109, 110, 111, 112, 125, 126, 127, 128], [46, 112, 126, 128], [47, 112, 127, 128], [48, 64, 112, 128], [49, 50, 51, 52, 53, 54, 55, 56, 57, 58, 59, 60, 61, 62, 63, 64, 113, 114, 115, 116, 117, 118, 119, 120, 121, 122, 123, 124, 125, 126, 127, 128], [50, 60, 62, 64, 114, 124, 126, 128], [51, 60, 63, 64, 115, 124, 127, 128], [52, 56, 60, 64, 116, 120, 124, 128], [53, 54, 55, 56, 61, 62, 63, 64, 117, 118, 119, 120, 125, 126, 127, 128], [54, 120, 126, 128], [55, 120, 127, 128], [56, 64, 120, 128], [57, 58, 59, 60, 61, 62, 63, 64, 121, 122, 123, 124, 125, 126, 127, 128], [58, 124, 126, 128], [59, 124, 127, 128], [60, 64, 124, 128], [61, 62, 63, 64, 125, 126, 127, 128], [62, 64, 126, 128], [63, 64, 127, 128], [64, 128], [65, 66, 67, 68, 69, 70, 71, 72, 73, 74, 75, 76, 77, 78, 79, 80, 81, 82, 83, 84, 85, 86, 87, 88, 89, 90, 91, 92, 93, 94, 95, 96, 97, 98, 99, 100, 101, 102, 103, 104, 105, 106, 107, 108, 109, 110, 111, 112, 113, 114, 115, 116, 117, 118, 119, 120, 121, 122, 123, 124, 125, 126, 127, 128], [66, 76, 78, 112, 114, 124, 126, 128], [67, 76, 79, 112, 115, 124, 127, 128], [68, 72, 76, 80, 84, 88, 92, 96, 100, 104, 108, 112, 116, 120, 124, 128], [69, 70, 71, 72, 109, 110, 111, 112, 117, 118, 119, 120, 125, 126, 127, 128], [70, 120, 126, 128], [71, 120, 127, 128], [72, 112, 120, 128], [73, 74, 75, 76, 109, 110, 111, 112, 121, 122, 123, 124, 125, 126, 127, 128], [74, 124, 126, 128], [75, 124, 127, 128], [76, 112, 124, 128], [77, 78, 79, 80, 93, 94, 95, 96, 109, 110, 111, 112, 125, 126, 127, 128], [78, 112, 126, 128], [79, 112, 127, 128], [80, 96, 112, 128], [81, 82, 83, 84, 85, 86, 87, 88, 89, 90, 91, 92, 93, 94, 95, 96, 113, 114, 115, 116, 117, 118, 119, 120, 121, 122, 123, 124, 125, 126, 127, 128], [82, 92, 94, 96, 114, 124, 126, 128], [83, 92, 95, 96, 115, 124, 127, 128], [84, 88, 92, 96, 116, 120, 124, 128], [85, 86, 87, 88, 93, 94, 95, 96, 117, 118, 119, 120, 125, 126, 127, 128], [86, 120, 126, 128], [87, 120, 127, 128], [88, 96, 120, 128], [89, 90, 91, 92, 93, 94, 95, 96, 121, 122, 123, 124, 125, 126, 127, 128], [90, 124, 126, 128], [91, 124, 127, 128], [92, 96, 124, 128], [93, 94, 95, 96, 125, 126, 127, 128], [94, 96, 126, 128], [95, 96, 127, 128], [96, 128], [97, 98, 99, 100, 101, 102, 103, 104, 105, 106, 107, 108, 109, 110, 111, 112, 113, 114, 115, 116, 117, 118, 119, 120, 121, 122, 123, 124, 125, 126, 127, 128], [98, 108, 110, 112, 114, 124, 126, 128], [99, 108, 111, 112, 115, 124, 127, 128], [100, 104, 108, 112, 116, 120, 124, 128], [101, 102, 103, 104, 109, 110, 111, 112, 117, 118, 119, 120, 125, 126, 127, 128], [102, 120, 126, 128], [103, 120, 127, 128], [104, 112, 120, 128], [105, 106, 107, 108, 109, 110, 111, 112, 121, 122, 123, 124, 125, 126, 127, 128], [106, 124, 126, 128], [107, 124, 127, 128], [108, 112, 124, 128], [109, 110, 111, 112, 125, 126, 127, 128], [110, 112, 126, 128], [111, 112, 127, 128], [112, 128], [113, 114, 115, 116, 117, 118, 119, 120, 121, 122, 123, 124, 125, 126, 127, 128], [114, 124, 126, 128], [115, 124, 127, 128], [116, 120, 124, 128], [117, 118, 119, 120, 125, 126, 127, 128], [118, 120, 126, 128], [119, 120, 127, 128], [120, 128], [121, 122, 123, 124, 125, 126, 127, 128], [122, 124, 126, 128], [123, 124, 127, 128], [124, 128], [125, 126, 127, 128], [126, 128], [127, 128], [128], List.range' 1 128]
def tb8 : List (List Nat) := [[2, 12, 14, 240, 242, 252, 254, 256], [3, 12, 15, 48, 51, 60, 63, 192, 195, 204, 207, 240, 243, 252, 255, 256], [4, 8, 12, 208, 212, 216, 220, 224, 228, 232, 236, 240, 244, 248, 252, 256], [5, 6, 7, 8, 237, 238, 239, 240, 245, 246, 247, 248, 253, 254, 255, 256], [6, 248, 254, 256], [7, 248, 255, 256], [8, 240, 248, 256], [9, 10, 11, 12, 237, 238, 239, 240, 249, 250, 251, 252, 253, 254, 255, 256], [10, 252, 254, 256], [11, 252, 255, 256], [12, 240, 252, 256], [13, 14, 15, 208, 221, 222, 223, 224, 237, 238, 239, 240, 253, 254, 255, 256], [14, 240, 254, 256], [15, 240, 255, 256], [16, 32, 48, 64, 80, 96, 112, 128, 144, 160, 176, 192, 208, 224, 240, 256], [17, 18, 19, 20, 21, 22, 23, 24, 25, 26, 27, 28, 29, 30, 31, 32, 177, 178, 179, 180, 181, 182, 183, 184, 185, 186, 187, 188, 189, 190, 191, 192, 209, 210, 211, 212, 213, 214, 215, 216, 217, 218, 219, 220, 221, 222, 223, 224, 241, 242, 243, 244, 245, 246, 247, 248, 249, 250, 251, 252, 253, 254, 255, 256], [18, 28, 30, 224, 242, 252, 254, 256], [19, 28, 31, 224, 243, 252, 255, 256], [20, 24, 28, 32, 180, 184, 188, 192, 212, 216, 220, 224, 244, 248, 252, 256], [21, 22, 23, 24, 221, 222, 223, 224, 245, 246, 247, 248, 253, 254, 255, 256], [22, 248, 254, 256], [23, 248, 255, 256], [24, 224, 248, 256], [25, 26, 27, 28, 221, 222, 223, 224, 249, 250, 251, 252, 253, 254, 255, 256], [26, 252, 254, 256], [27, 252, 255, 256], [28, 224, 252, 256], [29, 30, 31, 32, 189, 190, 191, 192, 221, 222, 223, 224, 253, 254, 255, 256], [30, 224, 254, 256], [31, 224, 255, 256], [32, 192, 224, 256], [33, 34, 35, 36, 37, 38, 39, 40, 41, 42, 43, 44, 45, 46, 47, 48, 177, 178, 179, 180, 181, 182, 183, 184, 185, 186, 187, 188, 189, 190, 191, 192, 225, 226, 227, 228, 229, 230, 231, 232, 233, 234, 235, 236, 237, 238, 239, 240, 241, 242, 243, 244, 245, 246, 247, 248, 249, 250, 251, 252, 253, 254, 255, 256], [34, 44, 46, 240, 242, 252, 254, 256], [35, 44, 47, 240, 243, 252, 255, 256], [36, 40, 44, 48, 180, 184, 188, 192, 228, 232, 236, 240, 244, 248, 252, 256], [37, 38, 39, 40, 237, 238, 239, 240, 245, 246, 247, 248, 253, 254, 255, 256], [38, 248, 254, 256], [39, 248, 255, 256], [40, 240, 248, 256], [41, 42, 43, 44, 237, 238, 239, 240, 249, 250, 251, 252, 253, 254, 255, 256], [42, 252, 254, 256], [43, 252, 255, 256], [44, 240, 252, 256], [45, 46, 47, 48, 189, 190, 191, 192, 237, 238, 239, 240, 253, 254, 255, 256], [46, 240, 254, 256], [47, 240, 255, 256], [48, 192, 240, 256], [49, 50, 51, 52, 53, 54, 55, 56, 57, 58, 59, 60, 61, 62, 63, 64, 113, 114, 115, 116, 117, 118, 119, 120, 121, 122, 123, 124, 125, 126, 127, 128, 177, 178, 179, 180, 181, 182, 183, 184, 185, 186, 187, 188, 189, 190, 191, 192, 241, 242, 243, 244, 245, 246, 247, 248, 249, 250, 251, 252, 253, 254, 255, 256], [50, 60, 62, 192, 242, 252, 254, 256], [51, 60, 63, 192, 243, 252, 255, 256], [52, 56, 60, 64, 116, 120, 124, 128, 180, 184, 188, 192, 244, 248, 252, 256], [53, 54, 55, 56, 189, 190, 191, 192, 245, 246, 247, 248, 253, 254, 255, 256], [54, 248, 254, 256], [55, 248, 255, 256], [56, 192, 248, 256], [57, 58, 59, 60, 189, 190, 191, 192, 249, 250, 251, 252, 253, 254, 255, 256], [58, 252, 254, 256], [59, 252, 255, 256], [60, 192, 252, 256], [61, 62, 63, 64, 125, 126, 127, 128, 189, 190, 191, 192, 253, 254, 255, 256], [62, 192, 254, 256], [63, 192, 255, 256], [64, 128, 192, 256], [65, 66, 67, 68, 69, 70, 71, 72, 73, 74, 75, 76, 77, 78, 79, 80, 81, 82, 83, 84, 85, 86, 87, 88, 89, 90, 91, 92, 93, 94, 95, 96, 97, 98, 99, 100, 101, 102, 103, 104, 105, 106, 107, 108, 109, 110, 111, 112, 113, 114, 115, 116, 117, 118, 119, 120, 121, 122, 123, 124, 125, 126, 127, 128, 193, 194, 195, 196, 197, 198, 199, 200, 201, 202, 203, 204, 205, 206, 207, 208, 209, 210, 211, 212, 213, 214, 215, 216, 217, 218, 219, 220, 221, 222, 223, 224, 225, 226, 227, 228, 229, 230, 231, 232, 233, 234, 235, 236, 237, 238, 239, 240, 241, 242, 243, 244, 245, 246, 247, 248, 249, 250, 251, 252, 253, 254, 255, 256], [66, 76, 78, 240, 242, 252, 254, 256], [67, 76, 79, 112, 115, 124, 127, 128, 195, 204, 207, 240, 243, 252, 255, 256], [68, 72, 76, 208, 212, 216, 220, 224, 228, 232, 236, 240, 244, 248, 252, 256], [69, 70, 71, 72, 237, 238, 239, 240, 245, 246, 247, 248, 253, 254, 255, 256], [70, 248, 254, 256], [71, 248, 255, 256], [72, 240, 248, 256], [73, 74, 75, 76, 237, 238, 239, 240, 249, 250, 251, 252, 253, 254, 255, 256], [74, 252, 254, 256], [75, 252, 255, 256], [76, 240, 252, 256], [77, 78, 79, 208, 221, 222, 223, 224, 237, 238, 239, 240, 253, 254, 255, 256], [78, 240, 254, 256], [79, 240, 255, 256], [80, 96, 112, 128, 208, 224, 240, 256], [81, 82, 83, 84, 85, 86, 87, 88, 89, 90, 91, 92, 93, 94, 95, 96, 113, 114, 115, 116, 117, 118, 119, 120, 121, 122, 123, 124, 125, 126, 127, 128, 209, 210, 211, 212, 213, 214, 215, 216, 217, 218, 219, 220, 221, 222, 223, 224, 241, 242, 243, 244, 245, 246, 247, 248, 249, 250, 251, 252, 253, 254, 255, 256], [82, 92, 94, 224, 242, 252, 254, 256], [83, 92, 95, 224, 243, 252, 255, 256], [84, 88, 92, 96, 116, 120, 124, 128, 212, 216, 220, 224, 244, 248, 252, 256], [85, 86, 87, 88, 221, 222, 223, 224, 245, 246, 247, 248, 253, 254, 255, 256], [86, 248, 254, 256], [87, 248, 255, 256], [88, 224, 248, 256], [89, 90, 91, 92, 221, 222, 223, 224, 249, 250, 251, 252, 253, 254, 255, 256], [90, 252, 254, 256], [91, 252, 255, 256], [92, 224, 252, 256], [93, 94, 95, 96, 125, 126, 127, 128, 221, 222, 223, 224, 253, 254, 255, 256], [94, 224, 254, 256], [95, 224, 255, 256], [96, 128, 224, 256], [97, 98, 99, 100, 101, 102, 103, 104, 105, 106, 107, 108, 109, 110, 111, 112, 113, 114, 115, 116, 117, 118, 119, 120, 121, 122, 123, 124, 125, 126, 127, 128, 225, 226, 227, 228, 229, 230, 231, 232, 233, 234, 235, 236, 237, 238, 239, 240, 241, 242, 243, 244, 245, 246, 247, 248, 249, 250, 251, 252, 253, 254, 255, 256], [98, 108, 110, 240, 242, 252, 254, 256], [99, 108, 111, 240, 243, 252, 255, 256], [100, 104, 108, 112, 116, 120, 124, 128, 228, 232, 236, 240, 244, 248, 252, 256], [101, 102, 103, 104, 237, 238, 239, 240, 245, 246, 247, 248, 253, 254, 255, 256], [102, 248, 254, 256], [103, 248, 255, 256], [104, 240, 248, 256], [105, 106, 107, 108, 237, 238, 239, 240, 249, 250, 251, 252, 253, 254, 255, 256], [106, 252, 254, 256], [107, 252, 255, 256], [108, 240, 252, 256], [109, 110, 111, 112, 125, 126, 127, 128, 237, 238, 239, 240, 253, 254, 255, 256], [110, 240, 254, 256], [111, 240, 255, 256], [112, 128, 240, 256], [113, 114, 115, 116, 117, 118, 119, 120, 121, 122, 123, 124, 125, 126, 127, 128, 241, 242, 243, 244, 245, 246, 247, 248, 249, 250, 251, 252, 253, 254, 255, 256], [114, 124, 126, 128, 242, 252, 254, 256], [115, 124, 127, 128, 243, 252, 255, 256], [116, 120, 124, 128, 244, 248, 252, 256], [117, 118, 119, 120, 125, 126, 127, 128, 245, 246, 247, 248, 253, 254, 255, 256], [118, 248, 254, 256], [119, 248, 255, 256], [120, 128, 248, 256], [121, 122, 123, 124, 125, 126, 127, 128, 249, 250, 251, 252, 253, 254, 255, 256], [122, 252, 254, 256], [123, 252, 255, 256], [124, 128, 252, 256], [125, 126, 127, 128, 253, 254, 255, 256], [126, 128, 254, 256], [127, 128, 255, 256], [128, 256], [129, 130, 131, 132, 133, 134, 135, 136, 137, 138, 139, 140, 141, 142, 143, 144, 145, 146, 147, 148, 149, 150, 151, 152, 153, 154, 155, 156, 157, 158, 159, 160, 161, 162, 163, 164, 165, 166, 167, 168, 169, 170, 171, 172, 173, 174, 175, 176, 177, 178, 179, 180, 181, 182, 183, 184, 185, 186, 187, 188, 189, 190, 191, 192, 193, 194, 195, 196, 197, 198, 199, 200, 201, 202, 203, 204, 205, 206, 207, 208, 209, 210, 211, 212, 213, 214, 215, 216, 217, 218, 219, 220, 221, 222, 223, 224, 225, 226, 227, 228, 229, 230, 231, 232, 233, 234, 235, 236, 237, 238, 239, 240, 241, 242, 243, 244, 245, 246, 247, 248, 249, 250, 251, 252, 253, 254, 255, 256], [130, 140, 142, 240, 242, 252, 254, 256], [131, 140, 143, 176, 179, 188, 191, 192, 195, 204, 207, 240, 243, 252, 255, 256], [132, 136, 140, 208, 212, 216, 220, 224, 228, 232, 236, 240, 244, 248, 252, 256], [133, 134, 135, 136, 237, 238, 239, 240, 245, 246, 247, 248, 253, 254, 255, 256], [134, 248, 254, 256], [135, 248, 255, 256], [136, 240, 248, 256], [137, 138, 139, 140, 237, 238, 239, 240, 249, 250, 251, 252, 253, 254, 255, 256], [138, 252, 254, 256], [139, 252, 255, 256], [140, 240, 252, 256], [141, 142, 143, 208, 221, 222, 223, 224, 237, 238, 239, 240, 253, 254, 255, 256], [142, 240, 254, 256], [143, 240, 255, 256], [144, 160, 176, 192, 208, 224, 240, 256], [145, 146, 147, 148, 149, 150, 151, 152, 153, 154, 155, 156, 157, 158, 159, 160, 177, 178, 179, 180, 181, 182, 183, 184, 185, 186, 187, 188, 189, 190, 191, 192, 209, 210, 211, 212, 213, 214, 215, 216, 217, 218, 219, 220, 221, 222, 223, 224, 241, 242, 243, 244, 245, 246, 247, 248, 249, 250, 251, 252, 253, 254, 255, 256], [146, 156, 158, 224, 242, 252, 254, 256], [147, 156, 159, 224, 243, 252, 255, 256], [148, 152, 156, 160, 180, 184, 188, 192, 212, 216, 220, 224, 244, 248, 252, 256], [149, 150, 151, 152, 221, 222, 223, 224, 245, 246, 247, 248, 253, 254, 255, 256], [150, 248, 254, 256], [151, 248, 255, 256], [152, 224, 248, 256], [153, 154, 155, 156, 221, 222, 223, 224, 249, 250, 251, 252, 253, 254, 255, 256], [154, 252, 254, 256], [155, 252, 255, 256], [156, 224, 252, 256], [157, 158, 159, 160, 189, 190, 191, 192, 221, 222, 223, 224, 253, 254, 255, 256], [158, 224, 254, 256], [159, 224, 255, 256], [160, 192, 224, 256], [161, 162, 163, 164, 165, 166, 167, 168, 169, 170, 171, 172, 173, 174, 175, 176, 177, 178, 179, 180, 181, 182, 183, 184, 185, 186, 187, 188, 189, 190, 191, 192, 225, 226, 227, 228, 229, 230, 231, 232, 233, 234, 235, 236, 237, 238, 239, 240, 241, 242, 243, 244, 245, 246, 247, 248, 249, 250, 251, 252, 253, 254, 255, 256], [162, 172, 174, 240, 242, 252, 254, 256], [163, 172, 175, 240, 243, 252, 255, 256], [164, 168, 172, 176, 180, 184, 188, 192, 228, 232, 236, 240, 244, 248, 252, 256], [165, 166, 167, 168, 237, 238, 239, 240, 245, 246, 247, 248, 253, 254, 255, 256], [166, 248, 254, 256], [167, 248, 255, 256], [168, 240, 248, 256], [169, 170, 171, 172, 237, 238, 239, 240, 249, 250, 251, 252, 253, 254, 255, 256], [170, 252, 254, 256], [171, 252, 255, 256], [172, 240, 252, 256], [173, 174, 175, 176, 189, 190, 191, 192, 237, 238, 239, 240, 253, 254, 255, 256], [174, 240, 254, 256], [175, 240, 255, 256], [176, 192, 240, 256], [177, 178, 179, 180, 181, 182, 183, 184, 185, 186, 187, 188, 189, 190, 191, 192, 241, 242, 243, 244, 245, 246, 247, 248, 249, 250, 251, 252, 253, 254, 255, 256], [178, 188, 190, 192, 242, 252, 254, 256], [179, 188, 191, 192, 243, 252, 255, 256], [180, 184, 188, 192, 244, 248, 252, 256], [181, 182, 183, 184, 189, 190, 191, 192, 245, 246, 247, 248, 253, 254, 255, 256], [182, 248, 254, 256], [183, 248, 255, 256], [184, 192, 248, 256], [185, 186, 187, 188, 189, 190, 191, 192, 249, 250, 251, 252, 253, 254, 255, 256], [186, 252, 254, 256], [187, 252, 255, 256], [188, 192, 252, 256], [189, 190, 191, 192, 253, 254, 255, 256], [190, 192, 254, 256], [191, 192, 255, 256], [192, 256], [193, 194, 195, 196, 197, 198, 199, 200, 201, 202, 203, 204, 205, 206, 207, 208, 209, 210, 211, 212, 213, 214, 215, 216, 217, 218, 219, 220, 221, 222, 223, 224, 225, 226, 227, 228, 229, 230, 231, 232, 233, 234, 235, 236, 237, 238, 239, 240, 241, 242, 243, 244, 245, 246, 247, 248, 249, 250, 251, 252, 253, 254, 255, 256], [194, 204, 206, 240, 242, 252, 254, 256], [195, 204, 207, 240, 243, 252, 255, 256], [196, 200, 204, 208, 212, 216, 220, 224, 228, 232, 236, 240, 244, 248, 252, 256], [197, 198, 199, 200, 237, 238, 239, 240, 245, 246, 247, 248, 253, 254, 255, 256], [198, 248, 254, 256], [199, 248, 255, 256], [200, 240, 248, 256], [201, 202, 203, 204, 237, 238, 239, 240, 249, 250, 251, 252, 253, 254, 255, 256], [202, 252, 254, 256], [203, 252, 255, 256], [204, 240, 252, 256], [205, 206, 207, 208, 221, 222, 223, 224, 237, 238, 239, 240, 253, 254, 255, 256], [206, 240, 254, 256], [207, 240, 255, 256], [208, 224, 240, 256], [209, 210, 211, 212, 213, 214, 215, 216, 217, 218, 219, 220, 221, 222, 223, 224, 241, 242, 243, 244, 245, 246, 247, 248, 249, 250, 251, 252, 253, 254, 255, 256], [210, 220, 222, 224, 242, 252, 254, 256], [211, 220, 223, 224, 243, 252, 255, 256], [212, 216, 220, 224, 244, 248, 252, 256], [213, 214, 215, 216, 221, 222, 223, 224, 245, 246, 247, 248, 253, 254, 255, 256], [214, 248, 254, 256], [215, 248, 255, 256], [216, 224, 248, 256], [217, 218, 219, 220, 221, 222, 223, 224, 249, 250, 251, 252, 253, 254, 255, 256], [218, 252, 254, 256], [219, 252, 255, 256], [220, 224, 252, 256], [221, 222, 223, 224, 253, 254, 255, 256], [222, 224, 254, 256], [223, 224, 255, 256], [224, 256], [225, 226, 227, 228, 229, 230, 231, 232, 233, 234, 235, 236, 237, 238, 239, 240, 241, 242, 243, 244, 245, 246, 247, 248, 249, 250, 251, 252, 253, 254, 255, 256], [226, 236, 238, 240, 242, 252, 254, 256], [227, 236, 239, 240, 243, 252, 255, 256], [228, 232, 236, 240, 244, 248, 252, 256], [229, 230, 231, 232, 237, 238, 239, 240, 245, 246, 247, 248, 253, 254, 255, 256], [230, 248, 254, 256], [231, 248, 255, 256], [232, 240, 248, 256], [233, 234, 235, 236, 237, 238, 239, 240, 249, 250, 251, 252, 253, 254, 255, 256], [234, 252, 254, 256], [235, 252, 255, 256], [236, 240, 252, 256], [237, 238, 239, 240, 253, 254, 255, 256], [238, 240, 254, 256], [239, 240, 255, 256], [240, 256], [241, 242, 243, 244, 245, 246, 247, 248, 249, 250, 251, 252, 253, 254, 255, 256], [242, 252, 254, 256], [243, 252, 255, 256], [244, 248, 252, 256], [245, 246, 247, 248, 253, 254, 255, 256], [246, 248, 254, 256], [247, 248, 255, 256], [248, 256], [249, 250, 251, 252, 253, 254, 255, 256], [250, 252, 254, 256], [251, 252, 255, 256], [252, 256], [253, 254, 255, 256], [254, 256], [255, 256], [256], List.range' 1 256]
def tb9 : List (List Nat) := [[2, 12, 14, 240, 242, 252, 254, 256, 258, 268, 270, 496, 498, 508, 510, 512], [3, 12, 271, 304, 307, 316, 319, 448, 451, 460, 463, 496, 499, 508, 511, 512], [4, 8, 12, 464, 468, 472, 476, 480, 484, 488, 492, 496, 500, 504, 508, 512], [5, 6, 7, 8, 493, 494, 495, 496, 501, 502, 503, 504, 509, 510, 511, 512], [6, 504, 510, 512], [7, 504, 511, 512], [8, 496, 504, 512], [9, 10, 11, 12, 493, 494, 495, 496, 505, 506, 507, 508, 509, 510, 511, 512], [10, 508, 510, 512], [11, 508, 511, 512], [12, 496, 508, 512], [13, 14, 271, 464, 477, 478, 479, 480, 493, 494, 495, 496, 509, 510, 511, 512], [14, 496, 510, 512], [15, 240, 255, 256, 271, 496, 511, 512], [16, 32, 48, 64, 80, 96, 112, 128, 144, 160, 176, 192, 208, 224, 240, 256, 272, 288, 304, 320, 336, 352, 368, 384, 400, 416, 432, 448, 464, 480, 496, 512], [17, 18, 19, 20, 21, 22, 23, 24, 25, 26, 27, 28, 29, 30, 31, 32, 177, 178, 179, 180, 181, 182, 183, 184, 185, 186, 187, 188, 189, 190, 191, 192, 209, 210, 211, 212, 213, 214, 215, 216, 217, 218, 219, 220, 221, 222, 223, 224, 241, 242, 243, 244, 245, 246, 247, 248, 249, 250, 251, 252, 253, 254, 255, 256, 273, 274, 275, 276, 277, 278, 279, 280, 281, 282, 283, 284, 285, 286, 287, 288, 433, 434, 435, 436, 437, 438, 439, 440, 441, 442, 443, 444, 445, 446, 447, 448, 465, 466, 467, 468, 469, 470, 471, 472, 473, 474, 475, 476, 477, 478, 479, 480, 497, 498, 499, 500, 501, 502, 503, 504, 505, 506, 507, 508, 509, 510, 511, 512], [18, 28, 30, 480, 498, 508, 510, 512], [19, 28, 31, 224, 243, 252, 255, 256, 275, 284, 287, 480, 499, 508, 511, 512], [20, 24, 28, 288, 436, 440, 444, 448, 468, 472, 476, 480, 500, 504, 508, 512], [21, 22, 23, 24, 477, 478, 479, 480, 501, 502, 503, 504, 509, 510, 511, 512], [22, 504, 510, 512], [23, 504, 511, 512], [24, 480, 504, 512], [25, 26, 27, 28, 477, 478, 479, 480, 505, 506, 507, 508, 509, 510, 511, 512], [26, 508, 510, 512], [27, 508, 511, 512], [28, 480, 508, 512], [29, 30, 31, 288, 445, 446, 447, 448, 477, 478, 479, 480, 509, 510, 511, 512], [30, 480, 510, 512], [31, 480, 511, 512], [32, 192, 224, 256, 288, 448, 480, 512], [33, 34, 35, 36, 37, 38, 39, 40, 41, 42, 43, 44, 45, 46, 47, 48, 177, 178, 179, 180, 181, 182, 183, 184, 185, 186, 187, 188, 189, 190, 191, 192, 225, 226, 227, 228, 229, 230, 231, 232, 233, 234, 235, 236, 237, 238, 239, 240, 241, 242, 243, 244, 245, 246, 247, 248, 249, 250, 251, 252, 253, 254, 255, 256, 289, 290, 291, 292, 293, 294, 295, 296, 297, 298, 299, 300, 301, 302, 303, 304, 433, 434, 435, 436, 437, 438, 439, 440, 441, 442, 443, 444, 445, 446, 447, 448, 481, 482, 483, 484, 485, 486, 487, 488, 489, 490, 491, 492, 493, 494, 495, 496, 497, 498, 499, 500, 501, 502, 503, 504, 505, 506, 507, 508, 509, 510, 511, 512], [34, 44, 46, 496, 498, 508, 510, 512], [35, 44, 47, 240, 243, 252, 255, 256, 291, 300, 303, 496, 499, 508, 511, 512], [36, 40, 44, 304, 436, 440, 444, 448, 484, 488, 492, 496, 500, 504, 508, 512], [37, 38, 39, 40, 493, 494, 495, 496, 501, 502, 503, 504, 509, 510, 511, 512], [38, 504, 510, 512], [39, 504, 511, 512], [40, 496, 504, 512], [41, 42, 43, 44, 493, 494, 495, 496, 505, 506, 507, 508, 509, 510, 511, 512], [42, 508, 510, 512], [43, 508, 511, 512], [44, 496, 508, 512], [45, 46, 47, 304, 445, 446, 447, 448, 493, 494, 495, 496, 509, 510, 511, 512], [46, 496, 510, 512], [47, 496, 511, 512], [48, 192, 240, 256, 304, 448, 496, 512], [49, 50, 51, 52, 53, 54, 55, 56, 57, 58, 59, 60, 61, 62, 63, 64, 113, 114, 115, 116, 117, 118, 119, 120, 121, 122, 123, 124, 125, 126, 127, 128, 177, 178, 179, 180, 181, 182, 183, 184, 185, 186, 187, 188, 189, 190, 191, 192, 241, 242, 243, 244, 245, 246, 247, 248, 249, 250, 251, 252, 253, 254, 255, 256, 305, 306, 307, 308, 309, 310, 311, 312, 313, 314, 315, 316, 317, 318, 319, 320, 369, 370, 371, 372, 373, 374, 375, 376, 377, 378, 379, 380, 381, 382, 383, 384, 433, 434, 435, 436, 437, 438, 439, 440, 441, 442, 443, 444, 445, 446, 447, 448, 497, 498, 499, 500, 501, 502, 503, 504, 505, 506, 507, 508, 509, 510, 511, 512], [50, 60, 62, 448, 498, 508, 510, 512], [51, 60, 63, 192, 243, 252, 255, 256, 307, 316, 319, 448, 499, 508, 511, 512], [52, 56, 60, 320, 372, 376, 380, 384, 436, 440, 444, 448, 500, 504, 508, 512], [53, 54, 55, 56, 445, 446, 447, 448, 501, 502, 503, 504, 509, 510, 511, 512], [54, 504, 510, 512], [55, 504, 511, 512], [56, 448, 504, 512], [57, 58, 59, 60, 445, 446, 447, 448, 505, 506, 507, 508, 509, 510, 511, 512], [58, 508, 510, 512], [59, 508, 511, 512], [60, 448, 508, 512], [61, 62, 63, 320, 381, 382, 383, 384, 445, 446, 447, 448, 509, 510, 511, 512], [62, 448, 510, 512], [63, 448, 511, 512], [64, 128, 192, 256, 320, 384, 448, 512], [65, 66, 67, 68, 69, 70, 71, 72, 73, 74, 75, 76, 77, 78, 79, 80, 81, 82, 83, 84, 85, 86, 87, 88, 89, 90, 91, 92, 93, 94, 95, 96, 97, 98, 99, 100, 101, 102, 103, 104, 105, 106, 107, 108, 109, 110, 111, 112, 113, 114, 115, 116, 117, 118, 119, 120, 121, 122, 123, 124, 125, 126, 127, 128, 193, 194, 195, 196, 197, 198, 199, 200, 201, 202, 203, 204, 205, 206, 207, 208, 209, 210, 211, 212, 213, 214, 215, 216, 217, 218, 219, 220, 221, 222, 223, 224, 225, 226, 227, 228, 229, 230, 231, 232, 233, 234, 235, 236, 237, 238, 239, 240, 241, 242, 243, 244, 245, 246, 247, 248, 249, 250, 251, 252, 253, 254, 255, 256, 321, 322, 323, 324, 325, 326, 327, 328, 329, 330, 331, 332, 333, 334, 335, 336, 337, 338, 339, 340, 341, 342, 343, 344, 345, 346, 347, 348, 349, 350, 351, 352, 353, 354, 355, 356, 357, 358, 359, 360, 361, 362, 363, 364, 365, 366, 367, 368, 369, 370, 371, 372, 373, 374, 375, 376, 377, 378, 379, 380, 381, 382, 383, 384, 449, 450, 451, 452, 453, 454, 455, 456, 457, 458, 459, 460, 461, 462, 463, 464, 465, 466, 467, 468, 469, 470, 471, 472, 473, 474, 475, 476, 477, 478, 479, 480, 481, 482, 483, 484, 485, 486, 487, 488, 489, 490, 491, 492, 493, 494, 495, 496, 497, 498, 499, 500, 501, 502, 503, 504, 505, 506, 507, 508, 509, 510, 511, 512], [66, 76, 78, 496, 498, 508, 510, 512], [67, 76, 79, 112, 115, 124, 127, 384, 451, 460, 463, 496, 499, 508, 511, 512], [68, 72, 76, 464, 468, 472, 476, 480, 484, 488, 492, 496, 500, 504, 508, 512], [69, 70, 71, 72, 493, 494, 495, 496, 501, 502, 503, 504, 509, 510, 511, 512], [70, 504, 510, 512], [71, 504, 511, 512], [72, 496, 504, 512], [73, 74, 75, 76, 493, 494, 495, 496, 505, 506, 507, 508, 509, 510, 511, 512], [74, 508, 510, 512], [75, 508, 511, 512], [76, 496, 508, 512], [77, 78, 79, 464, 477, 478, 479, 480, 493, 494, 495, 496, 509, 510, 511, 512], [78, 496, 510, 512], [79, 496, 511, 512], [80, 96, 112, 128, 208, 224, 240, 256, 336, 352, 368, 384, 464, 480, 496, 512], [81, 82, 83, 84, 85, 86, 87, 88, 89, 90, 91, 92, 93, 94, 95, 96, 369, 370, 371, 372, 373, 374, 375, 376, 377, 378, 379, 380, 381, 382, 383, 384, 465, 466, 467, 468, 469, 470, 471, 472, 473, 474, 475, 476, 477, 478, 479, 480, 497, 498, 499, 500, 501, 502, 503, 504, 505, 506, 507, 508, 509, 510, 511, 512], [82, 92, 94, 480, 498, 508, 510, 512], [83, 92, 95, 480, 499, 508, 511, 512], [84, 88, 92, 96, 372, 376, 380, 384, 468, 472, 476, 480, 500, 504, 508, 512], [85, 86, 87, 88, 477, 478, 479, 480, 501, 502, 503, 504, 509, 510, 511, 512], [86, 504, 510, 512], [87, 504, 511, 512], [88, 480, 504, 512], [89, 90, 91, 92, 477, 478, 479, 480, 505, 506, 507, 508, 509, 510, 511, 512], [90, 508, 510, 512], [91, 508, 511, 512], [92, 480, 508, 512], [93, 94, 95, 96, 381, 382, 383, 384, 477, 478, 479, 480, 509, 510, 511, 512], [94, 480, 510, 512], [95, 480, 511, 512], [96, 384, 480, 512], [97, 98, 99, 100, 101, 102, 103, 104, 105, 106, 107, 108, 109, 110, 111, 112, 369, 370, 371, 372, 373, 374, 375, 376, 377, 378, 379, 380, 381, 382, 383, 384, 481, 482, 483, 484, 485, 486, 487, 488, 489, 490, 491, 492, 493, 494, 495, 496, 497, 498, 499, 500, 501, 502, 503, 504, 505, 506, 507, 508, 509, 510, 511, 512], [98, 108, 110, 496, 498, 508, 510, 512], [99, 108, 111, 496, 499, 508, 511, 512], [100, 104, 108, 112, 372, 376, 380, 384, 484, 488, 492, 496, 500, 504, 508, 512], [101, 102, 103, 104, 493, 494, 495, 496, 501, 502, 503, 504, 509, 510, 511, 512], [102, 504, 510, 512], [103, 504, 511, 512], [104, 496, 504, 512], [105, 106, 107, 108, 493, 494, 495, 496, 505, 506, 507, 508, 509, 510, 511, 512], [106, 508, 510, 512], [107, 508, 511, 512], [108, 496, 508, 512], [109, 110, 111, 112, 381, 382, 383, 384, 493, 494, 495, 496, 509, 510, 511, 512], [110, 496, 510, 512], [111, 496, 511, 512], [112, 384, 496, 512], [113, 114, 115, 116, 117, 118, 119, 120, 121, 122, 123, 124, 125, 126, 127, 128, 241, 242, 243, 244, 245, 246, 247, 248, 249, 250, 251, 252, 253, 254, 255, 256, 369, 370, 371, 372, 373, 374, 375, 376, 377, 378, 379, 380, 381, 382, 383, 384, 497, 498, 499, 500, 501, 502, 503, 504, 505, 506, 507, 508, 509, 510, 511, 512], [114, 124, 126, 384, 498, 508, 510, 512], [115, 124, 127, 384, 499, 508, 511, 512], [116, 120, 124, 128, 244, 248, 252, 256, 372, 376, 380, 384, 500, 504, 508, 512], [117, 118, 119, 120, 381, 382, 383, 384, 501, 502, 503, 504, 509, 510, 511, 512], [118, 504, 510, 512], [119, 504, 511, 512], [120, 384, 504, 512], [121, 122, 123, 124, 381, 382, 383, 384, 505, 506, 507, 508, 509, 510, 511, 512], [122, 508, 510, 512], [123, 508, 511, 512], [124, 384, 508, 512], [125, 126, 127, 128, 253, 254, 255, 256, 381, 382, 383, 384, 509, 510, 511, 512], [126, 384, 510, 512], [127, 384, 511, 512], [128, 256, 384, 512], [129, 130, 131, 132, 133, 134, 135, 136, 137, 138, 139, 140, 141, 142, 143, 144, 145, 146, 147, 148, 149, 150, 151, 152, 153, 154, 155, 156, 157, 158, 159, 160, 161, 162, 163, 164, 165, 166, 167, 168, 169, 170, 171, 172, 173, 174, 175, 176, 177, 178, 179, 180, 181, 182, 183, 184, 185, 186, 187, 188, 189, 190, 191, 192, 193, 194, 195, 196, 197, 198, 199, 200, 201, 202, 203, 204, 205, 206, 207, 208, 209, 210, 211, 212, 213, 214, 215, 216, 217, 218, 219, 220, 221, 222, 223, 224, 225, 226, 227, 228, 229, 230, 231, 232, 233, 234, 235, 236, 237, 238, 239, 240, 241, 242, 243, 244, 245, 246, 247, 248, 249, 250, 251, 252, 253, 254, 255, 256, 385, 386, 387, 388, 389, 390, 391, 392, 393, 394, 395, 396, 397, 398, 399, 400, 401, 402, 403, 404, 405, 406, 407, 408, 409, 410, 411, 412, 413, 414, 415, 416, 417, 418, 419, 420, 421, 422, 423, 424, 425, 426, 427, 428, 429, 430, 431, 432, 433, 434, 435, 436, 437, 438, 439, 440, 441, 442, 443, 444, 445, 446, 447, 448, 449, 450, 451, 452, 453, 454, 455, 456, 457, 458, 459, 460, 461, 462, 463, 464, 465, 466, 467, 468, 469, 470, 471, 472, 473, 474, 475, 476, 477, 478, 479, 480, 481, 482, 483, 484, 485, 486, 487, 488, 489, 490, 491, 492, 493, 494, 495, 496, 497, 498, 499, 500, 501, 502, 503, 504, 505, 506, 507, 508, 509, 510, 511, 512], [130, 140, 142, 496, 498, 508, 510, 512], [131, 140, 143, 176, 179, 188, 191, 448, 451, 460, 463, 496, 499, 508, 511, 512], [132, 136, 140, 464, 468, 472, 476, 480, 484, 488, 492, 496, 500, 504, 508, 512], [133, 134, 135, 136, 493, 494, 495, 496, 501, 502, 503, 504, 509, 510, 511, 512], [134, 504, 510, 512], [135, 504, 511, 512], [136, 496, 504, 512], [137, 138, 139, 140, 493, 494, 495, 496, 505, 506, 507, 508, 509, 510, 511, 512], [138, 508, 510, 512], [139, 508, 511, 512], [140, 496, 508, 512], [141, 142, 143, 464, 477, 478, 479, 480, 493, 494, 495, 496, 509, 510, 511, 512], [142, 496, 510, 512], [143, 496, 511, 512], [144, 160, 176, 192, 208, 224, 240, 256, 400, 416, 432, 448, 464, 480, 496, 512], [145, 146, 147, 148, 149, 150, 151, 152, 153, 154, 155, 156, 157, 158, 159, 160, 433, 434, 435, 436, 437, 438, 439, 440, 441, 442, 443, 444, 445, 446, 447, 448, 465, 466, 467, 468, 469, 470, 471, 472, 473, 474, 475, 476, 477, 478, 479, 480, 497, 498, 499, 500, 501, 502, 503, 504, 505, 506, 507, 508, 509, 510, 511, 512], [146, 156, 158, 480, 498, 508, 510, 512], [147, 156, 159, 480, 499, 508, 511, 512], [148, 152, 156, 160, 436, 440, 444, 448, 468, 472, 476, 480, 500, 504, 508, 512], [149, 150, 151, 152, 477, 478, 479, 480, 501, 502, 503, 504, 509, 510, 511, 512], [150, 504, 510, 512], [151, 504, 511, 512], [152, 480, 504, 512], [153, 154, 155, 156, 477, 478, 479, 480, 505, 506, 507, 508, 509, 510, 511, 512], [154, 508, 510, 512], [155, 508, 511, 512], [156, 480, 508, 512], [157, 158, 159, 160, 445, 446, 447, 448, 477, 478, 479, 480, 509, 510, 511, 512], [158, 480, 510, 512], [159, 480, 511, 512], [160, 448, 480, 512], [161, 162, 163, 164, 165, 166, 167, 168, 169, 170, 171, 172, 173, 174, 175, 176, 433, 434, 435, 436, 437, 438, 439, 440, 441, 442, 443, 444, 445, 446, 447, 448, 481, 482, 483, 484, 485, 486, 487, 488, 489, 490, 491, 492, 493, 494, 495, 496, 497, 498, 499, 500, 501, 502, 503, 504, 505, 506, 507, 508, 509, 510, 511, 512], [162, 172, 174, 496, 498, 508, 510, 512], [163, 172, 175, 496, 499, 508, 511, 512], [164, 168, 172, 176, 436, 440, 444, 448, 484, 488, 492, 496, 500, 504, 508, 512], [165, 166, 167, 168, 493, 494, 495, 496, 501, 502, 503, 504, 509, 510, 511, 512], [166, 504, 510, 512], [167, 504, 511, 512], [168, 496, 504, 512], [169, 170, 171, 172, 493, 494, 495, 496, 505, 506, 507, 508, 509, 510, 511, 512], [170, 508, 510, 512], [171, 508, 511, 512], [172, 496, 508, 512], [173, 174, 175, 176, 445, 446, 447, 448, 493, 494, 495, 496, 509, 510, 511, 512], [174, 496, 510, 512], [175, 496, 511, 512], [176, 448, 496, 512], [177, 178, 179, 180, 181, 182, 183, 184, 185, 186, 187, 188, 189, 190, 191, 192, 241, 242, 243, 244, 245, 246, 247, 248, 249, 250, 251, 252, 253, 254, 255, 256, 433, 434, 435, 436, 437, 438, 439, 440, 441, 442, 443, 444, 445, 446, 447, 448, 497, 498, 499, 500, 501, 502, 503, 504, 505, 506, 507, 508, 509, 510, 511, 512], [178, 188, 190, 448, 498, 508, 510, 512], [179, 188, 191, 448, 499, 508, 511, 512], [180, 184, 188, 192, 244, 248, 252, 256, 436, 440, 444, 448, 500, 504, 508, 512], [181, 182, 183, 184, 445, 446, 447, 448, 501, 502, 503, 504, 509, 510, 511, 512], [182, 504, 510, 512], [183, 504, 511, 512], [184, 448, 504, 512], [185, 186, 187, 188, 445, 446, 447, 448, 505, 506, 507, 508, 509, 510, 511, 512], [186, 508, 510, 512], [187, 508, 511, 512], [188, 448, 508, 512], [189, 190, 191, 192, 253, 254, 255, 256, 445, 446, 447, 448, 509, 510, 511, 512], [190, 448, 510, 512], [191, 448, 511, 512], [192, 256, 448, 512], [193, 194, 195, 196, 197, 198, 199, 200, 201, 202, 203, 204, 205, 206, 207, 208, 209, 210, 211, 212, 213, 214, 215, 216, 217, 218, 219, 220, 221, 222, 223, 224, 225, 226, 227, 228, 229, 230, 231, 232, 233, 234, 235, 236, 237, 238, 239, 240, 241, 242, 243, 244, 245, 246, 247, 248, 249, 250, 251, 252, 253, 254, 255, 256, 449, 450, 451, 452, 453, 454, 455, 456, 457, 458, 459, 460, 461, 462, 463, 464, 465, 466, 467, 468, 469, 470, 471, 472, 473, 474, 475, 476, 477, 478, 479, 480, 481, 482, 483, 484, 485, 486, 487, 488, 489, 490, 491, 492, 493, 494, 495, 496, 497, 498, 499, 500, 501, 502, 503, 504, 505, 506, 507, 508, 509, 510, 511, 512], [194, 204, 206, 496, 498, 508, 510, 512], [195, 204, 207, 240, 243, 252, 255, 256, 451, 460, 463, 496, 499, 508, 511, 512], [196, 200, 204, 464, 468, 472, 476, 480, 484, 488, 492, 496, 500, 504, 508, 512], [197, 198, 199, 200, 493, 494, 495, 496, 501, 502, 503, 504, 509, 510, 511, 512], [198, 504, 510, 512], [199, 504, 511, 512], [200, 496, 504, 512], [201, 202, 203, 204, 493, 494, 495, 496, 505, 506, 507, 508, 509, 510, 511, 512], [202, 508, 510, 512], [203, 508, 511, 512], [204, 496, 508, 512], [205, 206, 207, 464, 477, 478, 479, 480, 493, 494, 495, 496, 509, 510, 511, 512], [206, 496, 510, 512], [207, 496, 511, 512], [208, 224, 240, 256, 464, 480, 496, 512], [209, 210, 211, 212, 213, 214, 215, 216, 217, 218, 219, 220, 221, 222, 223, 224, 241, 242, 243, 244, 245, 246, 247, 248, 249, 250, 251, 252, 253, 254, 255, 256, 465, 466, 467, 468, 469, 470, 471, 472, 473, 474, 475, 476, 477, 478, 479, 480, 497, 498, 499, 500, 501, 502, 503, 504, 505, 506, 507, 508, 509, 510, 511, 512], [210, 220, 222, 480, 498, 508, 510, 512], [211, 220, 223, 480, 499, 508, 511, 512], [212, 216, 220, 224, 244, 248, 252, 256, 468, 472, 476, 480, 500, 504, 508, 512], [213, 214, 215, 216, 477, 478, 479, 480, 501, 502, 503, 504, 509, 510, 511, 512], [214, 504, 510, 512], [215, 504, 511, 512], [216, 480, 504, 512], [217, 218, 219, 220, 477, 478, 479, 480, 505, 506, 507, 508, 509, 510, 511, 512], [218, 508, 510, 512], [219, 508, 511, 512], [220, 480, 508, 512], [221, 222, 223, 224, 253, 254, 255, 256, 477, 478, 479, 480, 509, 510, 511, 512], [222, 480, 510, 512], [223, 480, 511, 512], [224, 256, 480, 512], [225, 226, 227, 228, 229, 230, 231, 232, 233, 234, 235, 236, 237, 238, 239, 240, 241, 242, 243, 244, 245, 246, 247, 248, 249, 250, 251, 252, 253, 254, 255, 256, 481, 482, 483, 484, 485, 486, 487, 488, 489, 490, 491, 492, 493, 494, 495, 496, 497, 498, 499, 500, 501, 502, 503, 504, 505, 506, 507, 508, 509, 510, 511, 512], [226, 236, 238, 496, 498, 508, 510, 512], [227, 236, 239, 496, 499, 508, 511, 512], [228, 232, 236, 240, 244, 248, 252, 256, 484, 488, 492, 496, 500, 504, 508, 512], [229, 230, 231, 232, 493, 494, 495, 496, 501, 502, 503, 504, 509, 510, 511, 512], [230, 504, 510, 512], [231, 504, 511, 512], [232, 496, 504, 512], [233, 234, 235, 236, 493, 494, 495, 496, 505, 506, 507, 508, 509, 510, 511, 512], [234, 508, 510, 512], [235, 508, 511, 512], [236, 496, 508, 512], [237, 238, 239, 240, 253, 254, 255, 256, 493, 494, 495, 496, 509, 510, 511, 512], [238, 496, 510, 512], [239, 496, 511, 512], [240, 256, 496, 512], [241, 242, 243, 244, 245, 246, 247, 248, 249, 250, 251, 252, 253, 254, 255, 256, 497, 498, 499, 500, 501, 502, 503, 504, 505, 506, 507, 508, 509, 510, 511, 512], [242, 252, 254, 256, 498, 508, 510, 512], [243, 252, 255, 256, 499, 508, 511, 512], [244, 248, 252, 256, 500, 504, 508, 512], [245, 246, 247, 248, 253, 254, 255, 256, 501, 502, 503, 504, 509, 510, 511, 512], [246, 504, 510, 512], [247, 504, 511, 512], [248, 256, 504, 512], [249, 250, 251, 252, 253, 254, 255, 256, 505, 506, 507, 508, 509, 510, 511, 512], [250, 508, 510, 512], [251, 508, 511, 512], [252, 256, 508, 512], [253, 254, 255, 256, 509, 510, 511, 512], [254, 256, 510, 512], [255, 256, 511, 512], [256, 512], [257, 258, 259, 260, 261, 262, 263, 264, 265, 266, 267, 268, 269, 270, 271, 272, 273, 274, 275, 276, 277, 278, 279, 280, 281, 282, 283, 284, 285, 286, 287, 288, 289, 290, 291, 292, 293, 294, 295, 296, 297, 298, 299, 300, 301, 302, 303, 304, 305, 306, 307, 308, 309, 310, 311, 312, 313, 314, 315, 316, 317, 318, 319, 320, 321, 322, 323, 324, 325, 326, 327, 328, 329, 330, 331, 332, 333, 334, 335, 336, 337, 338, 339, 340, 341, 342, 343, 344, 345, 346, 347, 348, 349, 350, 351, 352, 353, 354, 355, 356, 357, 358, 359, 360, 361, 362, 363, 364, 365, 366, 367, 368, 369, 370, 371, 372, 373, 374, 375, 376, 377, 378, 379, 380, 381, 382, 383, 384, 385, 386, 387, 388, 389, 390, 391, 392, 393, 394, 395, 396, 397, 398, 399, 400, 401, 402, 403, 404, 405, 406, 407, 408, 409, 410, 411, 412, 413, 414, 415, 416, 417, 418, 419, 420, 421, 422, 423, 424, 425, 426, 427, 428, 429, 430, 431, 432, 433, 434, 435, 436, 437, 438, 439, 440, 441, 442, 443, 444, 445, 446, 447, 448, 449, 450, 451, 452, 453, 454, 455, 456, 457, 458, 459, 460, 461, 462, 463, 464, 465, 466, 467, 468, 469, 470, 471, 472, 473, 474, 475, 476, 477, 478, 479, 480, 481, 482, 483, 484, 485, 486, 487, 488, 489, 490, 491, 492, 493, 494, 495, 496, 497, 498, 499, 500, 501, 502, 503, 504, 505, 506, 507, 508, 509, 510, 511, 512], [258, 268, 270, 496, 498, 508, 510, 512], [259, 268, 271, 304, 307, 316, 319, 448, 451, 460, 463, 496, 499, 508, 511, 512], [260, 264, 268, 464, 468, 472, 476, 480, 484, 488, 492, 496, 500, 504, 508, 512], [261, 262, 263, 264, 493, 494, 495, 496, 501, 502, 503, 504, 509, 510, 511, 512], [262, 504, 510, 512], [263, 504, 511, 512], [264, 496, 504, 512], [265, 266, 267, 268, 493, 494, 495, 496, 505, 506, 507, 508, 509, 510, 511, 512], [266, 508, 510, 512], [267, 508, 511, 512], [268, 496, 508, 512], [269, 270, 271, 464, 477, 478, 479, 480, 493, 494, 495, 496, 509, 510, 511, 512], [270, 496, 510, 512], [271, 496, 511, 512], [272, 288, 304, 320, 336, 352, 368, 384, 400, 416, 432, 448, 464, 480, 496, 512], [273, 274, 275, 276, 277, 278, 279, 280, 281, 282, 283, 284, 285, 286, 287, 288, 433, 434, 435, 436, 437, 438, 439, 440, 441, 442, 443, 444, 445, 446, 447, 448, 465, 466, 467, 468, 469, 470, 471, 472, 473, 474, 475, 476, 477, 478, 479, 480, 497, 498, 499, 500, 501, 502, 503, 504, 505, 506, 507, 508, 509, 510, 511, 512], [274, 284, 286, 480, 498, 508, 510, 512], [275, 284, 287, 480, 499, 508, 511, 512], [276, 280, 284, 288, 436, 440, 444, 448, 468, 472, 476, 480, 500, 504, 508, 512], [277, 278, 279, 280, 477, 478, 479, 480, 501, 502, 503, 504, 509, 510, 511, 512], [278, 504, 510, 512], [279, 504, 511, 512], [280, 480, 504, 512], [281, 282, 283, 284, 477, 478, 479, 480, 505, 506, 507, 508, 509, 510, 511, 512], [282, 508, 510, 512], [283, 508, 511, 512], [284, 480, 508, 512], [285, 286, 287, 288, 445, 446, 447, 448, 477, 478, 479, 480, 509, 510, 511, 512], [286, 480, 510, 512], [287, 480, 511, 512], [288, 448, 480, 512], [289, 290, 291, 292, 293, 294, 295, 296, 297, 298, 299, 300, 301, 302, 303, 304, 433, 434, 435, 436, 437, 438, 439, 440, 441, 442, 443, 444, 445, 446, 447, 448, 481, 482, 483, 484, 485, 486, 487, 488, 489, 490, 491, 492, 493, 494, 495, 496, 497, 498, 499, 500, 501, 502, 503, 504, 505, 506, 507, 508, 509, 510, 511, 512], [290, 300, 302, 496, 498, 508, 510, 512], [291, 300, 303, 496, 499, 508, 511, 512], [292, 296, 300, 304, 436, 440, 444, 448, 484, 488, 492, 496, 500, 504, 508, 512], [293, 294, 295, 296, 493, 494, 495, 496, 501, 502, 503, 504, 509, 510, 511, 512], [294, 504, 510, 512], [295, 504, 511, 512], [296, 496, 504, 512], [297, 298, 299, 300, 493, 494, 495, 496, 505, 506, 507, 508, 509, 510, 511, 512], [298, 508, 510, 512], [299, 508, 511, 512], [300, 496, 508, 512], [301, 302, 303, 304, 445, 446, 447, 448, 493, 494, 495, 496, 509, 510, 511, 512], [302, 496, 510, 512], [303, 496, 511, 512], [304, 448, 496, 512], [305, 306, 307, 308, 309, 310, 311, 312, 313, 314, 315, 316, 317, 318, 319, 320, 369, 370, 371, 372, 373, 374, 375, 376, 377, 378, 379, 380, 381, 382, 383, 384, 433, 434, 435, 436, 437, 438, 439, 440, 441, 442, 443, 444, 445, 446, 447, 448, 497, 498, 499, 500, 501, 502, 503, 504, 505, 506, 507, 508, 509, 510, 511, 512], [306, 316, 318, 448, 498, 508, 510, 512], [307, 316, 319, 448, 499, 508, 511, 512], [308, 312, 316, 320, 372, 376, 380, 384, 436, 440, 444, 448, 500, 504, 508, 512], [309, 310, 311, 312, 445, 446, 447, 448, 501, 502, 503, 504, 509, 510, 511, 512], [310, 504, 510, 512], [311, 504, 511, 512], [312, 448, 504, 512], [313, 314, 315, 316, 445, 446, 447, 448, 505, 506, 507, 508, 509, 510, 511, 512], [314, 508, 510, 512], [315, 508, 511, 512], [316, 448, 508, 512], [317, 318, 319, 320, 381, 382, 383, 384, 445, 446, 447, 448, 509, 510, 511, 512], [318, 448, 510, 512], [319, 448, 511, 512], [320, 384, 448, 512], [321, 322, 323, 324, 325, 326, 327, 328, 329, 330, 331, 332, 333, 334, 335, 336, 337, 338, 339, 340, 341, 342, 343, 344, 345, 346, 347, 348, 349, 350, 351, 352, 353, 354, 355, 356, 357, 358, 359, 360, 361, 362, 363, 364, 365, 366, 367, 368, 369, 370, 371, 372, 373, 374, 375, 376, 377, 378, 379, 380, 381, 382, 383, 384, 449, 450, 451, 452, 453, 454, 455, 456, 457, 458, 459, 460, 461, 462, 463, 464, 465, 466, 467, 468, 469, 470, 471, 472, 473, 474, 475, 476, 477, 478, 479, 480, 481, 482, 483, 484, 485, 486, 487, 488, 489, 490, 491, 492, 493, 494, 495, 496, 497, 498, 499, 500, 501, 502, 503, 504, 505, 506, 507, 508, 509, 510, 511, 512], [322, 332, 334, 496, 498, 508, 510, 512], [323, 332, 335, 368, 371, 380, 383, 384, 451, 460, 463, 496, 499, 508, 511, 512], [324, 328, 332, 464, 468, 472, 476, 480, 484, 488, 492, 496, 500, 504, 508, 512], [325, 326, 327, 328, 493, 494, 495, 496, 501, 502, 503, 504, 509, 510, 511, 512], [326, 504, 510, 512], [327, 504, 511, 512], [328, 496, 504, 512], [329, 330, 331, 332, 493, 494, 495, 496, 505, 506, 507, 508, 509, 510, 511, 512], [330, 508, 510, 512], [331, 508, 511, 512], [332, 496, 508, 512], [333, 334, 335, 464, 477, 478, 479, 480, 493, 494, 495, 496, 509, 510, 511, 512], [334, 496, 510, 512], [335, 496, 511, 512], [336, 352, 368, 384, 464, 480, 496, 512], [337, 338, 339, 340, 341, 342, 343, 344, 345, 346, 347, 348, 349, 350, 351, 352, 369, 370, 371, 372, 373, 374, 375, 376, 377, 378, 379, 380, 381, 382, 383, 384, 465, 466, 467, 468, 469, 470, 471, 472, 473, 474, 475, 476, 477, 478, 479, 480, 497, 498, 499, 500, 501, 502, 503, 504, 505, 506, 507, 508, 509, 510, 511, 512], [338, 348, 350, 480, 498, 508, 510, 512], [339, 348, 351, 480, 499, 508, 511, 512], [340, 344, 348, 352, 372, 376, 380, 384, 468, 472, 476, 480, 500, 504, 508, 512], [341, 342, 343, 344, 477, 478, 479, 480, 501, 502, 503, 504, 509, 510, 511, 512], [342, 504, 510, 512], [343, 504, 511, 512], [344, 480, 504, 512], [345, 346, 347, 348, 477, 478, 479, 480, 505, 506, 507, 508, 509, 510, 511, 512], [346, 508, 510, 512], [347, 508, 511, 512], [348, 480, 508, 512], [349, 350, 351, 352, 381, 382, 383, 384, 477, 478, 479, 480, 509, 510, 511, 512], [350, 480, 510, 512], [351, 480, 511, 512], [352, 384, 480, 512], [353, 354, 355, 356, 357, 358, 359, 360, 361, 362, 363, 364, 365, 366, 367, 368, 369, 370, 371, 372, 373, 374, 375, 376, 377, 378, 379, 380, 381, 382, 383, 384, 481, 482, 483, 484, 485, 486, 487, 488, 489, 490, 491, 492, 493, 494, 495, 496, 497, 498, 499, 500, 501, 502, 503, 504, 505, 506, 507, 508, 509, 510, 511, 512], [354, 364, 366, 496, 498, 508, 510, 512], [355, 364, 367, 496, 499, 508, 511, 512], [356, 360, 364, 368, 372, 376, 380, 384, 484, 488, 492, 496, 500, 504, 508, 512], [357, 358, 359, 360, 493, 494, 495, 496, 501, 502, 503, 504, 509, 510, 511, 512], [358, 504, 510, 512], [359, 504, 511, 512], [360, 496, 504, 512], [361, 362, 363, 364, 493, 494, 495, 496, 505, 506, 507, 508, 509, 510, 511, 512], [362, 508, 510, 512], [363, 508, 511, 512], [364, 496, 508, 512], [365, 366, 367, 368, 381, 382, 383, 384, 493, 494, 495, 496, 509, 510, 511, 512], [366, 496, 510, 512], [367, 496, 511, 512], [368, 384, 496, 512], [369, 370, 371, 372, 373, 374, 375, 376, 377, 378, 379, 380, 381, 382, 383, 384, 497, 498, 499, 500, 501, 502, 503, 504, 505, 506, 507, 508, 509, 510, 511, 512], [370, 380, 382, 384, 498, 508, 510, 512], [371, 380, 383, 384, 499, 508, 511, 512], [372, 376, 380, 384, 500, 504, 508, 512], [373, 374, 375, 376, 381, 382, 383, 384, 501, 502, 503, 504, 509, 510, 511, 512], [374, 504, 510, 512], [375, 504, 511, 512], [376, 384, 504, 512], [377, 378, 379, 380, 381, 382, 383, 384, 505, 506, 507, 508, 509, 510, 511, 512], [378, 508, 510, 512], [379, 508, 511, 512], [380, 384, 508, 512], [381, 382, 383, 384, 509, 510, 511, 512], [382, 384, 510, 512], [383, 384, 511, 512], [384, 512], [385, 386, 387, 388, 389, 390, 391, 392, 393, 394, 395, 396, 397, 398, 399, 400, 401, 402, 403, 404, 405, 406, 407, 408, 409, 410, 411, 412, 413, 414, 415, 416, 417, 418, 419, 420, 421, 422, 423, 424, 425, 426, 427, 428, 429, 430, 431, 432, 433, 434, 435, 436, 437, 438, 439, 440, 441, 442, 443, 444, 445, 446, 447, 448, 449, 450, 451, 452, 453, 454, 455, 456, 457, 458, 459, 460, 461, 462, 463, 464, 465, 466, 467, 468, 469, 470, 471, 472, 473, 474, 475, 476, 477, 478, 479, 480, 481, 482, 483, 484, 485, 486, 487, 488, 489, 490, 491, 492, 493, 494, 495, 496, 497, 498, 499, 500, 501, 502, 503, 504, 505, 506, 507, 508, 509, 510, 511, 512], [386, 396, 398, 496, 498, 508, 510, 512], [387, 396, 399, 432, 435, 444, 447, 448, 451, 460, 463, 496, 499, 508, 511, 512], [388, 392, 396, 464, 468, 472, 476, 480, 484, 488, 492, 496, 500, 504, 508, 512], [389, 390, 391, 392, 493, 494, 495, 496, 501, 502, 503, 504, 509, 510, 511, 512], [390, 504, 510, 512], [391, 504, 511, 512], [392, 496, 504, 512], [393, 394, 395, 396, 493, 494, 495, 496, 505, 506, 507, 508, 509, 510, 511, 512], [394, 508, 510, 512], [395, 508, 511, 512], [396, 496, 508, 512], [397, 398, 399, 464, 477, 478, 479, 480, 493, 494, 495, 496, 509, 510, 511, 512], [398, 496, 510, 512], [399, 496, 511, 512], [400, 416, 432, 448, 464, 480, 496, 512], [401, 402, 403, 404, 405, 406, 407, 408, 409, 410, 411, 412, 413, 414, 415, 416, 433, 434, 435, 436, 437, 438, 439, 440, 441, 442, 443, 444, 445, 446, 447, 448, 465, 466, 467, 468, 469, 470, 471, 472, 473, 474, 475, 476, 477, 478, 479, 480, 497, 498, 499, 500, 501, 502, 503, 504, 505, 506, 507, 508, 509, 510, 511, 512], [402, 412, 414, 480, 498, 508, 510, 512], [403, 412, 415, 480, 499, 508, 511, 512], [404, 408, 412, 416, 436, 440, 444, 448, 468, 472, 476, 480, 500, 504, 508, 512], [405, 406, 407, 408, 477, 478, 479, 480, 501, 502, 503, 504, 509, 510, 511, 512], [406, 504, 510, 512], [407, 504, 511, 512], [408, 480, 504, 512], [409, 410, 411, 412, 477, 478, 479, 480, 505, 506, 507, 508, 509, 510, 511, 512], [410, 508, 510, 512], [411, 508, 511, 512], [412, 480, 508, 512], [413, 414, 415, 416, 445, 446, 447, 448, 477, 478, 479, 480, 509, 510, 511, 512], [414, 480, 510, 512], [415, 480, 511, 512], [416, 448, 480, 512], [417, 418, 419, 420, 421, 422, 423, 424, 425, 426, 427, 428, 429, 430, 431, 432, 433, 434, 435, 436, 437, 438, 439, 440, 441, 442, 443, 444, 445, 446, 447, 448, 481, 482, 483, 484, 485, 486, 487, 488, 489, 490, 491, 492, 493, 494, 495, 496, 497, 498, 499, 500, 501, 502, 503, 504, 505, 506, 507, 508, 509, 510, 511, 512], [418, 428, 430, 496, 498, 508, 510, 512], [419, 428, 431, 496, 499, 508, 511, 512], [420, 424, 428, 432, 436, 440, 444, 448, 484, 488, 492, 496, 500, 504, 508, 512], [421, 422, 423, 424, 493, 494, 495, 496, 501, 502, 503, 504, 509, 510, 511, 512], [422, 504, 510, 512], [423, 504, 511, 512], [424, 496, 504, 512], [425, 426, 427, 428, 493, 494, 495, 496, 505, 506, 507, 508, 509, 510, 511, 512], [426, 508, 510, 512], [427, 508, 511, 512], [428, 496, 508, 512], [429, 430, 431, 432, 445, 446, 447, 448, 493, 494, 495, 496, 509, 510, 511, 512], [430, 496, 510, 512], [431, 496, 511, 512], [432, 448, 496, 512], [433, 434, 435, 436, 437, 438, 439, 440, 441, 442, 443, 444, 445, 446, 447, 448, 497, 498, 499, 500, 501, 502, 503, 504, 505, 506, 507, 508, 509, 510, 511, 512], [434, 444, 446, 448, 498, 508, 510, 512], [435, 444, 447, 448, 499, 508, 511, 512], [436, 440, 444, 448, 500, 504, 508, 512], [437, 438, 439, 440, 445, 446, 447, 448, 501, 502, 503, 504, 509, 510, 511, 512], [438, 504, 510, 512], [439, 504, 511, 512], [440, 448, 504, 512], [441, 442, 443, 444, 445, 446, 447, 448, 505, 506, 507, 508, 509, 510, 511, 512], [442, 508, 510, 512], [443, 508, 511, 512], [444, 448, 508, 512], [445, 446, 447, 448, 509, 510, 511, 512], [446, 448, 510, 512], [447, 448, 511, 512], [448, 512], [449, 450, 451, 452, 453, 454, 455, 456, 457, 458, 459, 460, 461, 462, 463, 464, 465, 466, 467, 468, 469, 470, 471, 472, 473, 474, 475, 476, 477, 478, 479, 480, 481, 482, 483, 484, 485, 486, 487, 488, 489, 490, 491, 492, 493, 494, 495, 496, 497, 498, 499, 500, 501, 502, 503, 504, 505, 506, 507, 508, 509, 510, 511, 512], [450, 460, 462, 496, 498, 508, 510, 512], [451, 460, 463, 496, 499, 508, 511, 512], [452, 456, 460, 464, 468, 472, 476, 480, 484, 488, 492, 496, 500, 504, 508, 512], [453, 454, 455, 456, 493, 494, 495, 496, 501, 502, 503, 504, 509, 510, 511, 512], [454, 504, 510, 512], [455, 504, 511, 512], [456, 496, 504, 512], [457, 458, 459, 460, 493, 494, 495, 496, 505, 506, 507, 508, 509, 510, 511, 512], [458, 508, 510, 512], [459, 508, 511, 512], [460, 496, 508, 512], [461, 462, 463, 464, 477, 478, 479, 480, 493, 494, 495, 496, 509, 510, 511, 512], [462, 496, 510, 512], [463, 496, 511, 512], [464, 480, 496, 512], [465, 466, 467, 468, 469, 470, 471, 472, 473, 474, 475, 476, 477, 478, 479, 480, 497, 498, 499, 500, 501, 502, 503, 504, 505, 506, 507, 508, 509, 510, 511, 512], [466, 476, 478, 480, 498, 508, 510, 512], [467, 476, 479, 480, 499, 508, 511, 512], [468, 472, 476, 480, 500, 504, 508, 512], [469, 470, 471, 472, 477, 478, 479, 480, 501, 502, 503, 504, 509, 510, 511, 512], [470, 504, 510, 512], [471, 504, 511, 512], [472, 480, 504, 512], [473, 474, 475, 476, 477, 478, 479, 480, 505, 506, 507, 508, 509, 510, 511, 512], [474, 508, 510, 512], [475, 508, 511, 512], [476, 480, 508, 512], [477, 478, 479, 480, 509, 510, 511, 512], [478, 480, 510, 512], [479, 480, 511, 512], [480, 512], [481, 482, 483, 484, 485, 486, 487, 488, 489, 490, 491, 492, 493, 494, 495, 496, 497, 498, 499, 500, 501, 502, 503, 504, 505, 506, 507, 508, 509, 510, 511, 512], [482, 492, 494, 496, 498, 508, 510, 512], [483, 492, 495, 496, 499, 508, 511, 512], [484, 488, 492, 496, 500, 504, 508, 512], [485, 486, 487, 488, 493, 494, 495, 496, 501, 502, 503, 504, 509, 510, 511, 512], [486, 504, 510, 512], [487, 504, 511, 512], [488, 496, 504, 512], [489, 490, 491, 492, 493, 494, 495, 496, 505, 506, 507, 508, 509, 510, 511, 512], [490, 508, 510, 512], [491, 508, 511, 512], [492, 496, 508, 512], [493, 494, 495, 496, 509, 510, 511, 512], [494, 496, 510, 512], [495, 496, 511, 512], [496, 512], [497, 498, 499, 500, 501, 502, 503, 504, 505, 506, 507, 508, 509, 510, 511, 512], [498, 508, 510, 512], [499, 508, 511, 512], [500, 504, 508, 512], [501, 502, 503, 504, 509, 510, 511, 512], [502, 504, 510, 512], [503, 504, 511, 512], [504, 512], [505, 506, 507, 508, 509, 510, 511, 512], [506, 508, 510, 512], [507, 508, 511, 512], [508, 512], [509, 510, 511, 512], [510, 512], [511, 512], [512], List.range' 1 512]
theorem tb0_ok : chk 1 1 tb0 = true := by decide +kernel
theorem tb1_ok : chk 2 1 tb1 = true := by decide +kernel
theorem tb2_ok : chk 4 1 tb2 = true := by decide +kernel
theorem tb3_ok : chk 8 1 tb3 = true := by decide +kernel
theorem tb4_ok : chk 16 1 tb4 = true := by decide +kernel
theorem tb5_ok : chk 32 1 tb5 = true := by decide +kernel
theorem tb6_ok : chk 64 1 tb6 = true := by decide +kernel
theorem tb7_ok : chk 128 1 tb7 = true := by decide +kernel
theorem tb8_ok : chk 256 1 tb8 = true := by decide +kernel
theorem tb9_ok : chk 512 1 tb9 = true := by decide +kernel
section OPLP
open PySem PySem.Spec PyProof.Rows
/-! ### a lambda of two parameters handed to a def that calls it -/
/-- the object at a is o -/
def PinO (a : Addr) (o : Obj) : HO := .ext fun h => h.get? a = some o
/-- all but what is told by a word stays -/
def ExtE (H H' : Hp) : Prop := ∀ b o, H b = some o → (∀ φ, o ≠ .ext φ) → H' b = some o
theorem ExtE.same {H H' : Hp} (s : Same H H') : ExtE H H' := fun b o e _ => s b o e
theorem ExtE.trans {H H1 H2 : Hp} (a : ExtE H H1) (b : ExtE H1 H2) : ExtE H H2 := fun c o e n => b c o (a c o e n) n
theorem ExtE.tp {H H' : Hp} (e : ExtE H H') : Tp H H' := fun b xs h => by
  rcases h with h | ⟨o, h⟩
  · exact .inl (e _ _ h fun φ z => by cases z)
  · exact .inr ⟨o, e _ _ h fun φ z => by cases z⟩
def dropH (as : List Addr) (H : Hp) : Hp := fun b => if b ∈ as then none else H b
def pinH (as : List Addr) (h : Heap) (H : Hp) : Hp := fun b => if b ∈ as then (h.get? b).map (PinO b) else H b
def mixH (as : List Addr) (Hi Ho : Hp) : Hp := fun b => if b ∈ as then Hi b else Ho b
theorem dropH_in {as : List Addr} {H : Hp} {b : Addr} (h : b ∈ as) : dropH as H b = none := if_pos h
theorem dropH_out {as : List Addr} {H : Hp} {b : Addr} (h : b ∉ as) : dropH as H b = H b := if_neg h
theorem dropH_none {as : List Addr} {H : Hp} {b : Addr} (h : H b = none) : dropH as H b = none := by
  unfold dropH
  split
  · rfl
  · exact h
theorem pinH_in {as : List Addr} {h : Heap} {H : Hp} {b : Addr} {o : Obj} (hb : b ∈ as) (e : h.get? b = some o) : pinH as h H b = some (PinO b o) := by
  unfold pinH
  rw [if_pos hb, e]
  rfl
theorem pinH_out {as : List Addr} {h : Heap} {H : Hp} {b : Addr} (hb : b ∉ as) : pinH as h H b = H b := if_neg hb
theorem hok_drop {P : Program} {w : World} {H : Hp} {h : Heap} {as : List Addr} (x : HOk P w H h) (hx : ∀ b ∈ as, ∀ u, H b = some u → ∃ φ, u = .ext φ) : HOk P w (dropH as H) h := fun a o e => by
  have nn : ∀ b u, H b = some u → (∀ φ, u ≠ .ext φ) → b ∉ as := fun b u q n z => by
    obtain ⟨φ, e⟩ := hx b z u q
    exact n φ e
  by_cases ha : a ∈ as
  · rw [dropH_in ha] at e
    cases e
  · rw [dropH_out ha] at e
    refine (x a o e).stay (fun b u _ q => q) (fun b q => ?_) (fun b xs q => ?_)
    · rw [dropH_out (nn b _ q fun φ z => by cases z)]
      exact q
    · rw [dropH_out (nn b _ q fun φ z => by cases z)]
      exact q
theorem hok_pin {P : Program} {w : World} {H : Hp} {h : Heap} {as : List Addr} (x : HOk P w H h) (hn : ∀ b ∈ as, H b = none) (ho : ∀ b ∈ as, ∃ o, h.get? b = some o) : HOk P w (pinH as h H) h := fun a o e => by
  have nn : ∀ b u, H b = some u → b ∉ as := fun b u q z => by
    rw [hn b z] at q
    cases q
  by_cases ha : a ∈ as
  · obtain ⟨oo, eo⟩ := ho a ha
    rw [pinH_in ha eo] at e
    cases e
    exact ⟨eo, ⟨oo, eo⟩, fun h1 h2 z st => st _ z⟩
  · rw [pinH_out ha] at e
    refine (x a o e).stay (fun b u _ q => q) (fun b q => ?_) (fun b xs q => ?_)
    · rw [pinH_out (nn b _ q)]
      exact q
    · rw [pinH_out (nn b _ q)]
      exact q
/-- a lambda's words -/
structure LF where
  qual : Str
  params : Arguments
  body : Expr
  scope : Scope
  cl : List (Str × Addr)
  c : Addr
def LamO (f : Addr) (L : LF) : HO := .ext fun h => ∃ pm ctv : Value, h.get? f = some (PySem.W.kla_obj "<lambda>" L.qual L.params L.body L.scope L.cl pm L.c ctv)
theorem lamO_ne {f : Addr} {L : LF} (ps : Array Value) : LamO f L ≠ .tbl ps := fun z => by
  unfold LamO at z
  cases z
abbrev LF.nf (L : LF) : NdefX.NF := ⟨"<lambda>", L.qual, L.params, [], L.scope, L.cl, L.c⟩
/-- at f stands a function that gives op a b for any a, b below N, and writes nothing -/
def LamP (P : Program) (w : World) (K : PySem.W.Frag) (mg : Str → Option Value) (base : Heap) (k : Nat) (f : Addr) (N : Nat) (op : Nat → Nat → Nat) (H : Hp) : Prop :=
  ∃ (pn : List (Addr × HO)) (J : Hp → Prop), (∀ H H', ExtE H H' → J H → J H') ∧ J H ∧ (∀ p ∈ pn, H p.1 = some p.2) ∧ (∀ (s : Shared) (H' : Hp), HOk P w H' s.heap → (∀ p ∈ pn, H' p.1 = some p.2) → PySem.W.FnAt f s.heap) ∧
  ∀ (A : Around) (outer : List Env) (s : Shared) (H' : Hp) (us : List Value) (Q : VK) (a b : Nat), Room k A → Env0 P w K mg base A outer s H' → (∀ p ∈ pn, H' p.1 = some p.2) → J H' → a < N → b < N → Vals [.int (a : Int), .int (b : Int)] us → (∀ H'', Same H' H'' → Q (.int (op a b : Nat)) H'') →
    codeAny (model P w) A (.call (.ref f) ⟨us, []⟩) (CR CX0 outer P w H' s Q E0) s
theorem LamP.same {P : Program} {w : World} {K : PySem.W.Frag} {mg : Str → Option Value} {base : Heap} {k : Nat} {f : Addr} {N : Nat} {op : Nat → Nat → Nat} {H H' : Hp} (h : LamP P w K mg base k f N op H) (s : Same H H') : LamP P w K mg base k f N op H' := by
  obtain ⟨pn, J, h1, h2, h3, h4, h5⟩ := h
  exact ⟨pn, J, h1, h1 _ _ (ExtE.same s) h2, fun p hp => s _ _ (h3 p hp), h4, h5⟩
/-- x(a, b), x a name that holds such a function -/
def tLamC (P : Program) (w : World) (K : PySem.W.Frag) (mg : Str → Option Value) (base : Heap) (k i : Nat) (t : L2.TA) : TE := fun σ H Q => ∃ (f : Addr) (N : Nat) (op : Nat → Nat → Nat), σ[i]? = some (some (.ref f)) ∧ LamP P w K mg base k f N op H ∧
  t σ H fun vs H1 => ∃ a b : Nat, vs = [.int (a : Int), .int (b : Int)] ∧ a < N ∧ b < N ∧ LamP P w K mg base k f N op H1 ∧ ∀ H2, Same H1 H2 → Q (.int (op a b : Nat)) H2
theorem pe_lamC {X : Cx} {k j i : Nat} {x : Str} {e : Expr} {es : List Expr} {t : L2.TA} {p pos : Pos} (hr : Room j X.A) (hk : k ≤ j) (hN : X.N[i]? = some x) (hv : Vis X.env.scope x) (ha : PA X (e :: es) t)
    (hd : (x == ("__debug__" : Str)) = false := by decide) (hcd : (x == ("__classdict__" : Str)) = false := by decide)
    (he : starEach (e :: es) X.env = (false, eval e X.env) :: starEach es X.env := by rfl) (hpl : (backTo pos (starEach es X.env)).any (·.1) = false := by rfl) :
    PE X (.Call (.Name x p) (e :: es) [] pos) (tLamC X.prog X.w X.K X.mg X.base k i t) := by
  refine ⟨fun pins s σ H Q I h => ?_⟩
  obtain ⟨f, N, op, hs, hf, ht⟩ := h
  refine wpAny_Call_Name_kw (thn ((pe_var (pos := p) hN hv hd hcd).run pins s σ H (fun v H1 => v = .ref f ∧ H1 = H) I ⟨.ref f, hs, rfl, rfl⟩) fun u s1 ⟨v, H1, I1, r1, q1⟩ => ?_)
  obtain ⟨ev, eH⟩ := q1
  subst ev
  rw [eH] at I1
  obtain rfl : u = Value.ref f := r1
  have at1 : PySem.W.FnAt f s1.heap := by
    obtain ⟨pn, J, _, _, h3, h4, _⟩ := hf
    exact h4 s1 H I1.hok h3
  refine PySem.W.callWith_F (first := []) at1 (thn (ha.run pos pins s1 σ H _ I1 ht) fun us s2 ⟨vs, H2, I2, r, a, b, ev, la, lb, hL, q⟩ => ?_) he hpl
  subst ev
  obtain ⟨pn, J, h1, h2, h3, h4, h5⟩ := hL
  refine ⟨h4 s2 H2 I2.hok h3, ?_⟩
  show wpAny _ _ (call (.ref f) us) _ _ _
  refine wpAny_call (codeAny_mono (h5 X.A X.stack s2 H2 us Q a b (hr.mono hk) I2.env0 h3 h2 la lb r q) fun r s' hq => ?_)
  cases r with
  | error e => exact (show False from hq).elim
  | ok fl =>
    cases fl with
    | ret u => exact I2.after hq
    | next => exact False.elim hq
    | brk => exact False.elim hq
    | cont => exact False.elim hq
/-! ### the lambda is made -/
def tLamV (T : List (Addr × Str)) (mk : Addr → LF) : TE := fun σ H Q => LamX.Tabs T H ∧ ∀ (f c' : Addr) (H1 : Hp), LamX.ExtN H H1 → LamX.Tabs T H1 → H f = none → H1 f = some (LamO f (mk c')) → H1 c' = some (LamX.CodeO c' (mk c').qual) → Q (.ref f) H1
theorem pe_lamV {X : Cx} {T : List (Addr × Str)} {c P : Addr} {params : Arguments} {body : Expr} {scope : Scope} {pos : Pos} (TB : LamX.TabB X.base X.mg c P) (hcode : X.env.code = .ref c) (hm : (P, X.env.qual ++ "<lambda>") ∈ T) (hu : ∀ p ∈ T, p.1 = P → p.2 = X.env.qual ++ "<lambda>") (hdef : defaultsOf params X.env = ([], []))
    (hfree : ∀ y ∈ scope.names, y.2 = .free → X.env.scope.names.lookup y.1 = some .cell ∨ X.env.scope.names.lookup y.1 = some .free) :
    PE X (.Lambda params body scope pos) (tLamV T fun c' => ⟨X.env.qual ++ "<lambda>", params, body, scope, cloFrom X.env.cells scope.names [], c'⟩) := by
  refine ⟨fun pins s σ H Q I ⟨hT, h⟩ => PySem.W.kla_eval hdef ?_⟩
  have hfr : ∀ y ∈ scope.names, y.2 = .free → ∃ c, X.env.cells.lookup y.1 = some c := fun y hy e => (hfree y hy e).elim (fun z => I.ok.has _ (.inl z)) fun z => I.ok.has _ (.inr z)
  obtain ⟨ps, tP, tOk, tAll⟩ := hT _ hm
  have atP : s.heap.get? P = some { cls := .none, data := .fields ps } := I.hok P _ tP
  have laidF : ∀ {H1 : Hp} {s1 : Shared} {pm ctv : Value} {c' : Addr} {tk : Nat}, Inv X pins σ H1 s1 → Inv X pins σ (upd H1 s1.heap.objs.size (LamO s1.heap.objs.size ⟨X.env.qual ++ "<lambda>", params, body, scope, cloFrom X.env.cells scope.names [], c'⟩)) { s1 with heap := s1.heap.push (PySem.W.kla_obj "<lambda>" (X.env.qual ++ "<lambda>") params body scope (cloFrom X.env.cells scope.names []) pm c' ctv), toks := tk } := fun {H1 s1 pm ctv c' tk} J =>
    J.laid (fun b u e => Heap.get?_push_of_some _ e) (Nat.le_refl _) ⟨⟨pm, ctv, Heap.get?_push_size _ rfl⟩, ⟨_, Heap.get?_push_size _ rfl⟩, fun h1 h2 ⟨pm, ctv, z⟩ st => ⟨pm, ctv, st _ z⟩⟩
  rcases hc : codeAmong pos ps.toList with _ | cv
  · refine PySem.W.kla_makeFunction (mg := X.mg) (c := c) (P := P) (ps := ps) (closure_ok hfr) I.ok.glob (I.mod.glob.keeps I.bk) hcode (TB.code.keeps I.bk) atP tOk hc TB.gP (TB.bm.keeps I.bk) fun c' ctv h' tk hx hge hlt hrec htb => ?_
    obtain ⟨c2, oc, vs, t, e2, hoc, hd, hv⟩ := hrec
    cases e2
    have nC : H c' = none := I.hok.fresh hge
    have nF : H h'.objs.size = none := I.hok.fresh (Nat.le_trans hge (Nat.le_of_lt hlt))
    have I1 := LamX.inv_table (q := X.env.qual ++ "<lambda>") (t' := tk) (more := #[rawInt pos.line, rawInt pos.col, .ref c']) (h' := h') I tP (fun b o hb e => hx b o hb e) htb hge ⟨oc, vs, t, hoc, hd, hv⟩
    have nF1 := I1.hok.fresh (Nat.le_refl _)
    have I2 := laidF (pm := (X.mg "__name__").getD .none) (ctv := ctv) (c' := c') (tk := tk) I1
    have ne1 : c' ≠ h'.objs.size := Nat.ne_of_lt hlt
    have neP : P ≠ c' := ne_of_none tP nC
    have nePF : P ≠ h'.objs.size := ne_of_none tP nF
    have hE : LamX.ExtN H (upd (upd (upd H P (.tbl (ps ++ #[rawInt pos.line, rawInt pos.col, .ref c']))) c' (LamX.CodeO c' (X.env.qual ++ "<lambda>"))) h'.objs.size (LamO h'.objs.size ⟨X.env.qual ++ "<lambda>", params, body, scope, cloFrom X.env.cells scope.names [], c'⟩)) := fun b o e n => by
      have nb : b ≠ P := fun z => n ps (Option.some.inj (e.symm.trans (by rw [z]; exact tP)))
      rw [upd_ne (ne_of_none e nF), upd_ne (ne_of_none e nC), upd_ne nb]
      exact e
    have eL : (ps ++ #[rawInt pos.line, rawInt pos.col, .ref c']).toList = ps.toList ++ [rawInt pos.line, rawInt pos.col, .ref c'] := by simp
    refine h h'.objs.size c' _ hE (fun p hp => ?_) nF upd_same (by rw [upd_ne ne1, upd_same]) |> fun q => ⟨.ref h'.objs.size, _, I2, rfl, q⟩
    by_cases hb : p.1 = P
    · refine ⟨_, by rw [hb, upd_ne nePF, upd_ne neP, upd_same], by rw [eL]; exact PySem.TriplesOk_snoc _ _ _ _ tOk, fun p' cv hcv => ?_⟩
      rw [eL] at hcv
      rw [hu p hp hb]
      rcases LamX.among_app _ tOk hcv with z | z
      · obtain ⟨c0, e1, e2⟩ := tAll p' cv z
        exact ⟨c0, e1, hE _ _ e2 LamX.codeO_ne⟩
      · exact ⟨c', z, by rw [upd_ne ne1, upd_same]⟩
    · obtain ⟨ps', a1, a2, a3⟩ := hT p hp
      refine ⟨ps', by rw [upd_ne (ne_of_none a1 nF), upd_ne (ne_of_none a1 nC), upd_ne hb]; exact a1, a2, fun p' cv hcv => ?_⟩
      obtain ⟨c0, e1, e2⟩ := a3 p' cv hcv
      exact ⟨c0, e1, hE _ _ e2 LamX.codeO_ne⟩
  · obtain ⟨c', e, hco⟩ := tAll pos cv hc
    subst e
    refine PySem.W.kla_makeFunctionHit (mg := X.mg) (c := c) (P := P) (ps := ps) (closure_ok hfr) I.ok.glob (I.mod.glob.keeps I.bk) hcode (TB.code.keeps I.bk) atP tOk hc (TB.bm.keeps I.bk) fun ctv h' tk hx hsz => ?_
    have I1 : Inv X pins σ H { s with heap := h', toks := tk } := I.kept hx
    have nF : H h'.objs.size = none := I1.hok.fresh (Nat.le_refl _)
    have I2 := laidF (pm := (X.mg "__name__").getD .none) (ctv := ctv) (c' := c') (tk := tk) I1
    have sm : Same H (upd H h'.objs.size (LamO h'.objs.size ⟨X.env.qual ++ "<lambda>", params, body, scope, cloFrom X.env.cells scope.names [], c'⟩)) := Same.new nF _
    exact ⟨.ref h'.objs.size, _, I2, rfl, h h'.objs.size c' _ (LamX.ExtN.of sm) (hT.ext sm) nF upd_same (sm _ _ hco)⟩
/-- the cells that were captured -/
def capA (cl : List (Str × Addr)) : List Addr := (cl.map (·.1)).filterMap fun y => cl.lookup y
theorem capA_of {cl : List (Str × Addr)} {y : Str} {c : Addr} (e : cl.lookup y = some c) : c ∈ capA cl := List.mem_filterMap.mpr ⟨y, List.mem_map.mpr ⟨(y, c), PySem.mem_of_lookup e, rfl⟩, e⟩
theorem capA_in {cl : List (Str × Addr)} {c : Addr} (h : c ∈ capA cl) : ∃ y, cl.lookup y = some c := by
  obtain ⟨y, _, e⟩ := List.mem_filterMap.mp h
  exact ⟨y, e⟩
/-! ### the def called with it: the cells that it captured stand pinned meanwhile -/
def tCallLam (P : Program) (w : World) (K : PySem.W.Frag) (mg : Str → Option Value) (base : Heap) (k : Nat) (mk : Addr → LF) (sp : Sp) (Nl : List Str) (js : List Nat) (t : L2.TA) (tb : TE) : TE := fun σ H Q => t σ H fun vs H1 => ∃ (f c' : Addr), H1 f = some (LamO f (mk c')) ∧ H1 c' = some (LamX.CodeO c' (mk c').qual) ∧
  ∃ (N : Nat) (op : Nat → Nat → Nat) (J : Hp → Prop), (∀ H H', ExtE H H' → J H → J H') ∧ J H1 ∧
    (∀ (a b : Nat) (H' : Hp), a < N → b < N → J H' → tb (NdefX.startF Nl [.int (a : Int), .int (b : Int)] (js.map (NdefX.slotAt σ))) H' (fun u H'' => u = .int (op a b : Nat) ∧ Same H' H'')) ∧
    ∀ H2, Same H1 H2 → LamP P w K mg base k f N op H2 → sp vs H2 (fun u H3 => Same H2 H3 ∧ ∀ H4, Same H1 H4 → ExtE H3 H4 → Q u H4) E0
theorem lam_run {P : Program} {w : World} {K : PySem.W.Frag} {mg : Str → Option Value} {base : Heap} {Nl ps fr : List Str} {L : LF} {f : Addr} {k : Nat} {ws : List (Option V)} {s1 : Shared} {H1 : Hp} {tb : TE} {N : Nat} {op : Nat → Nat → Nat} {J : Hp → Prop}
    (S : NdefX.NScope Nl ps fr L.scope) (hps : ps.length = 2) (hbind : ∀ (pm ctv : Value) (us : List Value), us.length = ps.length → bindArgs (PySem.W.kla_fn "<lambda>" L.qual L.params L.body L.scope L.cl pm (.ref L.c) ctv) ⟨us, []⟩ = pure (ps.zip us))
    (C1 : NdefX.CellsAt L.cl fr ws s1.heap H1) (hf : H1 f = some (LamO f L)) (hc : H1 L.c = some (LamX.CodeO L.c L.qual)) (st : ∀ H H', ExtE H H' → J H → J H') (hJ : J H1)
    (hb : ∀ (a b : Nat) (H' : Hp), a < N → b < N → J H' → tb (NdefX.startF Nl [.int (a : Int), .int (b : Int)] ws) H' (fun u H'' => u = .int (op a b : Nat) ∧ Same H' H''))
    (hbody : ∀ (A : Around) (outer : List Env) (s : Shared) (H : Hp), Room k (A.deeper (NdefX.envF L.nf f s.heap.objs.size)) → PE (NdefX.ncx CX0 P w K mg base Nl L.nf f A outer s H E0) L.body tb) :
    LamP P w K mg base (k + 1) f N op (pinH (capA L.cl) s1.heap H1) := by
  have hin : ∀ b ∈ capA L.cl, H1 b = none ∧ ∃ o, s1.heap.get? b = some o := fun b hb => by
    obtain ⟨y, e⟩ := capA_in hb
    obtain ⟨h1, v, o, h2, _⟩ := C1.all y b e
    exact ⟨h1, o, h2⟩
  have nin : ∀ b o, H1 b = some o → b ∉ capA L.cl := fun b o e z => by
    rw [(hin b z).1] at e
    cases e
  refine ⟨(f, LamO f L) :: (L.c, LamX.CodeO L.c L.qual) :: (capA L.cl).filterMap (fun b => (s1.heap.get? b).map fun o => (b, PinO b o)), J, st, st _ _ (ExtE.same fun b o e => ?_) hJ, fun p hp => ?_, fun s H' hok hp => ?_, ?_⟩
  · rw [pinH_out (nin b o e)]
    exact e
  · rcases List.mem_cons.mp hp with rfl | hp
    · show pinH _ _ _ f = _
      rw [pinH_out (nin _ _ hf)]
      exact hf
    rcases List.mem_cons.mp hp with rfl | hp
    · show pinH _ _ _ L.c = _
      rw [pinH_out (nin _ _ hc)]
      exact hc
    obtain ⟨b, hb, e⟩ := List.mem_filterMap.mp hp
    obtain ⟨o, ho⟩ := (hin b hb).2
    rw [ho] at e
    cases e
    exact pinH_in hb ho
  · obtain ⟨⟨pm, ctv, e⟩, _⟩ := hok f _ (hp _ List.mem_cons_self)
    exact ⟨_, _, _, _, e⟩
  intro A outer s H' us Q a b hr e0 hp hJ' la lb r q
  have pf : H' f = some (LamO f L) := hp _ List.mem_cons_self
  have pc : H' L.c = some (LamX.CodeO L.c L.qual) := hp _ (List.mem_cons_of_mem _ List.mem_cons_self)
  have pcell : ∀ b ∈ capA L.cl, ∃ o, s1.heap.get? b = some o ∧ H' b = some (PinO b o) ∧ s.heap.get? b = some o := fun b hb => by
    obtain ⟨o, ho⟩ := (hin b hb).2
    have e : H' b = some (PinO b o) := hp (b, PinO b o) (List.mem_cons_of_mem _ (List.mem_cons_of_mem _ (List.mem_filterMap.mpr ⟨b, hb, by rw [ho]; rfl⟩)))
    obtain ⟨z, _⟩ := e0.hok b _ e
    exact ⟨o, ho, e, z⟩
  have e0' : Env0 P w K mg base A outer s (dropH (capA L.cl) H') := ⟨e0.frames, e0.mod, fun b o e => ⟨(e0.bs b o e).1, dropH_none (e0.bs b o e).2⟩, e0.bsz, e0.funs, fun b hb => dropH_none (e0.frf b hb), hok_drop e0.hok fun b hb u eu => by
    obtain ⟨o, _, e, _⟩ := pcell b hb
    rw [e] at eu
    cases eu
    exact ⟨_, rfl⟩, e0.bare⟩
  have C0 : NdefX.CellsAt L.cl fr ws s.heap (dropH (capA L.cl) H') := by
    have keep : ∀ y c, L.cl.lookup y = some c → ∀ v, s1.heap.IsCell c v → s.heap.IsCell c v := fun y c e v ⟨o, ho, hd⟩ => by
      obtain ⟨o', h1, _, h2⟩ := pcell c (capA_of e)
      rw [ho] at h1
      cases h1
      exact ⟨o, h2, hd⟩
    refine ⟨C1.len, fun y c e => ⟨dropH_in (capA_of e), ?_⟩, C1.inj, fun i y e => ?_⟩
    · obtain ⟨v, z⟩ := (C1.all y c e).2
      exact ⟨v, keep y c e v z⟩
    · obtain ⟨c, hc, hv⟩ := C1.has i y e
      refine ⟨c, hc, fun v ev => ?_⟩
      obtain ⟨u, ru, z⟩ := hv v ev
      exact ⟨u, ru, keep y c hc _ z⟩
  obtain ⟨⟨pm, ctv, ho⟩, _⟩ := e0.hok f _ pf
  have lim : s.heap.NoLimit := e0.mod.nolimit.keeps fun b o e => (e0.bs b o e).1
  have hl : ([V.int (a : Int), V.int (b : Int)] : List V).length = ps.length := hps.symm
  refine PySem.W.kla_callFunE hr.depth ho rfl S.co S.gen rfl (NdefX.codeO_at e0.hok pc) ?_
  rw [hbind pm ctv us (by rw [← r.length]; exact hl)]
  refine wpAny_pure (wpAny_newFunctionEnv S.nocell (fun ⟨n, _⟩ hy => S.par n (List.of_mem_zip hy).1) (fun h₁ hns hsb => ⟨lim.fresh _ hsb, ?_⟩) S.kind)
  show codeAny _ _ (.expr L.body (NdefX.envF L.nf f s.heap.objs.size)) _ _
  have kp : ∀ b o, s.heap.get? b = some o → h₁.get? b = some o := fun b o e => hsb.extBut b o (Nat.ne_of_lt (Heap.lt_size e)) (Heap.get?_push_of_some _ e)
  have I := NdefX.inv_startN (CX := CX0) (E := E0) (F := L.nf) (f := f) (tk := s.toks + (ps.zip us).length) S hr.hd e0' hl r C0 hns kp
  have hxE : ExtE H' (dropH (capA L.cl) H') := fun b o e n => by
    rw [dropH_out fun z => ?_]
    · exact e
    · obtain ⟨o', _, e', _⟩ := pcell b z
      rw [e'] at e
      cases e
      exact n _ rfl
  refine PySem.W.kla_codeExpr (wpAny_mono ((hbody A outer s _ (hr.deeper _)).run [] _ _ _ _ I (hb a b _ la lb (st _ _ hxE hJ'))) (fun v s3 ⟨w3, H3, J3, rv, ew, sm⟩ => ?_) fun e s3 z => z)
  have un : Un (frs outer) [] (dropH (capA L.cl) H') H3 s.heap s3.heap := J3.base
  subst ew
  have gone : ∀ b ∈ capA L.cl, H3 b = none := fun b hb => by
    obtain ⟨o, _, _, z⟩ := pcell b hb
    exact un.free b o z (dropH_in hb) (by simp)
  have back : ∀ b, b ∉ capA L.cl → mixH (capA L.cl) H' H3 b = H3 b := fun b hb => if_neg hb
  have inn : ∀ b, b ∈ capA L.cl → mixH (capA L.cl) H' H3 b = H' b := fun b hb => if_pos hb
  refine ⟨_, mixH (capA L.cl) H' H3, J3.os, J3.bare, ⟨fun b o e n nf nx => ?_, fun b o e n nf nx => ?_, fun b o e n nx => ?_, un.there, fun b xs e => ?_, fun b o u e => ?_, fun b qs e => ?_⟩, fun b u e => ?_, rv, q _ fun b o e => ?_⟩
  · exact un.keep b o e (dropH_none n) nf nx
  · exact un.slot b o e (dropH_none n) nf nx
  · by_cases hb : b ∈ capA L.cl
    · rw [inn b hb]
      exact n
    · rw [back b hb]
      exact un.free b o e (dropH_none n) nx
  · have hb : b ∉ capA L.cl := fun z => by
      obtain ⟨o', _, e', _⟩ := pcell b z
      rw [e'] at e
      cases e
    rw [back b hb]
    exact un.tups b xs (by rw [dropH_out hb]; exact e)
  · have hb : b ∉ capA L.cl := fun z => by
      obtain ⟨o', _, e', _⟩ := pcell b z
      rw [e'] at e
      cases e
    rw [back b hb]
    exact un.frzs b o u (by rw [dropH_out hb]; exact e)
  · have hb : b ∉ capA L.cl := fun z => by
      obtain ⟨o', _, e', _⟩ := pcell b z
      rw [e'] at e
      cases e
    rw [back b hb]
    exact un.tbls b qs (by rw [dropH_out hb]; exact e)
  · by_cases hb : b ∈ capA L.cl
    · rw [inn b hb] at e
      obtain ⟨o, _, e', z⟩ := pcell b hb
      rw [e'] at e
      cases e
      have nfr : b ∉ frs outer := fun y => by
        rw [e0.frf b y] at e'
        cases e'
      have z3 := un.keep b o z (dropH_in hb) nfr (by simp)
      exact ⟨z3, ⟨o, z3⟩, fun h1 h2 y st => st _ y⟩
    · rw [back b hb] at e
      refine (J3.hok b u e).stay (fun c v _ y => y) (fun c y => ?_) (fun c xs y => ?_)
      · rw [back c fun z => by rw [gone c z] at y; cases y]
        exact y
      · rw [back c fun z => by rw [gone c z] at y; cases y]
        exact y
  · by_cases hb : b ∈ capA L.cl
    · rw [inn b hb]
      exact e
    · rw [back b hb]
      exact sm b o (by rw [dropH_out hb]; exact e)
theorem pe_callLam {X : Cx} {g : Addr} {kg kl : Nat} {gd : FuncData} {psg psl fr Nl : List Str} {js : List Nat} {sp : Sp} {x : Str} {e1 : Expr} {t : L2.TA} {tb : TE} {params : Arguments} {body : Expr} {scope : Scope} {p pos lp : Pos}
    (G : FnOk X.prog X.w X.K X.mg X.base CX0 kg g gd psg sp) (hr : Room kg X.A) (hg : Gl X x) (hm : X.mg x = some (.ref g)) (hk : PySem.W.keepIn X.K (.ref g) = true) (hb : Binds X.K gd psg []) (S : NdefX.NScope Nl psl fr scope) (hps : psl.length = 2) (hdf : NdefX.ndefB X.env.scope scope fr = true) (hjs : js.map (fun j => X.N[j]?) = fr.map some) (hfn : ∀ y, X.fn y = true)
    (hbind : ∀ (q : Str) (cl : List (Str × Addr)) (pm cv ctv : Value) (us : List Value), us.length = psl.length → bindArgs (PySem.W.kla_fn "<lambda>" q params body scope cl pm cv ctv) ⟨us, []⟩ = pure (psl.zip us))
    (hbody : ∀ (A : Around) (outer : List Env) (s : Shared) (H : Hp) (f : Addr) (cl : List (Str × Addr)) (c' : Addr), Room kl (A.deeper (NdefX.envF (LF.nf ⟨X.env.qual ++ "<lambda>", params, body, scope, cl, c'⟩) f s.heap.objs.size)) → PE (NdefX.ncx CX0 X.prog X.w X.K X.mg X.base Nl (LF.nf ⟨X.env.qual ++ "<lambda>", params, body, scope, cl, c'⟩) f A outer s H E0) body tb) (ha : PA X [e1, .Lambda params body scope lp] t)
    (hdb : (x == ("__debug__" : Str)) = false := by decide) (he : starEach [e1, .Lambda params body scope lp] X.env = (false, eval e1 X.env) :: starEach [.Lambda params body scope lp] X.env := by rfl) (hpl : (backTo pos (starEach [.Lambda params body scope lp] X.env)).any (·.1) = false := by rfl) :
    PE X (.Call (.Name x p) [e1, .Lambda params body scope lp] [] pos) (tCallLam X.prog X.w X.K X.mg X.base (kl + 1) (fun c' => ⟨X.env.qual ++ "<lambda>", params, body, scope, cloFrom X.env.cells scope.names [], c'⟩) sp Nl js t tb) := by
  refine ⟨fun pins s σ H Q I h => wpAny_Call_Name_kw (ld_glob I hg hm ?_ hdb)⟩
  refine PySem.W.callWith_K (h₀ := X.base) I.ok.mod.kin hk (thn (ha.run pos pins s σ H _ I h) fun us s1 ⟨vs, H1, I1, r, f, c', hf, hc, N, op, J, st, hJ, hB, q⟩ => ⟨I1.kIn, ?_⟩) he hpl
  have C1 := NdefX.cells_of (js := js) I1 (NdefX.Caps.made I1.ok (NdefX.ndef_free hdf) (NdefX.ndef_fr hdf) hjs)
  have sub : ∀ c ∈ capA (cloFrom X.env.cells scope.names []), ∃ y, X.env.cells.lookup y = some c := fun c h => by
    obtain ⟨y, e⟩ := capA_in h
    refine ⟨y, NdefX.clo_cm (fun y hy e => (NdefX.ndef_free hdf y hy e).elim (fun z => I1.ok.has _ (.inl z)) fun z => I1.ok.has _ (.inr z)) e⟩
  have hnone : ∀ b ∈ capA (cloFrom X.env.cells scope.names []), H1 b = none ∧ ∃ o, s1.heap.get? b = some o := fun b hb => by
    obtain ⟨y, e⟩ := sub b hb
    obtain ⟨v, o, ho, _⟩ := I1.cell y b e
    exact ⟨I1.freeC y b e, o, ho⟩
  have big : ∀ b ∈ capA (cloFrom X.env.cells scope.names []), X.s_0.heap.objs.size ≤ b := fun b hb => by
    obtain ⟨y, e⟩ := sub b hb
    exact I1.ok.cab y b (hfn y) e
  have nfr : ∀ b ∈ capA (cloFrom X.env.cells scope.names []), b ∉ frs X.stack := fun b hb z => by
    obtain ⟨y, e⟩ := sub b hb
    rcases List.mem_cons.mp (I1.stkSub b z) with e' | e'
    · exact I1.cne y b e e'
    · obtain ⟨_, o, ho, _⟩ := I1.ok.funs.mem e'
      exact absurd (Nat.lt_of_lt_of_le (Heap.lt_size ho) (big b hb)) (Nat.lt_irrefl _)
  have out : ∀ b, H1 b = none → b ∉ capA (cloFrom X.env.cells scope.names []) → pinH (capA (cloFrom X.env.cells scope.names [])) s1.heap H1 b = none := fun b e n => by rw [pinH_out n]; exact e
  have sm : Same H1 (pinH (capA (cloFrom X.env.cells scope.names [])) s1.heap H1) := fun b o e => by
    rw [pinH_out fun z => by rw [(hnone b z).1] at e; cases e]
    exact e
  have eb := I1.env0
  have e0 : Env0 X.prog X.w X.K X.mg X.base X.A X.stack s1 (pinH (capA (cloFrom X.env.cells scope.names [])) s1.heap H1) := ⟨eb.frames, eb.mod, fun b o e => ⟨(eb.bs b o e).1, out b (eb.bs b o e).2 fun z => absurd (Nat.lt_of_lt_of_le (Heap.lt_size e) (Nat.le_trans I1.ok.bsz (big b z))) (Nat.lt_irrefl _)⟩, eb.bsz, eb.funs,
    fun b hb => out b (eb.frf b hb) fun z => nfr b z hb, hok_pin eb.hok (fun b hb => (hnone b hb).1) (fun b hb => (hnone b hb).2), eb.bare⟩
  have hL := lam_run (K := X.K) (mg := X.mg) (base := X.base) (w := X.w) (P := X.prog) (L := ⟨X.env.qual ++ "<lambda>", params, body, scope, cloFrom X.env.cells scope.names [], c'⟩) S hps (fun pm ctv us hu => hbind _ _ _ _ _ us hu) C1 hf hc st hJ hB (fun A outer s H hr2 => hbody A outer s H f _ _ hr2)
  have hsp := q _ sm hL
  have hlen := G.len _ _ _ _ hsp
  show wpAny _ _ (call (.ref g) us) _ _ _
  have hbd := hb s1 us I1.kIn (by rw [List.append_nil, ← r.length]; exact hlen)
  rw [List.append_nil] at hbd
  refine wpAny_call (codeAny_mono (G.run X.A X.stack s1 _ ⟨us, []⟩ us vs _ E0 hr e0 hbd r hsp) fun rs s2 hq => ?_)
  cases rs with
  | error e => exact (show False from hq).elim
  | ok fl =>
    cases fl with
    | next => exact False.elim hq
    | brk => exact False.elim hq
    | cont => exact False.elim hq
    | ret u =>
      obtain ⟨v, H3, os, bare, un, hok, rv, sm3, q4⟩ := hq
      have held : ∀ b ∈ capA (cloFrom X.env.cells scope.names []), ∃ o, s1.heap.get? b = some o ∧ s2.heap.get? b = some o ∧ H3 b = some (PinO b o) := fun b hb => by
        obtain ⟨o, ho⟩ := (hnone b hb).2
        have e := sm3 _ _ (pinH_in (H := H1) hb ho)
        obtain ⟨z, _⟩ := hok b _ e
        exact ⟨o, ho, z, e⟩
      have nin : ∀ b o, H1 b = some o → b ∉ capA (cloFrom X.env.cells scope.names []) := fun b o e z => by
        rw [(hnone b z).1] at e
        cases e
      have smF : Same H1 (dropH (capA (cloFrom X.env.cells scope.names [])) H3) := fun b o e => by
        rw [dropH_out (nin b o e)]
        exact sm3 _ _ (sm _ _ e)
      refine I1.after ⟨v, dropH (capA (cloFrom X.env.cells scope.names [])) H3, os, bare, ⟨fun b o e n nf nx => ?_, fun b o e n nf nx => ?_, fun b o e n nx => ?_, un.there, fun b xs e => smF _ _ e, fun b o u e => smF _ _ e, fun b qs e => ⟨#[], by rw [smF _ _ e]; simp⟩⟩, hok_drop hok fun b hb u eu => ?_, rv, q4 _ smF fun b o e n => ?_⟩
      · by_cases hb : b ∈ capA (cloFrom X.env.cells scope.names [])
        · obtain ⟨o', h1, h2, _⟩ := held b hb
          rw [e] at h1
          cases h1
          exact h2
        · exact un.keep b o e (out b n hb) nf nx
      · by_cases hb : b ∈ capA (cloFrom X.env.cells scope.names [])
        · exact absurd nf (nfr b hb)
        · exact un.slot b o e (out b n hb) nf nx
      · by_cases hb : b ∈ capA (cloFrom X.env.cells scope.names [])
        · exact dropH_in hb
        · rw [dropH_out hb]
          exact un.free b o e (out b n hb) nx
      · obtain ⟨o, _, _, e'⟩ := held b hb
        rw [e'] at eu
        cases eu
        exact ⟨_, rfl⟩
      · rw [dropH_out fun z => ?_]
        · exact e
        · obtain ⟨o', _, _, e'⟩ := held b z
          rw [e'] at e
          cases e
          exact n _ rfl
end OPLP
section OPN
open PySem PySem.Spec PyProof.Rows
/-! ### an own exception whose __init__ says super().__init__(text), then self.f = x -/
/-- the context of such a body: its only cell is __class__'s, in the written part -/
def cxS (CX : CXT) (P : Program) (w : World) (K : PySem.W.Frag) (mg : Str → Option Value) (base : Heap) (N : List Str) (qual : Str) (scope : Scope) (f : Addr) (cd : Value) (cc : Addr) (A : Around) (outer : List Env) (s : Shared) (H : Hp) (E : XK) : Cx where
  prog := P
  w := w
  K := K
  mg := mg
  base := base
  A := A.deeper (PySem.W.ksEnv qual scope s.heap.objs.size f cd cc)
  N := N
  s_0 := s
  H_0 := H
  env := PySem.W.ksEnv qual scope s.heap.objs.size f cd cc
  outer := outer
  stack := PySem.W.ksEnv qual scope s.heap.objs.size f cd cc :: outer
  ex := []
  calm := true
  fn := fun _ => false
  pn := []
  xe := fun e s' => wpAny (model P w) (A.deeper (PySem.W.ksEnv qual scope s.heap.objs.size f cd cc)) (leaving (PySem.W.ksEnv qual scope s.heap.objs.size f cd cc) e) (fun _ s'' => CX outer H s E e s'') (fun e' s'' => CX outer H s E e' s'') s'
/-- the scope of such a def -/
structure SupScope (ps : List Str) (sc : Scope) : Prop where
  kind : sc.kind = .function
  co : sc.isCoroutine = false
  gen : sc.isGenerator = false
  nd : ps.Nodup
  par : ∀ x ∈ ps, sc.names.lookup x = some .local
  sup : sc.names.lookup ("super" : Str) = some .globalImplicit
  cls : sc.names.lookup ("__class__" : Str) = some .free
  noc : ∀ y ∈ sc.names, y.2 ≠ .cell
  fre : ∀ x, sc.names.lookup x = some .free → x = ("__class__" : Str)
theorem rev_lookup {ps : List Str} {us : List Value} {i : Nat} {y : Str} {u : Value} (nd : ps.Nodup) (hp : ps[i]? = some y) (hu : us[i]? = some u) : (ps.zip us).reverse.lookup y = some u := by
  have gen : ∀ {l : List (Str × Value)} {n : Str} {c : Value}, (l.map (·.1)).Nodup → (n, c) ∈ l → l.lookup n = some c := fun {l n c} => by
    induction l with
    | nil => intro _ h; cases h
    | cons p r ih =>
      intro hn h
      obtain ⟨k, d⟩ := p
      rw [List.map_cons, List.nodup_cons] at hn
      rw [List.lookup_cons]
      rcases List.mem_cons.mp h with e | h2
      · cases e
        rw [beq_self_eq_true]
      · have ne : (n == k) = false := by
          rw [beq_eq_false_iff_ne]
          rintro rfl
          exact hn.1 (List.mem_map.mpr ⟨_, h2, rfl⟩)
        rw [ne]
        exact ih hn.2 h2
  refine gen ?_ ?_
  · rw [List.map_reverse]
    unfold List.Nodup
    rw [List.pairwise_reverse]
    have e : (ps.zip us).map (·.1) = ps.take us.length := by
      clear hp hu nd
      induction ps generalizing us with
      | nil => simp
      | cons a r ih =>
        cases us with
        | nil => rfl
        | cons b s =>
          rw [List.zip_cons_cons, List.map_cons, ih]
          rfl
    rw [e]
    exact (nd.sublist (List.take_sublist _ _)).imp fun h z => h z.symm
  · rw [List.mem_reverse]
    refine List.mem_of_getElem? (i := i) ?_
    rw [List.getElem?_zip_eq_some]
    exact ⟨hp, hu⟩
theorem inv_startS {CX : CXT} {P : Program} {w : World} {K : PySem.W.Frag} {mg : Str → Option Value} {base : Heap} {ps : List Str} {qual : Str} {scope : Scope} {f cc D : Addr} {cd cl : Value} {cld : Option Addr} {csl : Array (Option Value)} {A : Around} {outer : List Env} {s : Shared} {h1 : Heap} {tk : Nat} {H : Hp} {E : XK} {us : List Value} {vs : List V}
    (S : SupScope ps scope) (hcell : K.lookup cc = some ⟨cl, cld, .cell (some (.ref D)), csl⟩) (hd : A.handled = none) (e0 : Env0 P w K mg base A outer s H) (hl : vs.length = ps.length) (r : Vals vs us)
    (ns : h1.Ns s.heap.objs.size (fun x => (ps.zip us).reverse.lookup x)) (hk : ∀ b o, s.heap.get? b = some o → h1.get? b = some o) :
    Inv (cxS CX P w K mg base ps qual scope f cd cc A outer s H E) [] (vs.map some) H { s with heap := h1, toks := tk } := by
  have KX : K.In s.heap := e0.mod.kin.keeps fun b o e => (e0.bs b o e).1
  have noA : ∀ b : Addr, b ∉ (cxS CX P w K mg base ps qual scope f cd cc A outer s H E).ex := fun b z => absurd (show b ∈ ([] : List Addr) from z) (by simp)
  have look1 : ∀ y c, (cxS CX P w K mg base ps qual scope f cd cc A outer s H E).env.cells.lookup y = some c → y = ("__class__" : Str) ∧ c = cc := fun y c h => by
    have h : List.lookup y [(("__class__" : Str), cc)] = some c := h
    rw [List.lookup_cons] at h
    by_cases q : (y == ("__class__" : Str)) = true
    · rw [q] at h
      exact ⟨eq_of_beq q, (Option.some.inj h).symm⟩
    · rw [Bool.not_eq_true] at q
      rw [q] at h
      cases h
  have base0 : base.get? cc = some ⟨cl, cld, .cell (some (.ref D)), csl⟩ := e0.mod.kin _ _ hcell
  refine ⟨⟨e0.mod, S.kind, rfl, rfl, Nat.le_refl _, fun y z c h1 h2 => ?_, fun y hy => ?_, fun y c h => ?_, fun _ => hd, Around.frames_deeper e0.frames, .inr ⟨rfl, rfl⟩, fun b z => absurd z (noA b), e0.bs, e0.bsz, fun b _ _ => noA b, fun b z => absurd z (noA b), e0.funs, e0.frf⟩,
    rfl, e0.bare, Un.kept hk, ⟨_, ns, fun i y v h1 h2 h3 => ?_⟩, fun y c h => ?_, e0.hok.fresh (Nat.le_refl _), fun y c h => ?_, fun p hp => absurd (show p ∈ ([] : List (Addr × Obj)) from hp) (by simp), e0.hok.kept hk, ?_⟩
  · rw [(look1 _ _ h1).1, (look1 _ _ h2).1]
  · have hy : scope.names.lookup y = some .cell ∨ scope.names.lookup y = some .free := hy
    rcases hy with hy | hy
    · exact absurd rfl (S.noc _ (PySem.mem_of_lookup hy))
    · exact ⟨cc, by rw [S.fre _ hy]; rfl⟩
  · exact nomatch h
  · have ha : vs[i]? = some v := by
      rw [List.getElem?_map] at h2
      cases e : vs[i]? with
      | none => rw [e] at h2; cases h2
      | some a => rw [e] at h2; cases h2; rfl
    obtain ⟨u, hu, rv⟩ := r.get ha
    have hp : ps[i]? = some y := h1
    refine ⟨u, rv, .inl ⟨S.par y (List.mem_of_getElem? hp), ?_⟩⟩
    exact rev_lookup S.nd hp hu
  · obtain ⟨rfl, rfl⟩ := look1 _ _ h
    exact ⟨_, _, hk _ _ (KX _ _ hcell), rfl⟩
  · obtain ⟨rfl, rfl⟩ := look1 _ _ h
    exact (e0.bs _ _ base0).2
  · show (vs.map some).length = ps.length
    rw [List.length_map, hl]
/-- the bound ValueError.__init__, called -/
theorem call_mw {X : Cx} {pins : List (Addr × Obj)} {σ : L2.St} {H : Hp} {s : Shared} {a C u : Addr} {us : List Value} {A : Around} {E : Value → Shared → Prop} {Q : Value → Shared → Prop} (T : OexC X.K C) (I : Inv X pins σ H s) (e : H a = some (exo a C none)) (hu : s.heap.get? u = some (PySem.W.kxs_mw "ValueError.__init__" a)) (hl : us.length ≤ sizeLine) (h : ∀ s', Inv X pins σ H s' → Q .none s') :
    wpAny (model X.prog X.w) A (call (.ref u) us) Q E s := by
  obtain ⟨nm, q, N, bs, bm, sn, sub, ab, col, dd, k0, k1, k2, k3, k5, hC, hbm⟩ := T.cls
  obtain ⟨t1, ho⟩ := exo_at I.hok e
  obtain ⟨hp, g, d, t, os⟩ := s
  refine wpAny_call (codeAny_of_tree ?_)
  show wpAny _ A.in1 (callAny (.ref u) ⟨us, []⟩) _ _ _
  simp only [callAny]
  refine wpAny_bind (wpAny_load hu ?_)
  simp only [PySem.W.kxs_mw, show (Value.type "method-wrapper" == Value.type "method" || Value.type "method-wrapper" == Value.type "builtin_function_or_method" || Value.type "method-wrapper" == Value.type "method-wrapper") = true by decide, if_true]
  refine PySem.W.KFB.if_so (by decide) ?_
  refine wpAny_bind (PySem.W.check_bound_init PySem.F.excBase_ValueError.toExcCallFacts (I.kIn _ _ hC) ho rfl ?_)
  refine wpAny_bind (wpAny_pure (wpAny_pure ?_))
  refine ⟨plainId_quiet PySem.F.excBase_ValueError.init.plain _, codeAny_builtin PySem.F.excBase_ValueError.initEntry ?_⟩
  refine PySem.W.exc_init_tree (cls := .ref C) (t0 := t1) (dv := none) (c2 := .none) (c3 := .none) (b4 := .bool false) ho hl fun h' k hx _ => ?_
  have J := I.write (t' := t) (x := a) (e := a) (o := exo a C none) (by rw [e]; exact True.intro) (.inl rfl) k ⟨_, hx⟩ (exo_ok hx)
  have eu : upd H a (exo a C none) = H := by
    funext b
    by_cases hb : b = a
    · rw [hb, upd_same, e]
    · rw [upd_ne hb]
  rw [eu] at J
  exact h _ J
theorem cw1 {M : Model} {A : Around} {E : Value → Shared → Prop} {s : Shared} {pos : Pos} {u x : Addr} {i : String} {env : Env} {e : Expr} {Q : Value → Shared → Prop} (h : wpAny M A (spliced (backTo pos (starEach [e] env))) (fun vs s₁ => PySem.W.KxsAt i u x s₁.heap ∧ wpAny M A (call (.ref u) vs) Q E s₁) E s)
    (he : starEach [e] env = [(false, eval e env)]) : wpAny M A (callWith pos (.ref u) [] (backTo pos (starEach [e] env)) []) Q E s := by
  rw [he] at h ⊢
  exact PySem.W.kxs_callWith (i := i) (x := x) rfl (PySem.Calls.evalArgs_plain h)
/-- such an __init__: the exception gets its dict, with the one field -/
def spS (C : Addr) (fld : Str) (okv : V → Prop) : Sp := fun vs H Q _ => ∃ (a : Addr) (v : V), vs = [.ref a, v] ∧ H a = some (exo a C none) ∧ okv v ∧ ∀ dx, H dx = none → dx ≠ a → Q .non (upd (upd H dx (exd dx [(fld, v)])) a (exo a C (some dx)))
open PySem.W in
theorem ok_sup {CX : CXT} {P : Program} {w : World} {K : PySem.W.Frag} {mg : Str → Option Value} {base : Heap} {f cda cc C : Addr} {name qual sf xn fld file : Str} {params : Arguments} {scope : Scope} {dV kV doc pm ct oc cl ccl : Value} {an od cld cdd : Option Addr} {osl csl ccs : Array (Option Value)} {cvs : Array Value} {tf : Tok} {ar : Arg} {e : Expr} {okv : V → Prop} {p0 p1 p2 p3 p4 q1 q2 q3 q4 : Pos}
    (lk : K.lookup f = some ⟨oc, od, .func (ksFn name qual params [.Expr (.Call (.Attribute (.Call (.Name ("super" : Str) p0) [] [] p1) ("__init__" : Str) p2) [e] [] p3) p4, .Assign [.Attribute (.Name sf q1) fld q2] (.Name xn q3) q4] scope dV kV doc pm an (.ref cda) ct cc), osl⟩)
    (hcd : codeIn K (.ref cda) qual = true) (S : SupScope [sf, xn] scope) (hp : (params.posonlyargs ++ params.args).head? = some ar) (har : ar.arg = sf)
    (hcode : K.lookup cda = some ⟨ccl, cdd, .fields cvs, ccs⟩) (hvs : cvs[2]? = some (.str file tf)) (hfile : ((P.main.file : Str) == file) = true) (htop : (P.main.scope.names.lookup ("super" : Str)).isSome = false)
    (hcell : K.lookup cc = some ⟨cl, cld, .cell (some (.ref C)), csl⟩) (T : OexC K C) (hsub : mroIn K C (.ref C) = some true) (hsuper : mg ("super" : Str) = none) (ho : nsIn K cStatics "thirdparty.any" = some none)
    (hm : ks_superIn K C C "__init__" = some (some (.builtin "ValueError.__init__"))) (hB : subIn K (.ref C) (.type "ValueError") = some true) (hno : findIn K (.ref C) fld = some none)
    (he : ∀ (A : Around) (outer : List Env) (s : Shared) (H : Hp) (E : XK) (a : Addr) (v : V), okv v → ∃ ta, PA (cxS CX P w K mg base [sf, xn] qual scope f (.ref cda) cc A outer s H E) [e] ta ∧ ta [some (.ref a), some v] H fun ws H2 => ws.length ≤ 1000 ∧ H2 = H)
    (hev : ∀ env : Env, ∃ pl : Sem Bool, eval (.Call (.Attribute (.Call (.Name ("super" : Str) p0) [] [] p1) ("__init__" : Str) p2) [e] [] p3) env = (do
      let ov ← attributeBase (.Call (.Name ("super" : Str) p0) [] [] p1) ("__init__" : Str) env (eval (.Call (.Name ("super" : Str) p0) [] [] p1) env)
      standAt p2.atName
      let (f, first) ← holding [ov] (getMethod ov ("__init__" : Str) pl)
      callWith p3 f first (backTo p3 (starEach [e] env)) []) := by exact fun _ => ⟨_, rfl⟩)
    (hsw : ∀ env : Env, swapsWith (.Call (.Attribute (.Call (.Name ("super" : Str) p0) [] [] p1) ("__init__" : Str) p2) [e] [] p3) none p4.line env = pure false := by exact fun _ => rfl)
    (hstar : ∀ env, starEach [e] env = [(false, eval e env)] := by exact fun _ => rfl) (hsw2 : ∀ env : Env, swapsWith (.Name xn q3) (some (.Attribute (.Name sf q1) fld q2)) q4.line env = pure false := by exact fun _ => rfl)
    (n1 : (sf == ("__debug__" : Str)) = false := by decide) (n2 : (sf == ("__classdict__" : Str)) = false := by decide) (n3 : (xn == ("__debug__" : Str)) = false := by decide) (n4 : (xn == ("__classdict__" : Str)) = false := by decide) :
    FnOk P w K mg base CX 1 f (ksFn name qual params [.Expr (.Call (.Attribute (.Call (.Name ("super" : Str) p0) [] [] p1) ("__init__" : Str) p2) [e] [] p3) p4, .Assign [.Attribute (.Name sf q1) fld q2] (.Name xn q3) q4] scope dV kV doc pm an (.ref cda) ct cc) [sf, xn] (spS C fld okv) := by
  refine ⟨fun vs H Q E h => ?_, fun A outer s H args us vs Q E hr e0 hb r hsp => ?_⟩
  · obtain ⟨_, _, rfl, _⟩ := h
    rfl
  obtain ⟨a, v, rfl, ha, hv, q⟩ := hsp
  have KX : K.In s.heap := e0.mod.kin.keeps fun b o e => (e0.bs b o e).1
  have lim : s.heap.NoLimit := e0.mod.nolimit.keeps fun b o e => (e0.bs b o e).1
  have hloc : ∀ y ∈ [sf, xn].zip us, scope.names.lookup y.1 = some .local := fun ⟨n, v⟩ hy => S.par n (List.of_mem_zip hy).1
  refine ks_codeAny_call_defAt (body := [.Expr (.Call (.Attribute (.Call (.Name ("super" : Str) p0) [] [] p1) ("__init__" : Str) p2) [e] [] p3) p4, .Assign [.Attribute (.Name sf q1) fld q2] (.Name xn q3) q4]) (binds := [sf, xn].zip us) hr.depth (KX _ _ lk) rfl lim (codeRec_of KX hcd) rfl hb S.noc hloc (fun h1 hns hk => ?_) S.co S.gen S.kind
  have I := inv_startS (CX := CX) (qual := qual) (f := f) (cd := .ref cda) (tk := s.toks + ([sf, xn].zip us).length) (E := E) S hcell hr.hd e0 rfl r hns hk
  obtain ⟨ta, hpa, hta⟩ := he A outer s H E a v hv
  obtain ⟨u, rfl, ru⟩ : ∃ u, us = [.ref a, u] ∧ RelV v u := by
    cases r with
    | cons r1 r2 =>
      cases r2 with
      | cons r3 r4 =>
        cases r4
        obtain rfl := (show _ = Value.ref a from r1)
        exact ⟨_, rfl, r3⟩
  have hz : ([sf, xn].zip [Value.ref a, u]).reverse.lookup sf = some (.ref a) := rev_lookup (i := 0) S.nd rfl rfl
  obtain ⟨mb, b1, b2⟩ := I.mod.blt
  obtain ⟨nm, qn, N, bs, bm, sn, sub, ab, col, dd, k0, k1, k2, k3, k5, hC, hbm⟩ := id T.cls
  have hcl : clsIn K C = some { name := nm, bases := bs, mro := .ref C :: bm, ns := N, qualname := qn, hasDict := true, slotNames := sn, subclasses := sub, abstract := ab, collection := col, hasDel := false } := by unfold clsIn; rw [hC] <;> rfl
  have hD1 := I.kIn _ _ hC
  obtain ⟨t1, ho1⟩ := exo_at I.hok ha
  obtain ⟨pl, hev1⟩ := hev (ksEnv qual scope s.heap.objs.size f (.ref cda) cc)
  refine ks_wpAt_execs_cons (ks_wpAt_Expr_any (ks_wpAt_MethodCall (pl := pl) ?_ hev1) (by show (scope.kind == .module && _) = false; rw [S.kind]; rfl) (hsw _))
  refine ks_wpAt_super_base (env := ksEnv qual scope s.heap.objs.size f (.ref cda) cc) S.sup S.cls (by decide) rfl (I.kIn _ _ lk) rfl hp rfl (I.kIn _ _ hcode) rfl hvs hfile htop ?_
  refine ks_loadName_global S.kind S.sup (Calls.loadGlobal_builtin (env := ksEnv qual scope s.heap.objs.size f (.ref cda) cc) (I.mod.glob.keeps I.bk) hsuper (b1.keeps I.bk) ((b2 _ (by decide)).trans PyProof.Rows.Boot.«super») ⟨rfl, ?_⟩)
  refine wpAny_loadName_free S.kind S.cls rfl ⟨_, I.kIn _ _ hcell, rfl⟩ ?_
  refine wpAny_loadName_local S.kind (by rw [har]; exact S.par sf (by simp)) hns (by rw [har]; exact hz) ?_
  refine ks_wpAny_isType_cls hD1 rfl ⟨rfl, ?_⟩
  refine ks_wpAny_call_super hD1 rfl ho1 rfl (fun c z => nomatch z) (looks_mroIn I.kIn hsub) (fun h2 e2 k2 => ?_)
  have I2 := I.kept (t' := s.toks + ([sf, xn].zip [Value.ref a, u]).length) k2
  have inst : InstAt h2 a { cls := .ref C, dict := none, data := .fields #[.ref t1, .none, .none, .none, .bool false, .none] } C none := ⟨k2 _ _ ho1, rfl, rfl, trivial⟩
  have hI : Looks (model P w) h2 (isInstance (.ref a) (.type "ValueError")) true := inst.type.andThen (looks_subIn I2.kIn hB)
  have hm1 : alongIn K "__init__" (((Value.ref C :: bm).dropWhile (· != .ref C)).drop 1) = some (some (.builtin "ValueError.__init__")) := by
    have z := hm
    unfold ks_superIn at z
    rw [hcl] at z
    exact z
  refine kxs_getMethod kxs_ValueError e2 (looks_opaque I2.kIn ho) (l₀ := .ref C :: bm) (fun A Q E s k q => wpAny_bind ((looks_clsIn I2.kIn hcl) A _ E s k (wpAny_pure q))) rfl I2.kIn hm1 hI (ks_ne I2.kIn inst hcl) (by decide) ?_
  have I3 := (I2.kept (t' := s.toks + ([sf, xn].zip [Value.ref a, u]).length + 1) (h' := h2.push (kxs_mw "ValueError.__init__" a)) fun b o z => Heap.get?_push_of_some _ z).pins_of (pins' := [(h2.objs.size, kxs_mw "ValueError.__init__" a)]) fun p hp => by
    obtain rfl : p = (h2.objs.size, kxs_mw "ValueError.__init__" a) := by simpa using hp
    exact ⟨Heap.get?_push_at rfl rfl, I2.hok.fresh (Nat.le_refl _), Nat.ne_of_gt I2.lt, I2.nofs (Nat.le_refl _), fun v z => nomatch z⟩
  refine cw1 (i := "ValueError.__init__") (x := a) (thn (hpa.run p3 _ _ _ _ _ I3 hta) fun us s4 ⟨vs, H1, I4, r4, hlen, hH⟩ => ?_) (hstar _)
  subst hH
  have hu := (I4.pin _ (List.mem_append_right _ (List.mem_singleton.mpr rfl))).1
  refine ⟨hu, call_mw T I4 ha hu (by rw [← Paired.length r4, sizeLine_eq]; omega) fun s5 J => ?_⟩
  have P2 : PS (cxS CX P w K mg base [sf, xn] qual scope f (.ref cda) cc A outer s H1 E) (.Assign [.Attribute (.Name sf q1) fld q2] (.Name xn q3) q4) (tOst K fld (tVar 0) (tVar 1)) := ps_ost (pe_var rfl (.inl (S.par sf (by simp))) n1 n2) (pe_var rfl (.inl (S.par xn (by simp))) n3 n4) (hsw2 _)
  refine ks_wpAt_execs_cons (wpAt_of_wpAny (thn (P2.run _ s5 _ _ { nx := fun _ H' => Q .non H', rt := Q } J ⟨_, rfl, _, rfl, a, C, rfl, T, hno, .inl ⟨ha, q⟩⟩) fun fl s6 hs => ?_))
  cases fl with
  | ret u =>
    obtain ⟨v, σ', H', J, rv, q⟩ := hs
    exact ⟨v, H', J.os, J.bare, J.base, J.hok, rv, q⟩
  | next =>
    obtain ⟨σ', H', J, q⟩ := hs
    exact wpAt_of_wpAny (wpAny_pure ⟨.non, H', J.os, J.bare, J.base, J.hok, rfl, q⟩)
  | brk =>
    obtain ⟨_, _, _, q⟩ := hs
    exact False.elim q
  | cont =>
    obtain ⟨_, _, _, q⟩ := hs
    exact False.elim q
end OPN
section OPN
open PySem PySem.Spec PyProof.Rows
/-! ### the handled exception with a dict: isinstance, its fields -/
def rIsF (K : PySem.W.Frag) (D xh : Addr) (dd : Option Addr) : List V → Hp → VK → Prop := fun vs H Q => (∀ d, dd = some d → ∃ fs, H d = some (.xd fs)) ∧ rIsB K D xh vs H Q
theorem hot_inst {X : Cx} {pins : List (Addr × Obj)} {σ : L2.St} {H : Hp} {s : Shared} {xh D : Addr} {oh : Obj} (hb : HotB X xh oh) (I : Inv X pins σ H s) (hc : oh.cls = .ref D) (hd : ∀ d, oh.dict = some d → ∃ fs, H d = some (.xd fs)) : ∃ od, PySem.W.InstAt s.heap xh oh D od := by
  have g := hb.get I
  obtain ⟨ws, d1, _⟩ := hb.dat
  have nc : PySem.W.notCls oh = true := by unfold PySem.W.notCls; rw [d1] <;> rfl
  cases e : oh.dict with
  | none => exact ⟨none, g, hc, nc, by rw [e]; trivial⟩
  | some d =>
    obtain ⟨fs, hfs⟩ := hd d e
    have hx : ObjOk X.prog X.w H s.heap d (.xd fs) := I.hok d _ hfs
    obtain ⟨mA, hns, _⟩ := hx
    obtain ⟨od, ho, _⟩ := lookIn_ns hns
    exact ⟨some od, g, hc, nc, by rw [e]; exact ho⟩
theorem call_isF {X : Cx} {xh D : Addr} {oh : Obj} (hb : HotB X xh oh) (C : ExcC X.K D) (hc : oh.cls = .ref D) : CallR X (.builtin "isinstance") (rIsF X.K D xh oh.dict) := by
  intro pins s σ H vs us Q I r y
  obtain ⟨hd, c, u, b, rfl, kc, e, q⟩ := y
  obtain ⟨u1, u2, rfl, r1, r2⟩ := vals2 r
  cases (show u1 = Value.ref xh from r1)
  have e2 := kc.eq r2
  subst e2
  obtain ⟨od, J⟩ := hot_inst hb I hc hd
  have hcl : (PySem.W.clsIn X.K D).isSome = true := by
    obtain ⟨cd, h, _⟩ := PySem.W.any_some C.hd
    rw [h]
    rfl
  exact PySem.W.kia_one (PySem.W.kitx_exc hcl C.hg C.hk C.hs C.ha C.hn C.ht C.hm) I.kIn J e (fun z => nomatch z) fun tk => ⟨.bl b, H, I.tok tk, rfl, q⟩
/-- e.f, e the handled exception -/
def tXfB (xh : Addr) (dd : Option Addr) (f : Str) (te : TE) : TE := fun σ H Q => te σ H fun x H1 => x = .ref xh ∧ ∃ (d : Addr) (fs : List (Str × V)) (v : V), dd = some d ∧ H1 d = some (.xd fs) ∧ fs.lookup f = some v ∧ Q v H1
theorem pe_xfB {X : Cx} {xh C : Addr} {oh : Obj} {e : Expr} {te : TE} {pos : Pos} {n : Str} (hb : HotB X xh oh) (T : XfC X.K C) (hno : PySem.W.findIn X.K (.ref C) n = some none) (hc : oh.cls = .ref C) (he : PE X e te) (hab : attributeBase e n X.env (eval e X.env) = eval e X.env := by rfl) :
    PE X (.Attribute e n pos) (tXfB xh oh.dict n te) := by
  refine ⟨fun pins s σ H Q I h => ?_⟩
  refine attr_of hab (thn (he.run pins s σ H _ I h) fun u s1 hh => ?_)
  obtain ⟨x, H1, I1, rx, ex, dd, fs, v, ed, ea, l, q⟩ := hh
  subst ex
  obtain rfl : u = Value.ref xh := rx
  have hx : ObjOk X.prog X.w H1 s1.heap dd (.xd fs) := I1.hok dd _ ea
  obtain ⟨mA, hns, hr⟩ := hx
  obtain ⟨od, ho, hl⟩ := lookIn_ns hns
  obtain ⟨u, hu, ru⟩ := RelO.some_of (v := v) (o := mA n) (by rw [← l]; exact hr n)
  obtain ⟨ws, d1, _⟩ := hb.dat
  have J : PySem.W.InstAt s1.heap xh oh C (some od) := ⟨hb.get I1, hc, by unfold PySem.W.notCls; rw [d1] <;> rfl, by rw [ed]; exact ho⟩
  exact HandSPX.exc_get I1.kIn J T.ga T.gg T.exC (PySem.W.findObj_own T.hdC hno rfl (by rw [hl, hu])) (handed_of ru) ⟨v, H1, I1.tok _, ru, q⟩
end OPN
section OPN
open PySem PySem.Spec PyProof.Rows
/-! ### the handled exception may have a dict: isinstance asks only that the dict is there -/
theorem call_isB2 {X : Cx} {xh D : Addr} {oh : Obj} (hb : HotB X xh oh) (C : ExcC X.K D) (hc : oh.cls = .ref D) (hd : ∀ d, oh.dict = some d → (∃ o, X.s_0.heap.get? d = some o) ∧ d ∉ X.ex) : CallR X (.builtin "isinstance") (rIsB X.K D xh) := by
  intro pins s σ H vs us Q I r y
  obtain ⟨c, u, b, rfl, kc, e, q⟩ := y
  obtain ⟨u1, u2, rfl, r1, r2⟩ := vals2 r
  cases (show u1 = Value.ref xh from r1)
  have e2 := kc.eq r2
  subst e2
  have g := hb.get I
  obtain ⟨ws, d1, _⟩ := hb.dat
  have nc : PySem.W.notCls oh = true := by unfold PySem.W.notCls; rw [d1] <;> rfl
  have J : ∃ od, PySem.W.InstAt s.heap xh oh D od := by
    cases e : oh.dict with
    | none => exact ⟨none, g, hc, nc, by rw [e]; trivial⟩
    | some d =>
      obtain ⟨⟨o, ho⟩, nx⟩ := hd d e
      obtain ⟨o', ho'⟩ := I.base.there d o ho nx
      exact ⟨some o', g, hc, nc, by rw [e]; exact ho'⟩
  obtain ⟨od, J⟩ := J
  have hcl : (PySem.W.clsIn X.K D).isSome = true := by
    obtain ⟨cd, h, _⟩ := PySem.W.any_some C.hd
    rw [h]
    rfl
  exact PySem.W.kia_one (PySem.W.kitx_exc hcl C.hg C.hk C.hs C.ha C.hn C.ht C.hm) I.kIn J e (fun z => nomatch z) fun tk => ⟨.bl b, H, I.tok tk, rfl, q⟩
theorem xd_there {P : Program} {w : World} {H : Hp} {h : Heap} {d : Addr} {fs : List (Str × V)} (k : HOk P w H h) (e : H d = some (.xd fs)) : ∃ o, h.get? d = some o := by
  have hx : ObjOk P w H h d (.xd fs) := k d _ e
  obtain ⟨mA, hns, _⟩ := hx
  obtain ⟨od, ho, _⟩ := lookIn_ns hns
  exact ⟨od, ho⟩
theorem Fun.okB2 {P : Program} {w : World} {K : PySem.W.Frag} {mg : Str → Option Value} {base : Heap} {x qual : Str} {st : Stmt} {f : Addr} {fd : FuncData} {N ps : List Str} {k : Nat} {sp : Addr → Value → Option Addr → Sp} (F : L2.Fun K x qual st f fd) (S : FnScope N ps (defScope st))
    (body : ∀ (cdv : Value) (A : Around) (outer : List Env) (s : Shared) (H : Hp) (vs : List V) (Q : VK) (xh : Addr) (oh : Obj), L2H.RoomH k (A.deeper (PyProof.Rows.envOfC qual (defScope st) s.heap.objs.size f cdv)) → HotB (L2H.cxH CX0 P w K mg base N qual (defScope st) f cdv A outer s H E0 (xh, oh)).nox xh oh → HOk P w H s.heap → sp xh oh.cls oh.dict vs H Q E0 →
      ∃ t, PSs (L2H.cxH CX0 P w K mg base N qual (defScope st) f cdv A outer s H E0 (xh, oh)).nox (defBody st) t ∧ t { nx := fun _ H' => Q .non H', rt := Q } (L2.start N vs) H) : FnB P w K mg base (k + 1) f fd ps sp := by
  obtain ⟨oc, od, kV, doc, pm, an, cdv, ct, osl, rfl, lk, hcd⟩ := F.ex
  intro A outer s H args us vs Q xh oh hr hp e0 hb r hl hsp
  have KX : K.In s.heap := e0.mod.kin.keeps fun b o e => (e0.bs b o e).1
  have hkind : ∀ y ∈ ps.zip us, (defScope st).names.lookup y.1 = some .local ∨ ((defScope st).names.lookup y.1 = some .cell ∧ ((cellsFrom (s.heap.objs.size + 1) (defScope st).names []).lookup y.1).isSome = true) := by
    rintro ⟨n, v⟩ hy
    exact (S.par n (List.of_mem_zip hy).1).imp id fun q => ⟨q, PySem.W.cellsFrom_some _ _ _ (.inl q)⟩
  refine codeAny_call_function hr.depth (KX _ _ lk) rfl S.co S.gen rfl (PySem.W.codeRec_of KX hcd) (hb _ _ _ _ (wpAny_newFunctionEnv_cells S.kind hkind fun env he s1 y => ?_))
  subst he
  refine ⟨(e0.mod.nolimit.keeps fun b o e => (e0.bs b o e).1).keeps y.toInCall.keep, codeAny_func ?_⟩
  have hB := hp.b (CX := CX0) (P := P) (w := w) (K := K) (mg := mg) (base := base) (N := N) (qual := qual) (scope := defScope st) (f := f) (cd := cdv) (E := E0)
  obtain ⟨t, ht, hq⟩ := body cdv A outer s H vs Q xh oh (hr.deeper _) ⟨hB.hnd, hB.obj, hB.dat, hB.unt, hB.nfs, hB.nex⟩ e0.hok hsp
  have I : Inv (L2H.cxH CX0 P w K mg base N qual (defScope st) f cdv A outer s H E0 (xh, oh)) [] (L2.start N vs) H s1 := L2H.inv_startH S hp.pin e0 hl r y
  refine wpAny_mono (ht.run [] s1 (L2.start N vs) H _ (I.wish _) hq) (fun fl s' z => ?_) fun _ _ z => z.elim
  have z' : SP (L2H.cxH CX0 P w K mg base N qual (defScope st) f cdv A outer s H E0 (xh, oh)) [] { nx := fun _ H' => Q .non H', rt := Q } fl s' := z.unwish
  cases fl with
  | ret u =>
    obtain ⟨v, σ', H', J, rv, q⟩ := z'
    exact ⟨v, H', J.os, J.bare, J.base, J.hok, rv, q⟩
  | next =>
    obtain ⟨σ', H', J, q⟩ := z'
    exact ⟨V.non, H', J.os, J.bare, J.base, J.hok, rfl, q⟩
  | brk => exact z'.elim fun _ y => y.elim fun _ y => y.2.elim
  | cont => exact z'.elim fun _ y => y.elim fun _ y => y.2.elim

end OPN
section OPN
open PySem.Spec PyProof.Rows
/-! ### try: return ('value', ask()) / except TermError as e: the error's word and field -/
/-- a class that TermError names -/
structure Wd2 (K : PySem.W.Frag) (CT D : Addr) (dd : Option Addr) (H : Hp) : Prop where
  exc : ExcC K D
  nod : ∀ d, dd = some d → ∃ fs, H d = some (.xd fs)
  mat : PySem.W.exmOne K (.ref D) (.ref CT) = some true
def spName2 (K : PySem.W.Frag) (CT : Addr) (word : Addr → Option Str) : Addr → Value → Option Addr → Sp := fun xh cls dd vs H Q _ => ∃ (D : Addr) (nm : Str), cls = .ref D ∧ Wd2 K CT D dd H ∧ word D = some nm ∧ vs = [.ref xh] ∧ ∀ H', Same H H' → Q (.str nm) H'
def tSuite2 (K : PySem.W.Frag) (CT : Addr) (word : Addr → Option Str) (fld : Addr → Option Addr → Hp → V → Prop) (a : Addr) (cls : Value) (d : Option Addr) : TS :=
  tSeq (tAsg (tCallG (spName2 K CT word) a cls d 1 (tCons (tVar 1) tNil)) (gName 2)) (tRet (tTup (tCons (tVar 2) (tCons (tCallG (spField word fld) a cls d 2 (tCons (tVar 1) (tCons (tVar 2) tNil))) tNil))))
def TTry2 (K : PySem.W.Frag) (CT : Addr) (word : Addr → Option Str) (fld : Addr → Option Addr → Hp → V → Prop) : (XK → Hp → VK → Prop) → Hp → VK → Prop := fun tl H Q =>
  ∀ f : Addr, tl (fun cls d H2 => wAs K (.ref CT) 1 (tSuite2 K CT word fld) (fun _ _ _ _ => False) { nx := fun _ H' => Q .non H', rt := Q } cls d [some (.ref f), none, none] H2) H
    (fun v H' => 2 ≤ sizeLine ∧ ∀ p, H' p = none → Q (.ref p) (upd H' p (.tup [.str ("value" : Str), v])))
theorem wTry2 {K : PySem.W.Frag} {CT : Addr} {word : Addr → Option Str} {fld : Addr → Option Addr → Hp → V → Prop} {Q : VK} {n : L2.St → Hp → Prop} {cls : Value} {dd : Option Addr} {f D : Addr} {nm : Str} {v : V} {H' : Hp}
    (hst : ∀ D dd H H' v, Same H H' → fld D dd H v → fld D dd H' v) (e : cls = .ref D) (hw : Wd2 K CT D dd H') (ew : word D = some nm) (hf : fld D dd H' v) (h : ∀ (p : Addr) (H2 : Hp), Same H' H2 → H2 p = none → Q (.ref p) (upd H2 p (.tup [.str nm, v]))) :
    wAs K (.ref CT) 1 (tSuite2 K CT word fld) (fun _ _ _ _ => False) { nx := n, rt := Q } cls dd [some (.ref f), none, none] H' := by
  subst e
  refine ⟨true, hw.mat, fun _ a _ => ?_, fun z => nomatch z⟩
  refine ⟨_, rfl, rfl, D, nm, rfl, hw, ew, rfl, fun H1 k1 => ?_⟩
  refine ⟨_, rfl, _, rfl, _, rfl, rfl, D, nm, v, rfl, ew, hst _ _ _ _ _ k1 hf, rfl, fun H2 k2 => ⟨by show 2 ≤ sizeLine; decide, fun p hp => h p H2 (k1.trans k2) hp⟩⟩
theorem try_gives2 {X : Cx} {x q : Str} {sg : Scope} {g CT fN fF : Addr} {cdg : Value} {fdN fdF : FuncData} {word : Addr → Option Str} {fld : Addr → Option Addr → Hp → V → Prop} {j1 n1 n2 : Nat} {q1 q2 q3 q4 q5 q6 q7 q8 q9 p1 p2 p3 p4 p5 p6 p7 p8 p9 q10 q11 : Pos}
    (s0 : sg.names.lookup ("_law_ask" : Str) = some .local) (s1 : sg.names.lookup ("_law_e" : Str) = some .local) (s2 : sg.names.lookup ("_law_word" : Str) = some .local) (g1 : sg.names.lookup ("TermError" : Str) = some .globalImplicit) (g2 : sg.names.lookup ("_law_error_name" : Str) = some .globalImplicit) (g3 : sg.names.lookup ("_law_error_field" : Str) = some .globalImplicit)
    (mT : X.mg ("TermError" : Str) = some (.ref CT)) (mN : X.mg ("_law_error_name" : Str) = some (.ref fN)) (mF : X.mg ("_law_error_field" : Str) = some (.ref fF)) (kN : PySem.W.keepIn X.K (.ref fN) = true) (kF : PySem.W.keepIn X.K (.ref fF) = true) (bN : Binds X.K fdN [("_law_e" : Str)] []) (bF : Binds X.K fdF [("_law_e" : Str), "_law_word"] [])
    (GN : FnB X.prog X.w X.K X.mg X.base 3 fN fdN [("_law_e" : Str)] (spName2 X.K CT word)) (GF : FnB X.prog X.w X.K X.mg X.base 3 fF fdF [("_law_e" : Str), "_law_word"] (spField word fld)) :
    GivesN X [("_law_ask" : Str), "_law_e", "_law_word"] x sg g cdg [.Try [.Return (some (.Tuple [.Constant (.str ("value" : Str)) j1 p1, .Call (.Name ("_law_ask" : Str) p2) [] [] p3] n1 p4)) p5] [.ExceptHandler (some (.Name ("TermError" : Str) p6)) (some ("_law_e" : Str)) [.Assign [.Name ("_law_word" : Str) q1] (.Call (.Name ("_law_error_name" : Str) q2) [.Name ("_law_e" : Str) q3] [] q4) q5, .Return (some (.Tuple [.Name ("_law_word" : Str) q6, .Call (.Name ("_law_error_field" : Str) q7) [.Name ("_law_e" : Str) q8, .Name ("_law_word" : Str) q9] [] p7] n2 p8)) p9] q10] [] [] q11] ("_law_ask" : Str) q (TTry2 X.K CT word fld) := by
  intro k f c s H Q tl hr k40 act hc y
  have hr3 := hr.mono (show 3 ≤ k by omega)
  have nd : ([("_law_ask" : Str), "_law_e", "_law_word"] : List Str).Nodup := by decide +kernel
  refine ⟨_, pss_one (L2N.ps_try_as (i := 1) (c := .ref CT) (tb := fun W => tRet (tTup (tCons (tC (.str ("value" : Str))) (tCons (fun σZ HZ Q => σZ[0]? = some (some (.ref f)) ∧ HZ c = some (LamX.CodeO c q) ∧ tl (fun cls d H2 => W cls d σZ H2) HZ Q) tNil))))
    (ts := tSuite2 X.K CT word fld) (Wout := fun _ _ _ _ => False) rfl rfl nd rfl s1 ⟨g1, by decide +kernel, .inl mT⟩ (fun _ _ ⟨_, _, _, _, _, _, _, _, _, _, _, _, _, _, _, _, z⟩ => z.elim)
    (fun W pn xe tk _ => pss_one (ps_ret (pe_tup (pa_cons pe_str (pa_cons (act W pn xe (fun σ2 cls d H2 => W cls d σ2 H2) _ _ tk (fun _ _ _ _ h => h)) pa_nil)))))
    (fun a oe cls d pn hz hf => pss_cons (ps_set (i := 2) nd rfl (.inl s2) (by exact pe_callG (X := Cx.suite (cxOf CX0 X.prog X.w X.K X.mg X.base [("_law_ask" : Str), "_law_e", "_law_word"] x sg g cdg X.A X.stack s H E0).nox a ((a, oe) :: pn)) GN ⟨hr3.dp, hr3.un⟩ (hotG_suite hz hf) hz.1 hz.2.1 g2 mN kN bN (pa_cons (pe_var (i := 1) rfl (.inl s1)) pa_nil)))
      (pss_one (ps_ret (pe_tup (pa_cons (pe_var (i := 2) rfl (.inl s2)) (pa_cons (by exact pe_callG (X := Cx.suite (cxOf CX0 X.prog X.w X.K X.mg X.base [("_law_ask" : Str), "_law_e", "_law_word"] x sg g cdg X.A X.stack s H E0).nox a ((a, oe) :: pn)) GF ⟨hr3.dp, hr3.un⟩ (hotG_suite hz hf) hz.1 hz.2.1 g3 mF kF bF (pa_cons (pe_var (i := 1) rfl (.inl s1)) (pa_cons (pe_var (i := 2) rfl (.inl s2)) pa_nil))) pa_nil))))))), ?_⟩
  exact ⟨rfl, hc, y f⟩
end OPN
section OPT
open PySem.Spec PyProof.Rows
theorem try_givesH2 {X : Cx} {x q : Str} {sg : Scope} {g CT fN fF : Addr} {cdg : Value} {fdN fdF : FuncData} {word : Addr → Option Str} {fld : Addr → Option Addr → Hp → V → Prop} {j1 n1 n2 : Nat} {q1 q2 q3 q4 q5 q6 q7 q8 q9 p1 p2 p3 p4 p5 p6 p7 p8 p9 q10 q11 : Pos}
    (s0 : sg.names.lookup ("_law_ask" : Str) = some .local) (s1 : sg.names.lookup ("_law_e" : Str) = some .local) (s2 : sg.names.lookup ("_law_word_here" : Str) = some .local) (g1 : sg.names.lookup ("TermError" : Str) = some .globalImplicit) (g2 : sg.names.lookup ("_law_error_name" : Str) = some .globalImplicit) (g3 : sg.names.lookup ("_law_error_field" : Str) = some .globalImplicit)
    (mT : X.mg ("TermError" : Str) = some (.ref CT)) (mN : X.mg ("_law_error_name" : Str) = some (.ref fN)) (mF : X.mg ("_law_error_field" : Str) = some (.ref fF)) (kN : PySem.W.keepIn X.K (.ref fN) = true) (kF : PySem.W.keepIn X.K (.ref fF) = true) (bN : Binds X.K fdN [("_law_e" : Str)] []) (bF : Binds X.K fdF [("_law_e" : Str), "_law_word_here"] [])
    (GN : FnB X.prog X.w X.K X.mg X.base 3 fN fdN [("_law_e" : Str)] (spName2 X.K CT word)) (GF : FnB X.prog X.w X.K X.mg X.base 3 fF fdF [("_law_e" : Str), "_law_word_here"] (spField word fld)) :
    GivesN X [("_law_ask" : Str), "_law_e", "_law_word_here"] x sg g cdg [.Try [.Return (some (.Tuple [.Constant (.str ("value" : Str)) j1 p1, .Call (.Name ("_law_ask" : Str) p2) [] [] p3] n1 p4)) p5] [.ExceptHandler (some (.Name ("TermError" : Str) p6)) (some ("_law_e" : Str)) [.Assign [.Name ("_law_word_here" : Str) q1] (.Call (.Name ("_law_error_name" : Str) q2) [.Name ("_law_e" : Str) q3] [] q4) q5, .Return (some (.Tuple [.Name ("_law_word_here" : Str) q6, .Call (.Name ("_law_error_field" : Str) q7) [.Name ("_law_e" : Str) q8, .Name ("_law_word_here" : Str) q9] [] p7] n2 p8)) p9] q10] [] [] q11] ("_law_ask" : Str) q (TTry2 X.K CT word fld) := by
  intro k f c s H Q tl hr k40 act hc y
  have hr3 := hr.mono (show 3 ≤ k by omega)
  have nd : ([("_law_ask" : Str), "_law_e", "_law_word_here"] : List Str).Nodup := by decide +kernel
  refine ⟨_, pss_one (L2N.ps_try_as (i := 1) (c := .ref CT) (tb := fun W => tRet (tTup (tCons (tC (.str ("value" : Str))) (tCons (fun σZ HZ Q => σZ[0]? = some (some (.ref f)) ∧ HZ c = some (LamX.CodeO c q) ∧ tl (fun cls d H2 => W cls d σZ H2) HZ Q) tNil))))
    (ts := tSuite2 X.K CT word fld) (Wout := fun _ _ _ _ => False) rfl rfl nd rfl s1 ⟨g1, by decide +kernel, .inl mT⟩ (fun _ _ ⟨_, _, _, _, _, _, _, _, _, _, _, _, _, _, _, _, z⟩ => z.elim)
    (fun W pn xe tk _ => pss_one (ps_ret (pe_tup (pa_cons pe_str (pa_cons (act W pn xe (fun σ2 cls d H2 => W cls d σ2 H2) _ _ tk (fun _ _ _ _ h => h)) pa_nil)))))
    (fun a oe cls d pn hz hf => pss_cons (ps_set (i := 2) nd rfl (.inl s2) (by exact pe_callG (X := Cx.suite (cxOf CX0 X.prog X.w X.K X.mg X.base [("_law_ask" : Str), "_law_e", "_law_word_here"] x sg g cdg X.A X.stack s H E0).nox a ((a, oe) :: pn)) GN ⟨hr3.dp, hr3.un⟩ (hotG_suite hz hf) hz.1 hz.2.1 g2 mN kN bN (pa_cons (pe_var (i := 1) rfl (.inl s1)) pa_nil)))
      (pss_one (ps_ret (pe_tup (pa_cons (pe_var (i := 2) rfl (.inl s2)) (pa_cons (by exact pe_callG (X := Cx.suite (cxOf CX0 X.prog X.w X.K X.mg X.base [("_law_ask" : Str), "_law_e", "_law_word_here"] x sg g cdg X.A X.stack s H E0).nox a ((a, oe) :: pn)) GF ⟨hr3.dp, hr3.un⟩ (hotG_suite hz hf) hz.1 hz.2.1 g3 mF kF bF (pa_cons (pe_var (i := 1) rfl (.inl s1)) (pa_cons (pe_var (i := 2) rfl (.inl s2)) pa_nil))) pa_nil))))))), ?_⟩
  exact ⟨rfl, hc, y f⟩
end OPT
section OPN
open PySem PySem.Spec PyProof.Rows PySem.W
/-! ### the def __init__ of such a class, and its raise -/
structure FunS (P : Program) (K : PySem.W.Frag) (mg : Str → Option Value) (x qual : Str) (st : Stmt) (ps : List Str) (C f : Addr) (fd : FuncData) : Prop where
  ex : ∃ (oc : Value) (od : Option Addr) (dV kV doc pm : Value) (an : Option Addr) (cda : Addr) (ct : Value) (osl : Array (Option Value)) (cc : Addr) (cl : Value) (cld : Option Addr) (csl : Array (Option Value)) (ccl : Value) (cdd : Option Addr) (cvs : Array Value) (ccs : Array (Option Value)) (file : Str) (tf : Tok),
    fd = ksFn "__init__" qual (defArgs st) (defBody st) (defScope st) dV kV doc pm an (.ref cda) ct cc ∧ K.lookup f = some ⟨oc, od, .func fd, osl⟩ ∧ codeIn K (.ref cda) qual = true ∧ K.lookup cda = some ⟨ccl, cdd, .fields cvs, ccs⟩ ∧ cvs[2]? = some (.str file tf) ∧ ((P.main.file : Str) == file) = true ∧ K.lookup cc = some ⟨cl, cld, .cell (some (.ref C)), csl⟩
  top : (P.main.scope.names.lookup ("super" : Str)).isSome = false
  T : OexC K C
  mro : mroIn K C (.ref C) = some true
  sup : mg ("super" : Str) = none
  any : nsIn K cStatics "thirdparty.any" = some none
  ini : ks_superIn K C C "__init__" = some (some (.builtin "ValueError.__init__"))
  val : subIn K (.ref C) (.type "ValueError") = some true
  iC : findIn K (.ref C) "__init__" = some (some (.ref f))
  tI : typeIn K (.ref f) = some (.type "function")
  b : Binds K fd ps []
  m : mg x = some (.ref C)
def okInt (v : V) : Prop := ∃ n : Int, v = .int n ∧ 0 ≤ n ∧ n < 10 ^ 12
end OPN
section OPN
open PySem PySem.Spec PyProof.Rows
/-- C(e, ..), the context told: the made exception has no context yet -/
theorem pmkN_oex {X : Cx} {CX : CXT} {x : Str} {e : Expr} {es : List Expr} {ta : L2.TA} {p pos : Pos} {C fI : Addr} {k : Nat} {fd : FuncData} {ps : List Str} {sp : Sp} (T : OexC X.K C) (iC : PySem.W.findIn X.K (.ref C) "__init__" = some (some (.ref fI))) (tI : PySem.W.typeIn X.K (.ref fI) = some (.type "function"))
    (F1 : FnOk X.prog X.w X.K X.mg X.base CX k fI fd ps sp) (hr : Room (k + 1) X.A) (hb : Binds X.K fd ps []) (hx : Passes CX X (fun _ _ _ => False)) (hg : Gl X x) (hm : X.mg x = some (.ref C)) (ha : PA X (e :: es) ta)
    (hdb : (x == ("__debug__" : Str)) = false := by decide) (he : starEach (e :: es) X.env = (false, eval e X.env) :: starEach es X.env := by rfl) (hpl : (backTo pos (starEach es X.env)).any (·.1) = false := by rfl) :
    L2N.PMk X (.Call (.Name x p) (e :: es) [] pos) (tMkO C sp [] ta) := by
  intro pins s σ H Q I h
  obtain ⟨nm, q, N, bs, bm, sn, sub, ab, col, dd, k0, k1, k2, k3, k5, hC, hbm⟩ := T.cls
  refine wpAny_Call_Name_kw (ld_glob I hg hm ?_ hdb)
  refine PySem.W.callWith_K (h₀ := X.base) I.ok.mod.kin T.kC (thn (ha.run pos pins s σ H _ I h) fun us s1 ⟨vs, H1, I1, r1, hz, q1⟩ => ⟨I1.kIn, ?_⟩) he hpl
  show wpAny _ _ (call (.ref C) us) _ _ _
  obtain ⟨hp, g, dr, tk, os⟩ := s1
  have hsz : hp.objs.size ≤ hp.objs.size + 1 := Nat.le_succ _
  have hq := q1 (hp.objs.size + 1) (I1.hok.fresh hsz)
  rw [List.append_nil] at hq
  have kk : ∀ b o, hp.get? b = some o → ((hp.push (PySem.W.kdv_tup us)).push (PySem.HandSPX.excO C hp.objs.size)).get? b = some o := fun b o z => Heap.get?_push_of_some _ (Heap.get?_push_of_some _ z)
  have hget : ((hp.push (PySem.W.kdv_tup us)).push (PySem.HandSPX.excO C hp.objs.size)).get? (hp.objs.size + 1) = some (PySem.HandSPX.excO C hp.objs.size) := by heap_get
  have I2 : Inv X pins σ (upd H1 (hp.objs.size + 1) (exo (hp.objs.size + 1) C none)) ⟨(hp.push (PySem.W.kdv_tup us)).push (PySem.HandSPX.excO C hp.objs.size), g, dr, tk, os⟩ :=
    I1.laid (t' := tk) (a := hp.objs.size + 1) (o := exo (hp.objs.size + 1) C none) (h' := (hp.push (PySem.W.kdv_tup us)).push (PySem.HandSPX.excO C hp.objs.size)) kk hsz (exo_ok hget)
  have r2 : Vals (V.ref (hp.objs.size + 1) :: vs) (Value.ref (hp.objs.size + 1) :: us) := .cons rfl r1
  have hl : (Value.ref (hp.objs.size + 1) :: us ++ []).length = ps.length := by
    have z := r2.length
    rw [F1.len _ _ _ _ hq] at z
    rw [List.append_nil]
    exact z.symm
  have hus : us.length ≤ sizeLine := by
    rw [← Paired.length r1, sizeLine_eq]
    omega
  have b2 := hb _ (Value.ref (hp.objs.size + 1) :: us) I2.kIn hl
  rw [List.append_nil] at b2
  refine wpAny_call (PySem.HandSPX.call_own PySem.F.excBase_ValueError (fun Y => PySem.HandSPX.refsVE_contains Y bm hbm) (I1.kIn _ _ hC) (PySem.W.looks_findIn I1.kIn iC) (fun self => PySem.W.bind_fn I1.kIn self tI) hus
    (codeAny_mono (F1.run _ X.stack _ _ ⟨Value.ref (hp.objs.size + 1) :: us, []⟩ (Value.ref (hp.objs.size + 1) :: us) _ _ (fun _ _ _ => False) (hr.make C us []) (I2.env0.make C us []) b2 r2 hq) fun r s' hq' => ?_))
  cases r with
  | error er => exact hx pins σ _ _ er s' I2 hq'
  | ok fl =>
    cases fl with
    | ret u =>
      obtain ⟨v, H2, os2, bare2, un2, hok2, rv, ev, d, fs, ea, ed, hd1, q2⟩ := hq'
      subst ev
      obtain ⟨h2, g2, d2, t2, os'⟩ := s'
      obtain ⟨t0, G, J, kG, ge, hoe, na⟩ := mk_end0 (d2 := d2) (t2 := t2) I1 hsz kk un2 hok2 os2 bare2 ea ed hd1
      refine ⟨rv, hp.objs.size + 1, _, _, ⟨G, g2, d2, t2, os'⟩, _, .ref C, some d, rfl, J, kG, ge, hoe, ⟨rfl, rfl, fun vs hv => ?_⟩, rfl, rfl, na, rfl, bare2, raises_own T.exC T.tyC, q2⟩
      cases hv
      rfl
    | next => exact False.elim hq'
    | brk => exact False.elim hq'
    | cont => exact False.elim hq'
end OPN
section OPLQ
open PySem PySem.Spec PyProof.Rows
/-! ### lambdas of any number of parameters that capture nothing, handed to a def that calls them -/
/-- at f stands a function that keeps sp -/
def LamQ (P : Program) (w : World) (K : PySem.W.Frag) (mg : Str → Option Value) (base : Heap) (k : Nat) (f : Addr) (sp : List V → Hp → VK → Prop) (H : Hp) : Prop :=
  ∃ pn : List (Addr × HO), (∀ p ∈ pn, H p.1 = some p.2) ∧ (∀ (s : Shared) (H' : Hp), K.In s.heap → HOk P w H' s.heap → (∀ p ∈ pn, H' p.1 = some p.2) → PySem.W.FnAt f s.heap) ∧
  ∀ (A : Around) (outer : List Env) (s : Shared) (H' : Hp) (us : List Value) (vs : List V) (Q : VK), Room k A → Env0 P w K mg base A outer s H' → (∀ p ∈ pn, H' p.1 = some p.2) → Vals vs us → sp vs H' Q →
    codeAny (model P w) A (.call (.ref f) ⟨us, []⟩) (CR CX0 outer P w H' s Q E0) s
theorem LamQ.same {P : Program} {w : World} {K : PySem.W.Frag} {mg : Str → Option Value} {base : Heap} {k : Nat} {f : Addr} {sp : List V → Hp → VK → Prop} {H H' : Hp} (h : LamQ P w K mg base k f sp H) (s : Same H H') : LamQ P w K mg base k f sp H' := by
  obtain ⟨pn, h3, h4, h5⟩ := h
  exact ⟨pn, fun p hp => s _ _ (h3 p hp), h4, h5⟩
/-- x(a, ..), x a name that holds such a function -/
def tLamQC (P : Program) (w : World) (K : PySem.W.Frag) (mg : Str → Option Value) (base : Heap) (k i : Nat) (t : L2.TA) : TE := fun σ H Q => ∃ (f : Addr) (sp : List V → Hp → VK → Prop), σ[i]? = some (some (.ref f)) ∧ LamQ P w K mg base k f sp H ∧
  t σ H fun vs H1 => LamQ P w K mg base k f sp H1 ∧ sp vs H1 Q
theorem pe_lamQC {X : Cx} {k j i : Nat} {x : Str} {e : Expr} {es : List Expr} {t : L2.TA} {p pos : Pos} (hr : Room j X.A) (hk : k ≤ j) (hN : X.N[i]? = some x) (hv : Vis X.env.scope x) (ha : PA X (e :: es) t)
    (hd : (x == ("__debug__" : Str)) = false := by decide) (hcd : (x == ("__classdict__" : Str)) = false := by decide)
    (he : starEach (e :: es) X.env = (false, eval e X.env) :: starEach es X.env := by rfl) (hpl : (backTo pos (starEach es X.env)).any (·.1) = false := by rfl) :
    PE X (.Call (.Name x p) (e :: es) [] pos) (tLamQC X.prog X.w X.K X.mg X.base k i t) := by
  refine ⟨fun pins s σ H Q I h => ?_⟩
  obtain ⟨f, sp, hs, hf, ht⟩ := h
  refine wpAny_Call_Name_kw (thn ((pe_var (pos := p) hN hv hd hcd).run pins s σ H (fun v H1 => v = .ref f ∧ H1 = H) I ⟨.ref f, hs, rfl, rfl⟩) fun u s1 ⟨v, H1, I1, r1, q1⟩ => ?_)
  obtain ⟨ev, eH⟩ := q1
  subst ev
  rw [eH] at I1
  obtain rfl : u = Value.ref f := r1
  have at1 : PySem.W.FnAt f s1.heap := by
    obtain ⟨pn, h3, h4, _⟩ := hf
    exact h4 s1 H I1.kIn I1.hok h3
  refine PySem.W.callWith_F (first := []) at1 (thn (ha.run pos pins s1 σ H _ I1 ht) fun us s2 ⟨vs, H2, I2, r, hL, q⟩ => ?_) he hpl
  obtain ⟨pn, h3, h4, h5⟩ := hL
  refine ⟨h4 s2 H2 I2.kIn I2.hok h3, ?_⟩
  show wpAny _ _ (call (.ref f) us) _ _ _
  refine wpAny_call (codeAny_mono (h5 X.A X.stack s2 H2 us vs Q (hr.mono hk) I2.env0 h3 r q) fun r s' hq => ?_)
  cases r with
  | error e => exact (show False from hq).elim
  | ok fl =>
    cases fl with
    | ret u => exact I2.after hq
    | next => exact False.elim hq
    | brk => exact False.elim hq
    | cont => exact False.elim hq
theorem lamq_of {P : Program} {w : World} {K : PySem.W.Frag} {mg : Str → Option Value} {base : Heap} {Nl ps : List Str} {L : LF} {f : Addr} {k : Nat} {H1 : Hp} {tb : TE} {sp : List V → Hp → VK → Prop}
    (S : NdefX.NScope Nl ps [] L.scope) (hcl : L.cl = []) (hbind : ∀ (pm ctv : Value) (us : List Value), us.length = ps.length → bindArgs (PySem.W.kla_fn "<lambda>" L.qual L.params L.body L.scope L.cl pm (.ref L.c) ctv) ⟨us, []⟩ = pure (ps.zip us))
    (hf : H1 f = some (LamO f L)) (hc : H1 L.c = some (LamX.CodeO L.c L.qual))
    (hb : ∀ (vs : List V) (H' : Hp) (Q : VK), sp vs H' Q → vs.length = ps.length ∧ tb (NdefX.startF Nl vs []) H' Q)
    (hbody : ∀ (A : Around) (outer : List Env) (s : Shared) (H : Hp), Room k (A.deeper (NdefX.envF L.nf f s.heap.objs.size)) → PE (NdefX.ncx CX0 P w K mg base Nl L.nf f A outer s H E0) L.body tb) :
    LamQ P w K mg base (k + 1) f sp H1 := by
  refine ⟨[(f, LamO f L), (L.c, LamX.CodeO L.c L.qual)], fun p hp => ?_, fun s H' _ hok hp => ?_, ?_⟩
  · rcases List.mem_cons.mp hp with rfl | hp
    · exact hf
    · rw [List.mem_singleton.mp hp]
      exact hc
  · obtain ⟨⟨pm, ctv, e⟩, _⟩ := hok f _ (hp _ List.mem_cons_self)
    exact ⟨_, _, _, _, e⟩
  intro A outer s H' us vs Q hr e0 hp r hsp
  have pf : H' f = some (LamO f L) := hp _ List.mem_cons_self
  have pc : H' L.c = some (LamX.CodeO L.c L.qual) := hp _ (List.mem_cons_of_mem _ List.mem_cons_self)
  obtain ⟨hl, htb⟩ := hb vs H' Q hsp
  have C0 : NdefX.CellsAt L.cl [] [] s.heap H' := by
    rw [hcl]
    exact ⟨rfl, (fun y c e => nomatch e), (fun x y c e => nomatch e), (fun i y e => nomatch (show ([] : List Str)[i]? = some y from e))⟩
  obtain ⟨⟨pm, ctv, ho⟩, _⟩ := e0.hok f _ pf
  have lim : s.heap.NoLimit := e0.mod.nolimit.keeps fun b o e => (e0.bs b o e).1
  refine PySem.W.kla_callFunE hr.depth ho rfl S.co S.gen rfl (NdefX.codeO_at e0.hok pc) ?_
  rw [hbind pm ctv us (by rw [← r.length]; exact hl)]
  refine wpAny_pure (wpAny_newFunctionEnv S.nocell (fun ⟨n, _⟩ hy => S.par n (List.of_mem_zip hy).1) (fun h₁ hns hsb => ⟨lim.fresh _ hsb, ?_⟩) S.kind)
  show codeAny _ _ (.expr L.body (NdefX.envF L.nf f s.heap.objs.size)) _ _
  have kp : ∀ b o, s.heap.get? b = some o → h₁.get? b = some o := fun b o e => hsb.extBut b o (Nat.ne_of_lt (Heap.lt_size e)) (Heap.get?_push_of_some _ e)
  have I := NdefX.inv_startN (CX := CX0) (E := E0) (F := L.nf) (f := f) (tk := s.toks + (ps.zip us).length) S hr.hd e0 hl r C0 hns kp
  refine PySem.W.kla_codeExpr (wpAny_mono ((hbody A outer s _ (hr.deeper _)).run [] _ _ _ _ I htb) (fun v s3 ⟨w3, H3, J3, rv, q⟩ => ?_) fun e s3 z => z)
  exact ⟨w3, H3, J3.os, J3.bare, J3.base, J3.hok, rv, q⟩
/-- a def of the top as such a function -/
theorem lamq_fn {P : Program} {w : World} {K : PySem.W.Frag} {mg : Str → Option Value} {base : Heap} {nm qual : Str} {st : Stmt} {ps : List Str} {f : Addr} {fd : FuncData} {k : Nat} {H1 : Hp} {sp : List V → Hp → VK → Prop} {spF : Sp}
    (F : Fun K nm qual st f fd) (hb : Binds K fd ps []) (G : FnOk P w K mg base CX0 k f fd ps spF) (h : ∀ vs H Q, sp vs H Q → spF vs H Q E0) : LamQ P w K mg base k f sp H1 := by
  refine ⟨[], (fun p hp => nomatch hp), fun s H' hK _ _ => ?_, fun A outer s H' us vs Q hr e0 _ r hsp => ?_⟩
  · obtain ⟨oc, od, kV, doc, pm, an, cdv, ct, osl, rfl, lk, _⟩ := F.ex
    exact ⟨_, _, _, _, hK _ _ lk⟩
  · have q := h vs H' Q hsp
    have hl : (us ++ []).length = ps.length := by
      have z := G.len _ _ _ _ q
      rw [List.append_nil, ← r.length]
      exact z
    exact G.run A outer s H' ⟨us, []⟩ us vs Q E0 hr e0 (by have z := hb s us (e0.mod.kin.keeps fun b o e => (e0.bs b o e).1) hl; rw [List.append_nil] at z; exact z) r q
end OPLQ
section OPLR
open PySem PySem.Spec PyProof.Rows
/-! ### lambdas that captured cells and may make lambdas of their own, handed to a def that calls them -/
/-- all but tables and what is told by a word stays -/
def ExtM (H H' : Hp) : Prop := ∀ b o, H b = some o → (∀ ps, o ≠ .tbl ps) → (∀ φ, o ≠ .ext φ) → H' b = some o
theorem ExtM.ofN {H H' : Hp} (e : LamX.ExtN H H') : ExtM H H' := fun b o h n _ => e b o h n
theorem ExtM.ofE {H H' : Hp} (e : ExtE H H') : ExtM H H' := fun b o h _ n => e b o h n
/-- at f stands a function that keeps pre and post and writes nothing but tables -/
def LamR (P : Program) (w : World) (K : PySem.W.Frag) (mg : Str → Option Value) (base : Heap) (T : List (Addr × Str)) (k : Nat) (f : Addr) (pre : List V → Prop) (post : List V → V → Prop) (H : Hp) : Prop :=
  ∃ (pn : List (Addr × HO)) (J : Hp → Prop), (∀ p ∈ pn, ∃ φ, p.2 = .ext φ) ∧ (∀ H H', ExtM H H' → J H → J H') ∧ J H ∧ (∀ p ∈ pn, H p.1 = some p.2) ∧ (∀ (s : Shared) (H' : Hp), HOk P w H' s.heap → (∀ p ∈ pn, H' p.1 = some p.2) → PySem.W.FnAt f s.heap) ∧
  ∀ (A : Around) (outer : List Env) (s : Shared) (H' : Hp) (us : List Value) (vs : List V) (Q : VK), Room k A → Env0 P w K mg base A outer s H' → (∀ p ∈ pn, H' p.1 = some p.2) → J H' → LamX.Tabs T H' → Vals vs us → pre vs → (∀ u H'', LamX.ExtN H' H'' → LamX.Tabs T H'' → post vs u → Q u H'') →
    codeAny (model P w) A (.call (.ref f) ⟨us, []⟩) (CR CX0 outer P w H' s Q E0) s
theorem LamR.ext {P : Program} {w : World} {K : PySem.W.Frag} {mg : Str → Option Value} {base : Heap} {T : List (Addr × Str)} {k : Nat} {f : Addr} {pre : List V → Prop} {post : List V → V → Prop} {H H' : Hp} (h : LamR P w K mg base T k f pre post H) (s : LamX.ExtN H H') : LamR P w K mg base T k f pre post H' := by
  obtain ⟨pn, J, h0, h1, h2, h3, h4, h5⟩ := h
  exact ⟨pn, J, h0, h1, h1 _ _ (ExtM.ofN s) h2, fun p hp => s _ _ (h3 p hp) (fun ps z => by
    obtain ⟨φ, e⟩ := h0 p hp
    rw [e] at z
    cases z), h4, h5⟩
/-- x(a, ..), x a name that holds such a function -/
def tLamRC (P : Program) (w : World) (K : PySem.W.Frag) (mg : Str → Option Value) (base : Heap) (T : List (Addr × Str)) (k i : Nat) (t : L2.TA) : TE := fun σ H Q => ∃ (f : Addr) (pre : List V → Prop) (post : List V → V → Prop), σ[i]? = some (some (.ref f)) ∧ LamR P w K mg base T k f pre post H ∧
  t σ H fun vs H1 => LamR P w K mg base T k f pre post H1 ∧ LamX.Tabs T H1 ∧ pre vs ∧ ∀ u H2, LamX.ExtN H1 H2 → LamX.Tabs T H2 → post vs u → Q u H2
theorem pe_lamRC {X : Cx} {T : List (Addr × Str)} {k j i : Nat} {x : Str} {e : Expr} {es : List Expr} {t : L2.TA} {p pos : Pos} (hr : Room j X.A) (hk : k ≤ j) (hN : X.N[i]? = some x) (hv : Vis X.env.scope x) (ha : PA X (e :: es) t)
    (hd : (x == ("__debug__" : Str)) = false := by decide) (hcd : (x == ("__classdict__" : Str)) = false := by decide)
    (he : starEach (e :: es) X.env = (false, eval e X.env) :: starEach es X.env := by rfl) (hpl : (backTo pos (starEach es X.env)).any (·.1) = false := by rfl) :
    PE X (.Call (.Name x p) (e :: es) [] pos) (tLamRC X.prog X.w X.K X.mg X.base T k i t) := by
  refine ⟨fun pins s σ H Q I h => ?_⟩
  obtain ⟨f, pre, post, hs, hf, ht⟩ := h
  refine wpAny_Call_Name_kw (thn ((pe_var (pos := p) hN hv hd hcd).run pins s σ H (fun v H1 => v = .ref f ∧ H1 = H) I ⟨.ref f, hs, rfl, rfl⟩) fun u s1 ⟨v, H1, I1, r1, q1⟩ => ?_)
  obtain ⟨ev, eH⟩ := q1
  subst ev
  rw [eH] at I1
  obtain rfl : u = Value.ref f := r1
  have at1 : PySem.W.FnAt f s1.heap := by
    obtain ⟨pn, J, _, _, _, h3, h4, _⟩ := hf
    exact h4 s1 H I1.hok h3
  refine PySem.W.callWith_F (first := []) at1 (thn (ha.run pos pins s1 σ H _ I1 ht) fun us s2 ⟨vs, H2, I2, r, hL, hT, hp, q⟩ => ?_) he hpl
  obtain ⟨pn, J, h0, h1, h2, h3, h4, h5⟩ := hL
  refine ⟨h4 s2 H2 I2.hok h3, ?_⟩
  show wpAny _ _ (call (.ref f) us) _ _ _
  refine wpAny_call (codeAny_mono (h5 X.A X.stack s2 H2 us vs Q (hr.mono hk) I2.env0 h3 h2 hT r hp q) fun r s' hq => ?_)
  cases r with
  | error e => exact (show False from hq).elim
  | ok fl =>
    cases fl with
    | ret u => exact I2.after hq
    | next => exact False.elim hq
    | brk => exact False.elim hq
    | cont => exact False.elim hq
theorem tabs_drop {T : List (Addr × Str)} {H : Hp} {as : List Addr} (t : LamX.Tabs T H) (n1 : ∀ b ∈ as, ∀ ps, H b ≠ some (.tbl ps)) (n2 : ∀ b ∈ as, ∀ q, H b ≠ some (LamX.CodeO b q)) : LamX.Tabs T (dropH as H) := fun p hp => by
  obtain ⟨ps, h1, h2, h3⟩ := t p hp
  refine ⟨ps, by rw [dropH_out fun z => n1 _ z ps h1]; exact h1, h2, fun pos cv ec => ?_⟩
  obtain ⟨c, rfl, hc⟩ := h3 pos cv ec
  exact ⟨c, rfl, by rw [dropH_out fun z => n2 _ z _ hc]; exact hc⟩
theorem cell_code {P : Program} {w : World} {H : Hp} {h : Heap} {b : Addr} {q : Str} {v : Option Value} (hok : HOk P w H h) (hc : h.IsCell b v) : H b ≠ some (LamX.CodeO b q) := fun e => by
  obtain ⟨⟨oc, vs, t, e1, e2, _⟩, _⟩ := hok b _ e
  obtain ⟨o, ho, hd⟩ := hc
  rw [ho] at e1
  cases e1
  rw [hd] at e2
  cases e2
theorem lamr_run {P : Program} {w : World} {K : PySem.W.Frag} {mg : Str → Option Value} {base : Heap} {T : List (Addr × Str)} {Nl ps fr : List Str} {L : LF} {f : Addr} {k : Nat} {ws : List (Option V)} {s1 : Shared} {H1 : Hp} {tb : TE} {pre : List V → Prop} {post : List V → V → Prop} {J : Hp → Prop} {as : List Addr}
    (S : NdefX.NScope Nl ps fr L.scope) (hlen : ∀ vs, pre vs → vs.length = ps.length) (hbind : ∀ (pm ctv : Value) (us : List Value), us.length = ps.length → bindArgs (PySem.W.kla_fn "<lambda>" L.qual L.params L.body L.scope L.cl pm (.ref L.c) ctv) ⟨us, []⟩ = pure (ps.zip us))
    (C1 : NdefX.CellsAt L.cl fr ws s1.heap H1) (has : ∀ b ∈ capA L.cl, b ∈ as) (hn : ∀ b ∈ as, H1 b = none) (hf : H1 f = some (LamO f L)) (hc : H1 L.c = some (LamX.CodeO L.c L.qual)) (st : ∀ H H', ExtM H H' → J H → J H') (hJ : J H1)
    (hb : ∀ (vs : List V) (H' : Hp), pre vs → J H' → LamX.Tabs T H' → tb (NdefX.startF Nl vs ws) H' (fun u H'' => LamX.ExtN H' H'' ∧ LamX.Tabs T H'' ∧ post vs u))
    (hbody : ∀ (A : Around) (outer : List Env) (s : Shared) (H : Hp), Room k (A.deeper (NdefX.envF L.nf f s.heap.objs.size)) → PE (NdefX.ncx CX0 P w K mg base Nl L.nf f A outer s H E0) L.body tb) :
    LamR P w K mg base T (k + 1) f pre post (pinH as s1.heap H1) := by
  have hin : ∀ b ∈ capA L.cl, H1 b = none ∧ ∃ o, s1.heap.get? b = some o := fun b hb => by
    obtain ⟨y, e⟩ := capA_in hb
    obtain ⟨h1, v, o, h2, _⟩ := C1.all y b e
    exact ⟨h1, o, h2⟩
  have nin : ∀ b o, H1 b = some o → b ∉ as := fun b o e z => by
    rw [hn b z] at e
    cases e
  refine ⟨(f, LamO f L) :: (L.c, LamX.CodeO L.c L.qual) :: (capA L.cl).filterMap (fun b => (s1.heap.get? b).map fun o => (b, PinO b o)), J, fun p hp => ?_, st, st _ _ (ExtM.ofE (ExtE.same fun b o e => ?_)) hJ, fun p hp => ?_, fun s H' hok hp => ?_, ?_⟩
  · rcases List.mem_cons.mp hp with rfl | hp
    · exact ⟨_, rfl⟩
    rcases List.mem_cons.mp hp with rfl | hp
    · exact ⟨_, rfl⟩
    obtain ⟨b, hb, e⟩ := List.mem_filterMap.mp hp
    obtain ⟨o, ho⟩ := (hin b hb).2
    rw [ho] at e
    cases e
    exact ⟨_, rfl⟩
  · rw [pinH_out (nin b o e)]
    exact e
  · rcases List.mem_cons.mp hp with rfl | hp
    · show pinH _ _ _ f = _
      rw [pinH_out (nin _ _ hf)]
      exact hf
    rcases List.mem_cons.mp hp with rfl | hp
    · show pinH _ _ _ L.c = _
      rw [pinH_out (nin _ _ hc)]
      exact hc
    obtain ⟨b, hb, e⟩ := List.mem_filterMap.mp hp
    obtain ⟨o, ho⟩ := (hin b hb).2
    rw [ho] at e
    cases e
    exact pinH_in (has b hb) ho
  · obtain ⟨⟨pm, ctv, e⟩, _⟩ := hok f _ (hp _ List.mem_cons_self)
    exact ⟨_, _, _, _, e⟩
  intro A outer s H' us vs Q hr e0 hp hJ' hT' r hpre q
  have pf : H' f = some (LamO f L) := hp _ List.mem_cons_self
  have pc : H' L.c = some (LamX.CodeO L.c L.qual) := hp _ (List.mem_cons_of_mem _ List.mem_cons_self)
  have pcell : ∀ b ∈ capA L.cl, ∃ o, s1.heap.get? b = some o ∧ H' b = some (PinO b o) ∧ s.heap.get? b = some o := fun b hb => by
    obtain ⟨o, ho⟩ := (hin b hb).2
    have e : H' b = some (PinO b o) := hp (b, PinO b o) (List.mem_cons_of_mem _ (List.mem_cons_of_mem _ (List.mem_filterMap.mpr ⟨b, hb, by rw [ho]; rfl⟩)))
    obtain ⟨z, _⟩ := e0.hok b _ e
    exact ⟨o, ho, e, z⟩
  have e0' : Env0 P w K mg base A outer s (dropH (capA L.cl) H') := ⟨e0.frames, e0.mod, fun b o e => ⟨(e0.bs b o e).1, dropH_none (e0.bs b o e).2⟩, e0.bsz, e0.funs, fun b hb => dropH_none (e0.frf b hb), hok_drop e0.hok fun b hb u eu => by
    obtain ⟨o, _, e, _⟩ := pcell b hb
    rw [e] at eu
    cases eu
    exact ⟨_, rfl⟩, e0.bare⟩
  have keep : ∀ y c, L.cl.lookup y = some c → ∀ v, s1.heap.IsCell c v → s.heap.IsCell c v := fun y c e v ⟨o, ho, hd⟩ => by
    obtain ⟨o', h1, _, h2⟩ := pcell c (capA_of e)
    rw [ho] at h1
    cases h1
    exact ⟨o, h2, hd⟩
  have C0 : NdefX.CellsAt L.cl fr ws s.heap (dropH (capA L.cl) H') := by
    refine ⟨C1.len, fun y c e => ⟨dropH_in (capA_of e), ?_⟩, C1.inj, fun i y e => ?_⟩
    · obtain ⟨v, z⟩ := (C1.all y c e).2
      exact ⟨v, keep y c e v z⟩
    · obtain ⟨c, hc, hv⟩ := C1.has i y e
      refine ⟨c, hc, fun v ev => ?_⟩
      obtain ⟨u, ru, z⟩ := hv v ev
      exact ⟨u, ru, keep y c hc _ z⟩
  have tD : LamX.Tabs T (dropH (capA L.cl) H') := by
    refine tabs_drop hT' (fun b hb ps z => ?_) fun b hb q' => ?_
    · obtain ⟨o, _, e, _⟩ := pcell b hb
      rw [e] at z
      cases z
    · obtain ⟨y, e⟩ := capA_in hb
      obtain ⟨v, z⟩ := (C1.all y b e).2
      exact cell_code e0.hok (keep y b e v z)
  obtain ⟨⟨pm, ctv, ho⟩, _⟩ := e0.hok f _ pf
  have lim : s.heap.NoLimit := e0.mod.nolimit.keeps fun b o e => (e0.bs b o e).1
  have hl : vs.length = ps.length := hlen vs hpre
  refine PySem.W.kla_callFunE hr.depth ho rfl S.co S.gen rfl (NdefX.codeO_at e0.hok pc) ?_
  rw [hbind pm ctv us (by rw [← r.length]; exact hl)]
  refine wpAny_pure (wpAny_newFunctionEnv S.nocell (fun ⟨n, _⟩ hy => S.par n (List.of_mem_zip hy).1) (fun h₁ hns hsb => ⟨lim.fresh _ hsb, ?_⟩) S.kind)
  show codeAny _ _ (.expr L.body (NdefX.envF L.nf f s.heap.objs.size)) _ _
  have kp : ∀ b o, s.heap.get? b = some o → h₁.get? b = some o := fun b o e => hsb.extBut b o (Nat.ne_of_lt (Heap.lt_size e)) (Heap.get?_push_of_some _ e)
  have I := NdefX.inv_startN (CX := CX0) (E := E0) (F := L.nf) (f := f) (tk := s.toks + (ps.zip us).length) S hr.hd e0' hl r C0 hns kp
  have hxE : ExtE H' (dropH (capA L.cl) H') := fun b o e n => by
    rw [dropH_out fun z => ?_]
    · exact e
    · obtain ⟨o', _, e', _⟩ := pcell b z
      rw [e'] at e
      cases e
      exact n _ rfl
  refine PySem.W.kla_codeExpr (wpAny_mono ((hbody A outer s _ (hr.deeper _)).run [] _ _ _ _ I (hb vs _ hpre (st _ _ (ExtM.ofE hxE) hJ') tD)) (fun v s3 ⟨w3, H3, J3, rv, sm, t3, hpost⟩ => ?_) fun e s3 z => z)
  have un : Un (frs outer) [] (dropH (capA L.cl) H') H3 s.heap s3.heap := J3.base
  have gone : ∀ b ∈ capA L.cl, H3 b = none := fun b hb => by
    obtain ⟨o, _, _, z⟩ := pcell b hb
    exact un.free b o z (dropH_in hb) (by simp)
  have back : ∀ b, b ∉ capA L.cl → mixH (capA L.cl) H' H3 b = H3 b := fun b hb => if_neg hb
  have inn : ∀ b, b ∈ capA L.cl → mixH (capA L.cl) H' H3 b = H' b := fun b hb => if_pos hb
  have bk : ∀ b o, H3 b = some o → mixH (capA L.cl) H' H3 b = some o := fun b o e => by
    rw [back b fun z => by rw [gone b z] at e; cases e]
    exact e
  refine ⟨_, mixH (capA L.cl) H' H3, J3.os, J3.bare, ⟨fun b o e n nf nx => ?_, fun b o e n nf nx => ?_, fun b o e n nx => ?_, un.there, fun b xs e => ?_, fun b o u e => ?_, fun b qs e => ?_⟩, fun b u e => ?_, rv, q _ _ (fun b o e n => ?_) (t3.ext bk) hpost⟩
  · exact un.keep b o e (dropH_none n) nf nx
  · exact un.slot b o e (dropH_none n) nf nx
  · by_cases hb : b ∈ capA L.cl
    · rw [inn b hb]
      exact n
    · rw [back b hb]
      exact un.free b o e (dropH_none n) nx
  · have hb : b ∉ capA L.cl := fun z => by
      obtain ⟨o', _, e', _⟩ := pcell b z
      rw [e'] at e
      cases e
    rw [back b hb]
    exact un.tups b xs (by rw [dropH_out hb]; exact e)
  · have hb : b ∉ capA L.cl := fun z => by
      obtain ⟨o', _, e', _⟩ := pcell b z
      rw [e'] at e
      cases e
    rw [back b hb]
    exact un.frzs b o u (by rw [dropH_out hb]; exact e)
  · have hb : b ∉ capA L.cl := fun z => by
      obtain ⟨o', _, e', _⟩ := pcell b z
      rw [e'] at e
      cases e
    rw [back b hb]
    exact un.tbls b qs (by rw [dropH_out hb]; exact e)
  · by_cases hb : b ∈ capA L.cl
    · rw [inn b hb] at e
      obtain ⟨o, _, e', z⟩ := pcell b hb
      rw [e'] at e
      cases e
      have nfr : b ∉ frs outer := fun y => by
        rw [e0.frf b y] at e'
        cases e'
      have z3 := un.keep b o z (dropH_in hb) nfr (by simp)
      exact ⟨z3, ⟨o, z3⟩, fun h1 h2 y st => st _ y⟩
    · rw [back b hb] at e
      refine (J3.hok b u e).stay (fun c v _ y => y) (fun c y => ?_) (fun c xs y => ?_)
      · rw [back c fun z => by rw [gone c z] at y; cases y]
        exact y
      · rw [back c fun z => by rw [gone c z] at y; cases y]
        exact y
  · by_cases hb : b ∈ capA L.cl
    · rw [inn b hb]
      exact e
    · rw [back b hb]
      exact sm b o (by rw [dropH_out hb]; exact e) n
/-- H2 is H1 with the frame's cells pinned -/
def PinC (X : Cx) (σ : List (Option V)) (H1 H2 : Hp) : Prop := ∃ (s1 : Shared) (pins : List (Addr × Obj)), Inv X pins σ H1 s1 ∧ H2 = pinH (capA X.env.cells) s1.heap H1
theorem lamr_of {X : Cx} {σ : List (Option V)} {H1 H2 : Hp} {T : List (Addr × Str)} {Nl psl fr : List Str} {js : List Nat} {params : Arguments} {body : Expr} {scope : Scope} {f c' : Addr} {k : Nat} {tb : TE} {pre : List V → Prop} {post : List V → V → Prop} {J : Hp → Prop}
    (C : PinC X σ H1 H2) (hf : H1 f = some (LamO f ⟨X.env.qual ++ "<lambda>", params, body, scope, cloFrom X.env.cells scope.names [], c'⟩)) (hc : H1 c' = some (LamX.CodeO c' (X.env.qual ++ "<lambda>")))
    (S : NdefX.NScope Nl psl fr scope) (hdf : NdefX.ndefB X.env.scope scope fr = true) (hjs : js.map (fun j => X.N[j]?) = fr.map some) (hlen : ∀ vs, pre vs → vs.length = psl.length)
    (hbind : ∀ (q : Str) (cl : List (Str × Addr)) (pm cv ctv : Value) (us : List Value), us.length = psl.length → bindArgs (PySem.W.kla_fn "<lambda>" q params body scope cl pm cv ctv) ⟨us, []⟩ = pure (psl.zip us))
    (st : ∀ H H', ExtM H H' → J H → J H') (hJ : J H1)
    (hbody : ∀ (A : Around) (outer : List Env) (s : Shared) (H : Hp) (cl : List (Str × Addr)), Room k (A.deeper (NdefX.envF (LF.nf ⟨X.env.qual ++ "<lambda>", params, body, scope, cl, c'⟩) f s.heap.objs.size)) → PE (NdefX.ncx CX0 X.prog X.w X.K X.mg X.base Nl (LF.nf ⟨X.env.qual ++ "<lambda>", params, body, scope, cl, c'⟩) f A outer s H E0) body tb)
    (hb : ∀ (vs : List V) (H' : Hp), pre vs → J H' → LamX.Tabs T H' → tb (NdefX.startF Nl vs (js.map (NdefX.slotAt σ))) H' (fun u H'' => LamX.ExtN H' H'' ∧ LamX.Tabs T H'' ∧ post vs u)) :
    LamR X.prog X.w X.K X.mg X.base T (k + 1) f pre post H2 := by
  obtain ⟨s1, pins, I1, rfl⟩ := C
  have C1 := NdefX.cells_of (js := js) I1 (NdefX.Caps.made I1.ok (NdefX.ndef_free hdf) (NdefX.ndef_fr hdf) hjs)
  exact lamr_run (L := ⟨X.env.qual ++ "<lambda>", params, body, scope, cloFrom X.env.cells scope.names [], c'⟩) S hlen (fun pm ctv us hu => hbind _ _ _ _ _ us hu) C1 (fun b h => by
    obtain ⟨y, e⟩ := capA_in h
    exact capA_of (NdefX.clo_cm (fun y hy e => (NdefX.ndef_free hdf y hy e).elim (fun z => I1.ok.has _ (.inl z)) fun z => I1.ok.has _ (.inr z)) e)) (fun b h => by
    obtain ⟨y, e⟩ := capA_in h
    exact I1.freeC y b e) hf hc st hJ hb (fun A outer s H hr2 => hbody A outer s H _ hr2)
/-- a call while which the frame's cells stand pinned -/
def tCallPin (X : Cx) (T : List (Addr × Str)) (sp : Sp) (t : L2.TA) : TE := fun σ H Q => t σ H fun vs H1 => ∀ H2, PinC X σ H1 H2 → Same H1 H2 → sp vs H2 (fun u H3 => LamX.ExtN H2 H3 ∧ LamX.Tabs T H3 ∧ ∀ H4, LamX.ExtN H1 H4 → LamX.Tabs T H4 → ExtE H3 H4 → Q u H4) E0
theorem pe_callPin {X : Cx} {T : List (Addr × Str)} {g : Addr} {kg : Nat} {gd : FuncData} {psg : List Str} {sp : Sp} {x : Str} {e1 : Expr} {es : List Expr} {t : L2.TA} {p pos : Pos}
    (G : FnOk X.prog X.w X.K X.mg X.base CX0 kg g gd psg sp) (hr : Room kg X.A) (hg : Gl X x) (hm : X.mg x = some (.ref g)) (hk : PySem.W.keepIn X.K (.ref g) = true) (hb : Binds X.K gd psg []) (hfn : ∀ y, X.fn y = true) (ha : PA X (e1 :: es) t)
    (hdb : (x == ("__debug__" : Str)) = false := by decide) (he : starEach (e1 :: es) X.env = (false, eval e1 X.env) :: starEach es X.env := by rfl) (hpl : (backTo pos (starEach es X.env)).any (·.1) = false := by rfl) :
    PE X (.Call (.Name x p) (e1 :: es) [] pos) (tCallPin X T sp t) := by
  refine ⟨fun pins s σ H Q I h => wpAny_Call_Name_kw (ld_glob I hg hm ?_ hdb)⟩
  refine PySem.W.callWith_K (h₀ := X.base) I.ok.mod.kin hk (thn (ha.run pos pins s σ H _ I h) fun us s1 ⟨vs, H1, I1, r, q⟩ => ⟨I1.kIn, ?_⟩) he hpl
  have hcl : ∀ b ∈ capA X.env.cells, ∃ v, s1.heap.IsCell b v := fun b hb => by
    obtain ⟨y, e⟩ := capA_in hb
    exact I1.cell y b e
  have hnone : ∀ b ∈ capA X.env.cells, H1 b = none ∧ ∃ o, s1.heap.get? b = some o := fun b hb => by
    obtain ⟨y, e⟩ := capA_in hb
    obtain ⟨v, o, ho, _⟩ := I1.cell y b e
    exact ⟨I1.freeC y b e, o, ho⟩
  have big : ∀ b ∈ capA X.env.cells, X.s_0.heap.objs.size ≤ b := fun b hb => by
    obtain ⟨y, e⟩ := capA_in hb
    exact I1.ok.cab y b (hfn y) e
  have nfr : ∀ b ∈ capA X.env.cells, b ∉ frs X.stack := fun b hb z => by
    obtain ⟨y, e⟩ := capA_in hb
    rcases List.mem_cons.mp (I1.stkSub b z) with e' | e'
    · exact I1.cne y b e e'
    · obtain ⟨_, o, ho, _⟩ := I1.ok.funs.mem e'
      exact absurd (Nat.lt_of_lt_of_le (Heap.lt_size ho) (big b hb)) (Nat.lt_irrefl _)
  have out : ∀ b, H1 b = none → b ∉ capA X.env.cells → pinH (capA X.env.cells) s1.heap H1 b = none := fun b e n => by rw [pinH_out n]; exact e
  have sm : Same H1 (pinH (capA X.env.cells) s1.heap H1) := fun b o e => by
    rw [pinH_out fun z => by rw [(hnone b z).1] at e; cases e]
    exact e
  have eb := I1.env0
  have e0 : Env0 X.prog X.w X.K X.mg X.base X.A X.stack s1 (pinH (capA X.env.cells) s1.heap H1) := ⟨eb.frames, eb.mod, fun b o e => ⟨(eb.bs b o e).1, out b (eb.bs b o e).2 fun z => absurd (Nat.lt_of_lt_of_le (Heap.lt_size e) (Nat.le_trans I1.ok.bsz (big b z))) (Nat.lt_irrefl _)⟩, eb.bsz, eb.funs,
    fun b hb => out b (eb.frf b hb) fun z => nfr b z hb, hok_pin eb.hok (fun b hb => (hnone b hb).1) (fun b hb => (hnone b hb).2), eb.bare⟩
  have hsp := q _ ⟨s1, pins, I1, rfl⟩ sm
  have hlen := G.len _ _ _ _ hsp
  show wpAny _ _ (call (.ref g) us) _ _ _
  have hbd := hb s1 us I1.kIn (by rw [List.append_nil, ← r.length]; exact hlen)
  rw [List.append_nil] at hbd
  refine wpAny_call (codeAny_mono (G.run X.A X.stack s1 _ ⟨us, []⟩ us vs _ E0 hr e0 hbd r hsp) fun rs s2 hq => ?_)
  cases rs with
  | error e => exact (show False from hq).elim
  | ok fl =>
    cases fl with
    | next => exact False.elim hq
    | brk => exact False.elim hq
    | cont => exact False.elim hq
    | ret u =>
      obtain ⟨v, H3, os, bare, un, hok, rv, sm3, t3, q4⟩ := hq
      have held : ∀ b ∈ capA X.env.cells, ∃ o, s1.heap.get? b = some o ∧ s2.heap.get? b = some o ∧ H3 b = some (PinO b o) := fun b hb => by
        obtain ⟨o, ho⟩ := (hnone b hb).2
        have e := sm3 _ _ (pinH_in (H := H1) hb ho) (fun ps z => by cases z)
        obtain ⟨z, _⟩ := hok b _ e
        exact ⟨o, ho, z, e⟩
      have nin : ∀ b o, H1 b = some o → b ∉ capA X.env.cells := fun b o e z => by
        rw [(hnone b z).1] at e
        cases e
      have smF : LamX.ExtN H1 (dropH (capA X.env.cells) H3) := fun b o e n => by
        rw [dropH_out (nin b o e)]
        exact sm3 _ _ (sm _ _ e) n
      have tF : LamX.Tabs T (dropH (capA X.env.cells) H3) := by
        refine tabs_drop t3 (fun b hb ps z => ?_) fun b hb q' => ?_
        · obtain ⟨o, _, _, e⟩ := held b hb
          rw [e] at z
          cases z
        · obtain ⟨v, o, ho, hd⟩ := hcl b hb
          obtain ⟨o', h1, h2, _⟩ := held b hb
          rw [ho] at h1
          cases h1
          exact cell_code hok ⟨o, h2, hd⟩
      refine I1.after ⟨v, dropH (capA X.env.cells) H3, os, bare, ⟨fun b o e n nf nx => ?_, fun b o e n nf nx => ?_, fun b o e n nx => ?_, un.there, fun b xs e => smF _ _ e (fun _ z => by cases z), fun b o u e => smF _ _ e (fun _ z => by cases z), fun b qs e => ?_⟩, hok_drop hok fun b hb u eu => ?_, rv, q4 _ smF tF fun b o e n => ?_⟩
      · by_cases hb : b ∈ capA X.env.cells
        · obtain ⟨o', h1, h2, _⟩ := held b hb
          rw [e] at h1
          cases h1
          exact h2
        · exact un.keep b o e (out b n hb) nf nx
      · by_cases hb : b ∈ capA X.env.cells
        · exact absurd nf (nfr b hb)
        · exact un.slot b o e (out b n hb) nf nx
      · by_cases hb : b ∈ capA X.env.cells
        · exact dropH_in hb
        · rw [dropH_out hb]
          exact un.free b o e (out b n hb) nx
      · obtain ⟨more, z⟩ := un.tbls b qs (sm _ _ e)
        exact ⟨more, by rw [dropH_out (nin b _ e)]; exact z⟩
      · obtain ⟨o, _, _, e'⟩ := held b hb
        rw [e'] at eu
        cases eu
        exact ⟨_, rfl⟩
      · rw [dropH_out fun z => ?_]
        · exact e
        · obtain ⟨o', _, _, e'⟩ := held b z
          rw [e'] at e
          cases e
          exact n _ rfl
end OPLR
def top (i : Nat) : Stmt := PySem.Challenge.pw_uponboth_k62_definitions_one_by_one.main.body.getD i (.Pass ⟨0, 0, 0, 0⟩)
structure Blt (mg : Str → Option Value) : Prop where
  len : mg "len" = none
  list : mg "list" = none
  tuple : mg "tuple" = none
  dict : mg "dict" = none
  bool : mg "bool" = none
  isinstance : mg "isinstance" = none
  max : mg "max" = none
  min : mg "min" = none
  range : mg "range" = none
  all : mg "all" = none
  sorted : mg "sorted" = none
  enumerate : mg "enumerate" = none
  sum : mg "sum" = none
  str : mg "str" = none
  int : mg "int" = none
/-- the state of the draws: a list of ints, a place, a rest, a seed -/
def Rng (H : Hp) (r : Addr) : Prop := ∃ (c : Addr) (ns : List Int) (i b s : Int), H r = some (.lst [.ref c, .int i, .int b, .int s]) ∧ H c = some (.lst (ns.map V.int)) ∧ c ≠ r ∧ 0 ≤ i ∧ 0 ≤ b ∧ 0 ≤ s ∧ s < 2147483647
theorem Rng.lst {H : Hp} {r : Addr} (h : Rng H r) : ∃ ys, H r = some (.lst ys) := by
  obtain ⟨c, ns, i, b, s, h, _⟩ := h
  exact ⟨_, h⟩
theorem Rng.same {H H' : Hp} {r : Addr} (e : Same H H') (h : Rng H r) : Rng H' r := by
  obtain ⟨c, ns, i, b, s, h1, h2, h3⟩ := h
  exact ⟨c, ns, i, b, s, e _ _ h1, e _ _ h2, h3⟩
theorem cut63 {ns : List Int} : cutV (ns.map V.int) none (some 63) = (ns.take 63).map V.int := by
  unfold cutV
  rw [HT.sIx_none, show HT.sIx (ns.map V.int).length (ns.map V.int).length (some 63) = min 63 (ns.map V.int).length from HT.sIx_nat _ _ 63]
  rw [List.drop_zero, Nat.sub_zero, List.map_take]
  rcases Nat.le_total 63 (ns.map V.int).length with h | h
  · rw [Nat.min_eq_left h]
  · rw [Nat.min_eq_right h, List.take_of_length_le (Nat.le_refl _), List.take_of_length_le h]
def spDraws (K : PySem.W.Frag) : Sp := fun vs H Q _ => ∃ (a : Addr) (ns : List Int), vs = [.ref a] ∧ SqL K H a (ns.map V.int) ∧ ∀ (r : Addr) (H' : Hp), Same H H' → H r = none → Rng H' r → Q (.ref r) H'
def spDraw : Sp := fun vs H Q _ => ∃ (r : Addr) (n : Int), vs = [.ref r, .int n] ∧ Rng H r ∧ 0 < n ∧ n < 1073741824 ∧ ∀ (v : Int) (H' : Hp), 0 ≤ v → v < n → Rng H' r → But r H H' → Q (.int v) H'
theorem fn_none {P : Program} {w : World} {K : PySem.W.Frag} {mg : Str → Option Value} {base : Heap} {f : Addr} {fd : FuncData} {CX : CXT} {ps : List Str} {sp : Sp} {k : Nat} (no : ∀ vs H Q E, ¬ sp vs H Q E) : FnOk P w K mg base CX k f fd ps sp :=
  ⟨fun vs H Q E h => absurd h (no vs H Q E), fun A outer s H args us vs Q E _ _ _ _ h => absurd h (no vs H Q E)⟩
def spTerm (K : PySem.W.Frag) (n : Nat) : Sp := fun vs H Q _ => ∃ (r : Addr) (many : Int) (k : Nat), k < n ∧ vs = [.ref r, .int many, .int (2 ^ k)] ∧ k ≤ 6 ∧ 1 ≤ many ∧ many ≤ 2 ^ k ∧ Rng H r ∧
  ∀ (v : V) (t : Tree) (H' : Hp), TA K H' v t → (t.sz : Int) = many → t.dp ≤ k → Rng H' r → But r H H' → Q v H'
def spComb (K : PySem.W.Frag) : Sp := fun vs H Q _ => ∃ (m : Int) (b : Bool), vs = [.int m, .bl b] ∧ 1 ≤ m ∧ m ≤ 40 ∧
  ∀ (v : V) (t : Tree) (H' : Hp), TA K H' v t → (t.sz : Int) = m → (t.dp : Int) = m - 1 → Same H H' → Q v H'
def spAny (K : PySem.W.Frag) : Sp := fun vs H Q _ => ∃ (r : Addr) (top : Int), vs = [.ref r, .int top] ∧ 1 ≤ top ∧ top ≤ 64 ∧ Rng H r ∧
  ∀ (v : V) (t : Tree) (H' : Hp), TA K H' v t → (t.sz : Int) ≤ top → t.dp ≤ 6 → Rng H' r → But r H H' → Q v H'
/-- a def over one tree that gives g of it and makes nothing that stays -/
def spTree (K : PySem.W.Frag) (g : Tree → V) (n : Nat) : Sp := fun vs H Q _ => ∃ (v : V) (t : Tree), vs = [v] ∧ TA K H v t ∧ t.dp < n ∧ n ≤ 40 ∧ ∀ H', Same H H' → Q (g t) H'
theorem spTree_no {K : PySem.W.Frag} {g : Tree → V} : ∀ vs H Q E, ¬ spTree K g 0 vs H Q E := fun vs H Q E h => by
  obtain ⟨v, t, _, _, h, _⟩ := h
  omega
def spIsPair (K : PySem.W.Frag) : Sp := fun vs H Q _ => ∃ (v : V) (t : Tree), vs = [v] ∧ TA K H v t ∧ Q (.bl (!t.isL)) H
def spOkTerm (K : PySem.W.Frag) (g : V) : Sp := fun vs H Q _ => ∃ (v : V) (t : Tree), vs = [v] ∧ TA K H v t ∧ t.sz ≤ 12 ∧ t.dp ≤ 6 ∧ ∀ H', Same H H' → Q g H'
/-- an item of the pile: a term and how deep it stands -/
def Item (K : PySem.W.Frag) (H : Hp) (p : V × Tree × Nat) : Prop := ∃ (a : Addr) (u : V), p.1 = .ref a ∧ SqT K H a [u, .int p.2.2] ∧ TA K H u p.2.1 ∧ p.2.2 + p.2.1.dp ≤ 6
theorem Item.mono {K : PySem.W.Frag} {H H' : Hp} (e : Tp H H') {p : V × Tree × Nat} (h : Item K H p) : Item K H' p := by
  obtain ⟨a, u, h1, h2, h3, h4⟩ := h
  exact ⟨a, u, h1, e.sqT h2, ta_mono e h3, h4⟩
def szs (ps : List (V × Tree × Nat)) : Nat := (ps.map fun p => p.2.1.sz).sum
def nds (ps : List (V × Tree × Nat)) : Nat := (ps.map fun p => p.2.1.nodes).sum
theorem szs_snoc (ps : List (V × Tree × Nat)) (p) : szs (ps ++ [p]) = szs ps + p.2.1.sz := by
  unfold szs
  rw [List.map_append, List.sum_append]
  simp
theorem nds_snoc (ps : List (V × Tree × Nat)) (p) : nds (ps ++ [p]) = nds ps + p.2.1.nodes := by
  unfold nds
  rw [List.map_append, List.sum_append]
  simp
theorem szs_len : ∀ ps : List (V × Tree × Nat), ps.length ≤ szs ps
  | [] => Nat.zero_le _
  | p :: ps => by
    have h := szs_len ps
    have h2 := p.2.1.sz_pos
    show ps.length + 1 ≤ (p.2.1.sz :: ps.map fun p => p.2.1.sz).sum
    rw [List.sum_cons]
    unfold szs at h
    omega
structure Cst (mg : Str → Option Value) : Prop where
  MAX_SIZE : ∃ t, mg "MAX_SIZE" = some (.int 12 t)
  MAX_DEPTH : ∃ t, mg "MAX_DEPTH" = some (.int 6 t)
def spOkTree (K : PySem.W.Frag) (g : Tree → V) : Sp := fun vs H Q _ => ∃ (v : V) (t : Tree), vs = [v] ∧ TA K H v t ∧ t.sz ≤ 12 ∧ t.dp ≤ 6 ∧ ∀ H', Same H H' → Q (g t) H'
def Tree.spine : Tree → List Tree
  | .L => [.L]
  | .N l r => .N l r :: l.spine
def spSpine (K : PySem.W.Frag) : Sp := fun vs H Q _ => ∃ (v : V) (t : Tree), vs = [v] ∧ TA K H v t ∧ t.sz ≤ 12 ∧ t.dp ≤ 6 ∧ ∀ (p : Addr) (vs : List V) (H' : Hp), Same H H' → H p = none → H' p = some (.lst vs) → DpAll K H' vs (t.spine.map Tree.d) → Q (.ref p) H'
theorem dpAll_snoc {K : PySem.W.Frag} {H : Hp} : ∀ {vs : List V} {ds : List PyData} {v : V} {d : PyData}, DpAll K H vs ds → Dp K H v d → DpAll K H (vs ++ [v]) (ds ++ [d])
  | _, _, _, _, .nil, h => .cons h .nil
  | _, _, _, _, .cons h1 h2, h => .cons h1 (dpAll_snoc h2 h)
theorem dpAll_len {K : PySem.W.Frag} {H : Hp} : ∀ {vs : List V} {ds : List PyData}, DpAll K H vs ds → vs.length = ds.length
  | _, _, .nil => rfl
  | _, _, .cons _ h2 => congrArg (· + 1) (dpAll_len h2)
theorem dpAll_at {K : PySem.W.Frag} {H : Hp} : ∀ {vs : List V} {ds : List PyData}, DpAll K H vs ds → ∀ (i : Nat) (d : PyData), ds[i]? = some d → ∃ v, vs[i]? = some v ∧ Dp K H v d
  | _, _, .nil, i, d, e => by simp at e
  | _, _, .cons h1 h2, 0, d, e => ⟨_, rfl, by cases e; exact h1⟩
  | _, _, .cons h1 h2, i + 1, d, e => dpAll_at h2 i d e
theorem dpAll_tp {K : PySem.W.Frag} {H H' : Hp} (e : Tp H H') : ∀ {ts : List Tree} {vs : List V}, DpAll K H vs (ts.map Tree.d) → DpAll K H' vs (ts.map Tree.d)
  | [], _, h => by
    cases h
    exact .nil
  | t :: ts, _, h => by
    cases h with
    | cons h1 h2 => exact .cons (ta_mono e h1) (dpAll_tp e h2)
theorem Tree.spine_len : ∀ t : Tree, t.spine.length ≤ t.dp + 1
  | .L => Nat.le_refl _
  | .N l r => by
    have h := spine_len l
    show l.spine.length + 1 ≤ max l.dp r.dp + 1 + 1
    omega
theorem Tree.spine_mem : ∀ {t u : Tree}, u ∈ t.spine → u.dp ≤ t.dp
  | .L, u, h => by
    cases List.mem_singleton.mp h
    exact Nat.le_refl _
  | .N l r, u, h => by
    rcases List.mem_cons.mp h with e | h
    · rw [e]
      exact Nat.le_refl _
    · have h2 := spine_mem h
      show u.dp ≤ max l.dp r.dp + 1
      omega
theorem Tree.spine_self : ∀ t : Tree, t ∈ t.spine
  | .L => List.mem_singleton.mpr rfl
  | .N _ _ => List.mem_cons_self
/-- the walk down the left: at p stands the list of what was met, its last one is still to be looked at -/
def Spn (K : PySem.W.Frag) (H H' : Hp) (p : Addr) (t : Tree) (m : Nat) : Prop := ∃ (vs : List V) (u : V) (ts : List Tree) (t' : Tree), Same H H' ∧ H' p = some (.lst (vs ++ [u])) ∧ DpAll K H' vs (ts.map Tree.d) ∧ TA K H' u t' ∧ ts ++ t'.spine = t.spine ∧ m = t'.nodes
theorem Spn.dp {t t' : Tree} {ts : List Tree} (et : ts ++ t'.spine = t.spine) (hd : t.dp ≤ 6) : t'.dp ≤ 63 := by
  have h : t' ∈ t.spine := by
    rw [← et]
    exact List.mem_append_right _ t'.spine_self
  have := Tree.spine_mem h
  omega
theorem Spn.lt {K : PySem.W.Frag} {H' : Hp} {vs : List V} {u : V} {t t' : Tree} {ts : List Tree} (hA : DpAll K H' vs (ts.map Tree.d)) (et : ts ++ t'.spine = t.spine) (hd : t.dp ≤ 6) : (vs ++ [u]).length < sizeLine := by
  have h1 := dpAll_len hA
  have h2 := congrArg List.length et
  have h3 := t.spine_len
  rw [List.length_map] at h1
  rw [List.length_append] at h2
  rw [List.length_append, List.length_singleton]
  exact small1000 (by omega)
theorem Spn.next {K : PySem.W.Frag} {H H' : Hp} {p p5 b : Addr} {vs : List V} {x1 x2 : V} {t l r : Tree} {ts : List Tree} (hp0 : H p = none) (sm : Same H H') (s5 : Same H' (upd H' p5 (.tup []))) (hl : H' p = some (.lst (vs ++ [.ref b]))) (hA : DpAll K H' vs (ts.map Tree.d)) (hS : SqT K H' b [x1, x2]) (hL : TA K H' x1 l) (hR : TA K H' x2 r)
    (et : ts ++ (Tree.N l r).spine = t.spine) : Spn K H (upd (upd H' p5 (.tup [])) p (.lst ((vs ++ [.ref b]) ++ [x1]))) p t l.nodes := by
  have tp : Tp H' (upd (upd H' p5 (.tup [])) p (.lst ((vs ++ [.ref b]) ++ [x1]))) := (Tp.same s5).trans (Tp.but (s5 _ _ hl) But.set)
  refine ⟨vs ++ [.ref b], x1, ts ++ [.N l r], l, fun c o e => ?_, upd_same, ?_, ta_mono tp hL, ?_, rfl⟩
  · rw [upd_ne (ne_of_none e hp0)]
    exact s5 _ _ (sm _ _ e)
  · rw [List.map_append]
    exact dpAll_snoc (dpAll_tp tp hA) (ta_node (tp.sqT hS) (ta_mono tp hL) (ta_mono tp hR))
  · rw [List.append_assoc]
    exact et
/-! ### data and their built-in types -/
def tn : PyData → String
  | .none => "NoneType"
  | .bool _ => "bool"
  | .int _ => "int"
  | .str _ => "str"
  | .list _ => "list"
  | .tuple _ => "tuple"
  | .dict _ => "dict"
def isT : PyData → Bool
  | .tuple _ => true
  | _ => false
def isLs : PyData → Bool
  | .list _ => true
  | _ => false
def isB : PyData → Bool
  | .bool _ => true
  | _ => false
theorem dp_ty {K : PySem.W.Frag} {H : Hp} {x : V} {d : PyData} (h : Dp K H x d) : TyX K H x (.type (tn d)) := by
  cases h with
  | non => exact .base .non
  | bl b => exact .base (.bl b)
  | int i => exact .base (.int i)
  | str z => exact .base (.str z)
  | lst hs _ => exact tyx_lst hs
  | tup hs _ => exact tyx_tup hs
theorem kit_dict {K : PySem.W.Frag} {H : Hp} {x : V} {d : PyData} (h : Dp K H x d) : PySem.W.kitOne K (.type (tn d)) (.type "dict") = some false := by
  cases h with
  | non => exact kit_ty (show kitB "NoneType" "dict" = some false by decide +kernel)
  | bl _ => exact kit_ty (show kitB "bool" "dict" = some false by decide +kernel)
  | int _ => exact kit_ty (show kitB "int" "dict" = some false by decide +kernel)
  | str _ => exact kit_ty (show kitB "str" "dict" = some false by decide +kernel)
  | lst _ _ => exact kit_ty (show kitB "list" "dict" = some false by decide +kernel)
  | tup _ _ => exact kit_ty (show kitB "tuple" "dict" = some false by decide +kernel)
theorem kit_tuple {K : PySem.W.Frag} {H : Hp} {x : V} {d : PyData} (h : Dp K H x d) : PySem.W.kitOne K (.type (tn d)) (.type "tuple") = some (isT d) := by
  cases h with
  | non => exact kit_ty (show kitB "NoneType" "tuple" = some false by decide +kernel)
  | bl _ => exact kit_ty (show kitB "bool" "tuple" = some false by decide +kernel)
  | int _ => exact kit_ty (show kitB "int" "tuple" = some false by decide +kernel)
  | str _ => exact kit_ty (show kitB "str" "tuple" = some false by decide +kernel)
  | lst _ _ => exact kit_ty (show kitB "list" "tuple" = some false by decide +kernel)
  | tup _ _ => exact kit_ty (show kitB "tuple" "tuple" = some true by decide +kernel)
theorem kit_list {K : PySem.W.Frag} {H : Hp} {x : V} {d : PyData} (h : Dp K H x d) : PySem.W.kitOne K (.type (tn d)) (.type "list") = some (isLs d) := by
  cases h with
  | non => exact kit_ty (show kitB "NoneType" "list" = some false by decide +kernel)
  | bl _ => exact kit_ty (show kitB "bool" "list" = some false by decide +kernel)
  | int _ => exact kit_ty (show kitB "int" "list" = some false by decide +kernel)
  | str _ => exact kit_ty (show kitB "str" "list" = some false by decide +kernel)
  | lst _ _ => exact kit_ty (show kitB "list" "list" = some true by decide +kernel)
  | tup _ _ => exact kit_ty (show kitB "tuple" "list" = some false by decide +kernel)
theorem kit_bool {K : PySem.W.Frag} {H : Hp} {x : V} {d : PyData} (h : Dp K H x d) : PySem.W.kitOne K (.type (tn d)) (.type "bool") = some (isB d) := by
  cases h with
  | non => exact kit_ty (show kitB "NoneType" "bool" = some false by decide +kernel)
  | bl _ => exact kit_ty (show kitB "bool" "bool" = some true by decide +kernel)
  | int _ => exact kit_ty (show kitB "int" "bool" = some false by decide +kernel)
  | str _ => exact kit_ty (show kitB "str" "bool" = some false by decide +kernel)
  | lst _ _ => exact kit_ty (show kitB "list" "bool" = some false by decide +kernel)
  | tup _ _ => exact kit_ty (show kitB "tuple" "bool" = some false by decide +kernel)
theorem kit_seq {K : PySem.W.Frag} {H : Hp} {x : V} {d : PyData} (h : Dp K H x d) : PySem.W.kitAny K (.type (tn d)) [.type "tuple", .type "list"] = some (isT d || isLs d) := by
  refine kitAny_cons (kit_tuple h) (fun e => kitAny_cons (kit_list h) (fun e2 => ?_) (fun e2 => ?_)) (fun e => ?_)
  · rw [e, e2]
    exact kitAny_nil
  · rw [e, e2]
    rfl
  · rw [e]
    rfl
mutual
/-- no list or tuple in it is longer than 1000 -/
def wide : PyData → Bool
  | .list xs | .tuple xs => decide (xs.length ≤ 1000) && wideAll xs
  | .none | .bool _ | .int _ | .str _ | .dict _ => true
def wideAll : List PyData → Bool
  | [] => true
  | x :: xs => wide x && wideAll xs
end
/-- two data that are the same are told to be the same -/
def spSame (K : PySem.W.Frag) (n : Nat) : Sp := fun vs H Q _ => ∃ (x y : V) (d : PyData), vs = [x, y] ∧ Dp K H x d ∧ Dp K H y d ∧ SeqAt.shaped d = true ∧ d.depth < n ∧ wide d = true ∧ ∀ H', Same H H' → Q (.bl true) H'
theorem shaped_at {ds : List PyData} {d : PyData} (hc : PyData.canLayAll0 ds = true) (hm : d ∈ ds) : d.canLay0 = true := by
  induction ds with
  | nil => cases hm
  | cons a r ih =>
    have h' : a.canLay0 = true ∧ PyData.canLayAll0 r = true := by simpa [PyData.canLayAll0] using hc
    rcases List.mem_cons.mp hm with e | hm
    · rw [e]
      exact h'.1
    · exact ih h'.2 hm
theorem depth_at {ds : List PyData} {d : PyData} (hm : d ∈ ds) : d.depth ≤ PyData.depthAll ds := by
  induction ds with
  | nil => cases hm
  | cons a r ih =>
    show d.depth ≤ max a.depth (PyData.depthAll r)
    rcases List.mem_cons.mp hm with e | hm
    · rw [e]
      omega
    · have := ih hm
      omega
theorem wide_at {ds : List PyData} {d : PyData} (hc : wideAll ds = true) (hm : d ∈ ds) : wide d = true := by
  induction ds with
  | nil => cases hm
  | cons a r ih =>
    have h' : wide a = true ∧ wideAll r = true := by simpa [wideAll] using hc
    rcases List.mem_cons.mp hm with e | hm
    · rw [e]
      exact h'.1
    · exact ih h'.2 hm
theorem all_rep : ∀ n : Nat, (List.replicate n true).all id = true
  | 0 => rfl
  | n + 1 => all_rep n
def spLaw (K : PySem.W.Frag) : Sp := fun vs H Q _ => ∃ (a : Addr) (ns : List Int), vs = [.ref a] ∧ SqL K H a (ns.map V.int) ∧ ∀ H', Q (.bl true) H'
/-! ### texts of trees -/
namespace Tree
def cs : Tree → List Nat
  | L => [120]
  | N l r => 40 :: (l.cs ++ (r.cs ++ [41]))
def txt (t : Tree) : Str := ⟨t.cs.toArray⟩
theorem cs_len : ∀ t : Tree, t.cs.length + 2 = 3 * t.sz
  | L => rfl
  | N l r => by
    have h1 := cs_len l
    have h2 := cs_len r
    show (40 :: (l.cs ++ (r.cs ++ [41]))).length + 2 = 3 * (l.sz + r.sz)
    rw [List.length_cons, List.length_append, List.length_append, List.length_singleton]
    omega
theorem txt_len (t : Tree) : t.txt.length = t.cs.length := by
  show t.cs.toArray.size = _
  simp
theorem txtN (l r : Tree) : (((Str.ofString "(" ++ l.txt) ++ r.txt) ++ Str.ofString ")") = (N l r).txt := by
  show (⟨((#[40] ++ l.cs.toArray) ++ r.cs.toArray) ++ #[41]⟩ : Str) = ⟨(40 :: (l.cs ++ (r.cs ++ [41]))).toArray⟩
  congr 1
  apply Array.toList_inj.mp
  simp
theorem txtL : Str.ofString "x" = L.txt := rfl
end Tree
def spText (K : PySem.W.Frag) (n : Nat) : Sp := fun vs H Q _ => ∃ (v : V) (t : Tree), vs = [v] ∧ TA K H v t ∧ t.dp < n ∧ n ≤ 40 ∧ t.sz ≤ 1000 ∧ ∀ H', Same H H' → Q (.str t.txt) H'
theorem spText_no {K : PySem.W.Frag} : ∀ vs H Q E, ¬ spText K 0 vs H Q E := fun vs H Q E h => by
  obtain ⟨v, t, _, _, h, _⟩ := h
  omega
theorem fits {n : Nat} (h : n ≤ 10000) : n ≤ sizeLine := Nat.le_trans h (by decide)
/-- the reader's pile: the lists of operands that are open, the innermost first -/
def room (ts : List Tree) (rest : List (List Tree)) : Nat := if rest.length = 0 then 1 else 2
def stp : List (List Tree) → Nat → Option (List (List Tree))
  | [], _ => none
  | ts :: rest, c => if c = 120 then (if ts.length < room ts rest then some ((ts ++ [.L]) :: rest) else none)
    else if c = 40 then (if ts.length < room ts rest then some ([] :: ts :: rest) else none)
    else if c = 41 then (match ts, rest with
      | [a, b], us :: more => some ((us ++ [.N a b]) :: more)
      | _, _ => none)
    else none
theorem stp_x (ts : List Tree) (rest : List (List Tree)) : stp (ts :: rest) 120 = if ts.length < room ts rest then some ((ts ++ [.L]) :: rest) else none := rfl
theorem stp_o (ts : List Tree) (rest : List (List Tree)) : stp (ts :: rest) 40 = if ts.length < room ts rest then some ([] :: ts :: rest) else none := rfl
theorem stp_c (ts : List Tree) (rest : List (List Tree)) : stp (ts :: rest) 41 = (match ts, rest with
      | [a, b], us :: more => some ((us ++ [.N a b]) :: more)
      | _, _ => none) := rfl
theorem stp_else (ts : List Tree) (rest : List (List Tree)) {c : Nat} (h1 : c ≠ 120) (h2 : c ≠ 40) (h3 : c ≠ 41) : stp (ts :: rest) c = none := by
  show (if c = 120 then _ else if c = 40 then _ else if c = 41 then _ else none) = none
  rw [if_neg h1, if_neg h2, if_neg h3]
def rn : List (List Tree) → List Nat → Option (List (List Tree))
  | st, [] => some st
  | st, c :: cs => (stp st c).bind fun st' => rn st' cs
theorem rn_tree : ∀ (t : Tree) (ts : List Tree) (rest : List (List Tree)) (more : List Nat), ts.length < room ts rest → rn (ts :: rest) (t.cs ++ more) = rn ((ts ++ [t]) :: rest) more
  | .L, ts, rest, more, h => by
    show (stp (ts :: rest) 120).bind (fun st' => rn st' more) = _
    rw [stp_x, if_pos h]
    rfl
  | .N l r, ts, rest, more, h => by
    have e : (Tree.N l r).cs ++ more = 40 :: (l.cs ++ (r.cs ++ (41 :: more))) := by
      show (40 :: (l.cs ++ (r.cs ++ [41]))) ++ more = _
      simp
    rw [e]
    show (stp (ts :: rest) 40).bind (fun st' => rn st' (l.cs ++ (r.cs ++ (41 :: more)))) = _
    have e1 : stp (ts :: rest) 40 = some ([] :: ts :: rest) := by
      rw [stp_o, if_pos h]
    rw [e1]
    show rn ([] :: ts :: rest) (l.cs ++ (r.cs ++ (41 :: more))) = _
    rw [rn_tree l [] (ts :: rest) _ (by show 0 < if (ts :: rest).length = 0 then 1 else 2; rw [if_neg (by simp)]; decide)]
    rw [rn_tree r _ (ts :: rest) _ (by show 1 < if (ts :: rest).length = 0 then 1 else 2; rw [if_neg (by simp)]; decide)]
    rfl
theorem rn_all (t : Tree) : rn [[]] t.cs = some [[t]] := by
  have h := rn_tree t [] [] [] (by decide)
  rw [List.append_nil] at h
  rw [h]
  rfl
theorem tlen {t : Tree} (h : t.sz ≤ 1000) : t.txt.length ≤ 3000 := by
  have h1 := t.cs_len
  have h2 := t.txt_len
  omega
theorem slen (a b : Str) : (a ++ b).length = a.length + b.length := by
  show (a.cps ++ b.cps).size = a.cps.size + b.cps.size
  simp
def spOkText (K : PySem.W.Frag) : Sp := fun vs H Q _ => ∃ (v : V) (t : Tree), vs = [v] ∧ TA K H v t ∧ t.sz ≤ 12 ∧ t.dp ≤ 6 ∧ ∀ H', Same H H' → Q (.str t.txt) H'
def spRoom : Sp := fun vs H Q _ => ∃ (p a : Addr) (as : List Addr) (ws : List V), vs = [.ref p] ∧ H p = some (.lst ((as ++ [a]).map V.ref)) ∧ H a = some (.lst ws) ∧ as.length ≤ 10000 ∧ ws.length ≤ 10000 ∧ Q (.bl (decide ((ws.length : Int) < if as.length = 0 then 1 else 2))) H
/-- reading the text of a tree gives the tree -/
def spRead (K : PySem.W.Frag) : Sp := fun vs H Q _ => ∃ t : Tree, vs = [.str t.txt] ∧ t.sz ≤ 1000 ∧ ∀ (v : V) (H' : Hp), TA K H' v t → Same H H' → Q v H'
def spParse (K : PySem.W.Frag) : Sp := fun vs H Q _ => ∃ t : Tree, vs = [.str t.txt] ∧ t.sz ≤ 12 ∧ t.dp ≤ 6 ∧ ∀ (v : V) (H' : Hp), TA K H' v t → Same H H' → Q v H'
inductive Pile (K : PySem.W.Frag) (G : Hp) : List Addr → List (List Tree) → Prop
  | nil : Pile K G [] []
  | cons {a : Addr} {vs : List V} {ts : List Tree} {as : List Addr} {st : List (List Tree)} : G a = some (.lst vs) → DpAll K G vs (ts.map Tree.d) → Pile K G as st → Pile K G (a :: as) (ts :: st)
theorem Pile.mono {K : PySem.W.Frag} {G G' : Hp} (tp : Tp G G') : ∀ {as : List Addr} {st : List (List Tree)}, (∀ a ∈ as, ∀ o, G a = some o → G' a = some o) → Pile K G as st → Pile K G' as st
  | _, _, _, .nil => .nil
  | _, _, k, .cons h1 h2 h3 => .cons (k _ List.mem_cons_self _ h1) (dpAll_tp tp h2) (Pile.mono tp (fun a ha => k a (List.mem_cons_of_mem _ ha)) h3)
/-- the pile at p, all of it new since H -/
def PileAt (K : PySem.W.Frag) (H G : Hp) (p : Addr) (st : List (List Tree)) : Prop := ∃ as : List Addr, G p = some (.lst (as.reverse.map V.ref)) ∧ as.Nodup ∧ p ∉ as ∧ H p = none ∧ (∀ a ∈ as, H a = none) ∧ Pile K G as st
theorem cs_small : ∀ (t : Tree) (c : Nat), c ∈ t.cs → c < 128
  | .L, c, h => by
    rw [List.mem_singleton.mp h]
    decide
  | .N l r, c, h => by
    have h : c ∈ 40 :: (l.cs ++ (r.cs ++ [41])) := h
    rcases List.mem_cons.mp h with e | h
    · rw [e]
      decide
    rcases List.mem_append.mp h with h | h
    · exact cs_small l c h
    rcases List.mem_append.mp h with h | h
    · exact cs_small r c h
    · rw [List.mem_singleton.mp h]
      decide
theorem txt_ok (t : Tree) : PyData.strOk t.txt = true := by
  show t.cs.toArray.all (· < 0x110000) = true
  rw [Array.all_eq_true']
  intro c hc
  have h := cs_small t c (by simpa using hc)
  exact decide_eq_true (by omega)
/-! ### the twenty errors of the law's words -/
def enames : List Str := ["InvalidTerm", "InvalidText", "InvalidPath", "PathNotFound", "NotRewritable", "TooLarge", "InvalidSize", "InvalidIndex", "InvalidWord", "InvalidStep", "InvalidElement", "InvalidModel", "NestingTooDeep", "InvalidLabel", "DuplicateName", "UnknownName", "LimitReached", "InvalidCommand", "EmptyHistory", "InvalidSnapshot"]
def en (i : Nat) : Str := enames.getD i ""
/-- where their classes stand -/
def Errs (mg : Str → Option Value) (cl : Nat → Addr) : Prop := ∀ i, i < 20 → mg (en i) = some (.ref (cl i))
/-- D's word is the j-th -/
structure Isw (K : PySem.W.Frag) (cl : Nat → Addr) (D : Addr) (j : Nat) : Prop where
  lt : j < 20
  kit : ∀ i, i < 20 → PySem.W.kitOne K (.ref D) (.ref (cl i)) = some (decide (i = j))
/-- the state between two rows: a list of n pairs -/
def NmI (H0 : Hp) (xh : Addr) (j n : Nat) (σ : L2.St) (H : Hp) : Prop := ∃ (L : Addr) (ps : List Addr), σ = [some (.ref xh), some (.ref L), none, none] ∧ Same H0 H ∧ ps.length = n ∧ H L = some (.lst (ps.map V.ref)) ∧
  ∀ i p, ps[i]? = some p → H p = some (.tup [.str (en i), .bl (decide (i = j))])
def tIs (K : PySem.W.Frag) (D xh c : Addr) : TE := fun σ H Q => tCons (tVar 0) (tCons (tC (.ref c)) tNil) σ H fun vs H1 => rIsB K D xh vs H1 Q
def tPr (K : PySem.W.Frag) (D xh : Addr) (cl : Nat → Addr) (i : Nat) : TE := tTup (tCons (tC (.str (en i))) (tCons (tIs K D xh (cl i)) tNil))
theorem tPr_ok {K : PySem.W.Frag} {D xh : Addr} {cl : Nat → Addr} {i j : Nat} {σ : L2.St} {H : Hp} {Q : VK} (hj : Isw K cl D j) (hi : i < 20) (e : σ[0]? = some (some (.ref xh))) (q : ∀ p, H p = none → Q (.ref p) (upd H p (.tup [.str (en i), .bl (decide (i = j))]))) : tPr K D xh cl i σ H Q := by
  exact ⟨_, e, _, _, _, rfl, .own _, hj.kit i hi, two_le, q⟩
theorem pairs_new {H0 H : Hp} {xh : Addr} {j n : Nat} {ps : List Addr} {p1 p2 : Addr} (hl : ps.length = n) (hp : ∀ i p, ps[i]? = some p → H p = some (.tup [.str (en i), .bl (decide (i = j))])) (n1 : H p1 = none)
    (n2 : upd H p1 (.tup [.str (en n), .bl (decide (n = j))]) p2 = none) :
    ∀ i p, (ps ++ [p1, p2])[i]? = some p → upd (upd H p1 (.tup [.str (en n), .bl (decide (n = j))])) p2 (.tup [.str (en (n + 1)), .bl (decide (n + 1 = j))]) p = some (.tup [.str (en i), .bl (decide (i = j))]) := by
  intro i p e
  have s1 := Same.new n1 (.tup [.str (en n), .bl (decide (n = j))])
  have s2 := Same.new n2 (.tup [.str (en (n + 1)), .bl (decide (n + 1 = j))])
  rcases Nat.lt_or_ge i ps.length with lt | ge
  · rw [List.getElem?_append_left lt] at e
    exact s2 _ _ (s1 _ _ (hp i p e))
  · rw [List.getElem?_append_right ge] at e
    obtain ⟨k, rfl⟩ : ∃ k, i = n + k := ⟨i - n, by omega⟩
    rw [show n + k - ps.length = k by omega] at e
    match k, e with
    | 0, e => cases e; exact s2 _ _ upd_same
    | 1, e => cases e; exact upd_same
theorem two_pr {K : PySem.W.Frag} {D xh : Addr} {cl : Nat → Addr} {i j : Nat} {σ : L2.St} {H : Hp} {Q : VK} (hj : Isw K cl D j) (hi : i + 1 < 20) (e : σ[0]? = some (some (.ref xh)))
    (q : ∀ p1 p2 L, H p1 = none → upd H p1 (.tup [.str (en i), .bl (decide (i = j))]) p2 = none → upd (upd H p1 (.tup [.str (en i), .bl (decide (i = j))])) p2 (.tup [.str (en (i + 1)), .bl (decide (i + 1 = j))]) L = none →
      Q (.ref L) (upd (upd (upd H p1 (.tup [.str (en i), .bl (decide (i = j))])) p2 (.tup [.str (en (i + 1)), .bl (decide (i + 1 = j))])) L (.lst [.ref p1, .ref p2]))) :
    tLst (tCons (tPr K D xh cl i) (tCons (tPr K D xh cl (i + 1)) tNil)) σ H Q := by
  show tPr K D xh cl i σ H (fun x H1 => tPr K D xh cl (i + 1) σ H1 fun y H2 => [x, y].length ≤ sizeLine ∧ ∀ p, H2 p = none → Q (.ref p) (upd H2 p (.lst [x, y])))
  refine tPr_ok hj (by omega) e fun p1 n1 => ?_
  refine tPr_ok hj hi e fun p2 n2 => ?_
  exact ⟨two_le, fun L nL => q p1 p2 L n1 n2 nL⟩
theorem nm_first {K : PySem.W.Frag} {D xh : Addr} {cl : Nat → Addr} {j : Nat} {H : Hp} {nx : L2.St → Hp → Prop} (hj : Isw K cl D j) (q : ∀ σ' H', NmI H xh j 2 σ' H' → nx σ' H') :
    tLst (tCons (tPr K D xh cl 0) (tCons (tPr K D xh cl 1) tNil)) [some (.ref xh), none, none, none] H fun x H1 => gName 1 x [some (.ref xh), none, none, none] H1 nx := by
  refine two_pr (i := 0) hj (by decide) rfl fun p1 p2 L n1 n2 nL => ?_
  have s3 := Same.new nL (.lst [.ref p1, .ref p2])
  exact q _ _ ⟨L, [p1, p2], rfl, ((Same.new n1 _).trans (Same.new n2 _)).trans s3, rfl, upd_same, fun i p e => s3 _ _ (pairs_new (ps := []) (n := 0) (H0 := H) (xh := xh) rfl (fun i p e => nomatch e) n1 n2 i p e)⟩
theorem nm_step {K : PySem.W.Frag} {D xh : Addr} {cl : Nat → Addr} {j n : Nat} {H0 H : Hp} {σ : L2.St} {nx : L2.St → Hp → Prop} (hj : Isw K cl D j) (hn : n + 1 < 20) (I : NmI H0 xh j n σ H) (q : ∀ σ' H', NmI H0 xh j (n + 2) σ' H' → nx σ' H') :
    tVar 1 σ H fun x H1 => (tLst (tCons (tPr K D xh cl n) (tCons (tPr K D xh cl (n + 1)) tNil))) σ H1 fun y H2 => rCat x y H2 fun z H3 => gName 1 z σ H3 nx := by
  obtain ⟨L, ps, rfl, sm, hl, hL, hp⟩ := I
  refine ⟨_, rfl, ?_⟩
  refine two_pr hj hn rfl fun p1 p2 b n1 n2 nb => ?_
  have s1 := (Same.new n1 (.tup [.str (en n), .bl (decide (n = j))])).trans (Same.new n2 (.tup [.str (en (n + 1)), .bl (decide (n + 1 = j))]))
  have s2 := Same.new nb (.lst [.ref p1, .ref p2])
  refine ⟨L, b, _, _, rfl, rfl, s2 _ _ (s1 _ _ hL), upd_same, ?_, fun r nr => ?_⟩
  · rw [List.length_map, hl]
    have : 100 ≤ sizeLine := by decide
    show n + 2 ≤ sizeLine
    omega
  · have s3 := Same.new nr (.lst (ps.map V.ref ++ [.ref p1, .ref p2]))
    refine q _ _ ⟨r, ps ++ [p1, p2], rfl, ((sm.trans s1).trans s2).trans s3, by rw [List.length_append, hl]; rfl, by rw [upd_same, List.map_append]; rfl, fun i p e => s3 _ _ (s2 _ _ (pairs_new (H0 := H) (xh := xh) hl hp n1 n2 i p e))⟩
theorem pe_no {X : Cx} {e : Expr} : PE X e (fun _ _ _ => False) := ⟨fun _ _ _ _ _ _ h => h.elim⟩
/-- a word without a field -/
def plainErr (j : Nat) : Bool := decide (j < 20) && !([1, 9, 17, 14, 15, 5, 19].contains j)
theorem plain_in3 : ∀ j, j < 20 → plainErr j = true → inV (.str (en j)) [.str (en 1), .str (en 9), .str (en 17)] = false := by decide +kernel
theorem plain_in2 : ∀ j, j < 20 → plainErr j = true → inV (.str (en j)) [.str (en 14), .str (en 15)] = false := by decide +kernel
theorem plain_big : ∀ j, j < 20 → plainErr j = true → decide (V.str (en j) = V.str (en 5)) = false := by decide +kernel
theorem plain_row : ∀ j, j < 20 → plainErr j = true → decide (V.str (en j) = V.str (en 19)) = false := by decide +kernel
theorem plain_lt {j : Nat} (h : plainErr j = true) : j < 20 := by
  unfold plainErr at h
  rw [Bool.and_eq_true] at h
  exact of_decide_eq_true h.1
theorem FnB.mono {P : Program} {w : World} {K : PySem.W.Frag} {mg : Str → Option Value} {base : Heap} {j k : Nat} {f : Addr} {fd : FuncData} {ps : List Str} {sp : Addr → Value → Option Addr → Sp} (F : FnB P w K mg base j f fd ps sp) (h : j ≤ k) : FnB P w K mg base k f fd ps sp :=
  fun A outer s H args us vs Q xh oh hr => F A outer s H args us vs Q xh oh (hr.mono h)
/-- the law's promise, its table empty -/
def spLawT (K : PySem.W.Frag) (Pt : Addr) : Sp := fun vs H Q _ => ∃ (a : Addr) (ns : List Int), vs = [.ref a] ∧ SqL K H a (ns.map V.int) ∧ H Pt = some (.tbl #[]) ∧ ∀ H', Q (.bl true) H'
/-- a def that may raise, with the context told -/
theorem Fun.okN {P : Program} {w : World} {K : PySem.W.Frag} {mg : Str → Option Value} {base : Heap} {x qual : Str} {st : Stmt} {f : Addr} {fd : FuncData} {N ps : List Str} {k : Nat} {sp : Sp} (F : L2.Fun K x qual st f fd) (S : FnScope N ps (defScope st)) (len : ∀ vs H Q E, sp vs H Q E → vs.length = ps.length)
    (hbody : ∀ (cdv : Value) (A : Around) (outer : List Env) (s : Shared) (H : Hp) (vs : List V) (Q : VK) (E : XK), Room k (A.deeper (PyProof.Rows.envOfC qual (defScope st) s.heap.objs.size f cdv)) → sp vs H Q E →
      ∃ t, PSs (cxOf (L2N.CX P w) P w K mg base N qual (defScope st) f cdv A outer s H E) (defBody st) t ∧ t { nx := fun _ H' => Q .non H', rt := Q } (L2.start N vs) H) : FnOk P w K mg base (L2N.CX P w) (k + 1) f fd ps sp := by
  obtain ⟨oc, od, kV, doc, pm, an, cdv, ct, osl, rfl, lk, hcd⟩ := F.ex
  exact fn_of lk hcd S len fun A outer s H vs Q E hr hsp => hbody cdv A outer s H vs Q E hr hsp
/-- what a raise of the class wants -/
structure ErrC (K : PySem.W.Frag) (mg : Str → Option Value) (x : Str) (C : Addr) : Prop where
  q : PySem.W.excIn K C [.type "ValueError", .type "Exception", .type "BaseException", .type "object"] "ValueError.__new__" = true
  g : mg x = some (.ref C)
  k : PySem.W.keepIn K (.ref C) = true
  b : PySem.W.subIn K (.ref C) (.type "BaseException") = some true
  t : PySem.W.typeIn K (.ref C) = some (.type "type")
theorem passF {X : Cx} : Passes (L2N.CX X.prog X.w) X (fun _ _ _ => False) := fun _ _ _ _ _ _ _ ⟨_, _, _, _, _, _, _, _, _, _, _, _, z⟩ => z.elim
theorem passL {X : Cx} {A : Around} {outer : List Env} {s : Shared} {H : Hp} {E : XK} {scope : Scope} {f c : Addr} : Passes (L2N.CX X.prog X.w) (lamCxN X A outer s H E scope f c) E :=
  L2N.passes_call (X := lamCxN X A outer s H E scope f c) (W := fun cls d _ H => E cls d H) (L2N.takes_of rfl rfl rfl rfl) fun _ _ _ _ h => h
theorem fourV {a b c d : V} : ([a, b, c, d] : List V).length ≤ sizeLine := by show 4 ≤ sizeLine; decide
theorem fiveV {a b c d e : V} : ([a, b, c, d, e] : List V).length ≤ sizeLine := by show 5 ≤ sizeLine; decide
theorem tabs_set {T : List (Addr × Str)} {H H' : Hp} {D : Addr} {xs : List V} (t : LamX.Tabs T H) (hD : H D = some (.lst xs)) (e : ∀ b o, b ≠ D → H b = some o → H' b = some o) : LamX.Tabs T H' := fun p hp => by
  obtain ⟨ps, h1, h2, h3⟩ := t p hp
  refine ⟨ps, e _ _ (fun z => by rw [z, hD] at h1; cases h1) h1, h2, fun pos cv ec => ?_⟩
  obtain ⟨c, rfl, hc⟩ := h3 pos cv ec
  exact ⟨c, rfl, e _ _ (fun z => by rw [z, hD] at hc; cases hc) hc⟩
theorem passD {P : Program} {w : World} {K : PySem.W.Frag} {mg : Str → Option Value} {base : Heap} {N : List Str} {q : Str} {sc : Scope} {f : Addr} {cdv : Value} {A : Around} {outer : List Env} {s : Shared} {H : Hp} {E : XK} : Passes (L2N.CX P w) (cxOf (L2N.CX P w) P w K mg base N q sc f cdv A outer s H E) E :=
  L2N.passes_call (X := cxOf (L2N.CX P w) P w K mg base N q sc f cdv A outer s H E) (W := fun cls d _ H => E cls d H) (L2N.takes_of rfl rfl rfl rfl) fun _ _ _ _ h => h
/-! ### nested tuples of any form -/
mutual
def tupD : PyData → Bool
  | .tuple xs => tupL xs
  | .none | .bool _ | .int _ | .str _ | .list _ | .dict _ => false
def tupL : List PyData → Bool
  | [] => true
  | x :: xs => tupD x && tupL xs
end
mutual
def ndD : PyData → Nat
  | .tuple xs => ndL xs + 1
  | .none | .bool _ | .int _ | .str _ | .list _ | .dict _ => 1
def ndL : List PyData → Nat
  | [] => 0
  | x :: xs => ndD x + ndL xs
end
def add2 : Option Nat → Option Nat → Option Nat
  | some a, some b => some (a + b)
  | _, _ => none
theorem add2_none (o : Option Nat) : add2 o none = none := by cases o <;> rfl
theorem add2_assoc (a b c : Option Nat) : add2 (add2 a b) c = add2 a (add2 b c) := by
  cases a <;> cases b <;> cases c <;> first | rfl | exact congrArg some (Nat.add_assoc _ _ _)
theorem add2_zero (a : Option Nat) : add2 a (some 0) = a := by cases a <;> rfl
/-- how many generators, where the depth is at most b -/
def szD : Nat → PyData → Option Nat
  | _, .tuple [] => some 1
  | b + 1, .tuple [x, y] => add2 (szD b x) (szD b y)
  | _, _ => none
def okd (d : PyData) : Bool := match szD 6 d with
  | some n => decide (n ≤ 12)
  | none => false
def isPr : PyData → Bool
  | .tuple [_, _] => true
  | _ => false
def isE : PyData → Bool
  | .tuple [] => true
  | _ => false
theorem eqvE {d : PyData} (h : tupD d = true) : PyData.eqv d (.tuple []) = isE d := by
  cases d with
  | tuple xs => cases xs <;> rfl
  | none => exact absurd h (by decide)
  | bool _ => exact absurd h (by simp [tupD])
  | int _ => exact absurd h (by simp [tupD])
  | str _ => exact absurd h (by simp [tupD])
  | list _ => exact absurd h (by simp [tupD])
  | dict _ => exact absurd h (by simp [tupD])
theorem szD_E (b : Nat) : szD b (.tuple []) = some 1 := by cases b <;> rfl
theorem szD_pr (b : Nat) (x y : PyData) : szD (b + 1) (.tuple [x, y]) = add2 (szD b x) (szD b y) := rfl
theorem szD_bad {b : Nat} {d : PyData} (h1 : isE d = false) (h2 : isPr d = false ∨ b = 0) : szD b d = none := by
  cases d with
  | tuple xs =>
    match xs, b, h1, h2 with
    | [], _, h1, _ => exact absurd h1 (by decide)
    | [x, y], 0, _, _ => rfl
    | [x, y], b + 1, _, .inl h => exact Bool.noConfusion h
    | [x], 0, _, _ => rfl
    | [x], b + 1, _, _ => rfl
    | x :: y :: z :: r, 0, _, _ => rfl
    | x :: y :: z :: r, b + 1, _, _ => rfl
  | none => cases b <;> rfl
  | bool _ => cases b <;> rfl
  | int _ => cases b <;> rfl
  | str _ => cases b <;> rfl
  | list _ => cases b <;> rfl
  | dict _ => cases b <;> rfl
def rem : List (V × PyData × Nat) → Option Nat
  | [] => some 0
  | p :: ps => add2 (szD (6 - p.2.2) p.2.1) (rem ps)
theorem rem_app : ∀ ps qs : List (V × PyData × Nat), rem (ps ++ qs) = add2 (rem ps) (rem qs)
  | [], qs => by
    show rem qs = add2 (some 0) (rem qs)
    cases rem qs with
    | none => rfl
    | some n => exact congrArg some (Nat.zero_add n).symm
  | p :: ps, qs => by
    show add2 (szD (6 - p.2.2) p.2.1) (rem (ps ++ qs)) = add2 (add2 (szD (6 - p.2.2) p.2.1) (rem ps)) (rem qs)
    rw [rem_app ps qs, add2_assoc]
theorem rem_snoc (ps : List (V × PyData × Nat)) (p : V × PyData × Nat) : rem (ps ++ [p]) = add2 (rem ps) (szD (6 - p.2.2) p.2.1) := by
  rw [rem_app]
  show add2 (rem ps) (add2 _ (some 0)) = _
  rw [add2_zero]
def fnl (n : Nat) : Option Nat → Bool
  | some m => decide (n + m ≤ 12)
  | none => false
theorem fnl_one (n : Nat) (o : Option Nat) : fnl n (add2 o (some 1)) = fnl (n + 1) o := by
  cases o with
  | none => rfl
  | some m =>
    show decide (n + (m + 1) ≤ 12) = decide (n + 1 + m ≤ 12)
    rw [show n + (m + 1) = n + 1 + m by omega]
theorem fnl_big {n : Nat} (h : 12 < n) (o : Option Nat) : fnl n o = false := by
  cases o with
  | none => rfl
  | some m => exact decide_eq_false (by omega)
theorem okd_fnl (v : V) (d : PyData) : okd d = fnl 0 (rem [(v, d, 0)]) := by
  show okd d = fnl 0 (add2 (szD 6 d) (some 0))
  rw [add2_zero]
  unfold okd
  cases szD 6 d with
  | none => rfl
  | some n =>
    show decide (n ≤ 12) = decide (0 + n ≤ 12)
    rw [Nat.zero_add]
def ndn (ps : List (V × PyData × Nat)) : Nat := (ps.map fun p => ndD p.2.1).sum
theorem ndn_snoc (ps : List (V × PyData × Nat)) (p) : ndn (ps ++ [p]) = ndn ps + ndD p.2.1 := by
  unfold ndn
  rw [List.map_append, List.sum_append]
  simp
theorem ndD_pos : ∀ d : PyData, 0 < ndD d := by
  intro d
  cases d with
  | tuple xs => exact Nat.succ_pos _
  | none => decide
  | bool _ => exact Nat.one_pos
  | int _ => exact Nat.one_pos
  | str _ => exact Nat.one_pos
  | list _ => exact Nat.one_pos
  | dict _ => exact Nat.one_pos
theorem ndn_len : ∀ ps : List (V × PyData × Nat), ps.length ≤ ndn ps
  | [] => Nat.zero_le _
  | p :: ps => by
    have h := ndn_len ps
    have h2 := ndD_pos p.2.1
    show ps.length + 1 ≤ (ndD p.2.1 :: ps.map fun p => ndD p.2.1).sum
    rw [List.sum_cons]
    unfold ndn at h
    omega
/-- a value that is a nested tuple -/
structure NT (K : PySem.W.Frag) (H : Hp) (v : V) (d : PyData) : Prop where
  dp : Dp K H v d
  tup : tupD d = true
  shp : SeqAt.shaped d = true
mutual
theorem dp_tp {K : PySem.W.Frag} {H H' : Hp} (e : Tp H H') : ∀ (d : PyData) {v : V}, tupD d = true → Dp K H v d → Dp K H' v d
  | .tuple ds, _, t, h => by
    cases h with
    | tup hs ha => exact .tup (e.sqT hs) (dpAll_tpD e ds t ha)
  | .none, _, t, _ => absurd t (by decide)
  | .bool _, _, t, _ => absurd t (by simp [tupD])
  | .int _, _, t, _ => absurd t (by simp [tupD])
  | .str _, _, t, _ => absurd t (by simp [tupD])
  | .list _, _, t, _ => absurd t (by simp [tupD])
  | .dict _, _, t, _ => absurd t (by simp [tupD])
theorem dpAll_tpD {K : PySem.W.Frag} {H H' : Hp} (e : Tp H H') : ∀ (ds : List PyData) {vs : List V}, tupL ds = true → DpAll K H vs ds → DpAll K H' vs ds
  | [], _, _, h => by
    cases h
    exact .nil
  | d :: ds, _, t, h => by
    have t' : tupD d = true ∧ tupL ds = true := Bool.and_eq_true_iff.mp t
    cases h with
    | cons h1 h2 => exact .cons (dp_tp e d t'.1 h1) (dpAll_tpD e ds t'.2 h2)
end
theorem NT.tp {K : PySem.W.Frag} {H H' : Hp} {v : V} {d : PyData} (e : Tp H H') (h : NT K H v d) : NT K H' v d := ⟨dp_tp e d h.tup h.dp, h.tup, h.shp⟩
theorem NT.inv {K : PySem.W.Frag} {H : Hp} {v : V} {d : PyData} (h : NT K H v d) : ∃ a xs ds, v = .ref a ∧ d = .tuple ds ∧ SqT K H a xs ∧ DpAll K H xs ds := by
  obtain ⟨h1, h2, _⟩ := h
  cases h1 with
  | tup hs ha => exact ⟨_, _, _, rfl, rfl, hs, ha⟩
  | non => exact absurd h2 (by decide)
  | bl b => exact absurd h2 (by simp [tupD])
  | int i => exact absurd h2 (by simp [tupD])
  | str z => exact absurd h2 (by simp [tupD])
  | lst _ _ => exact absurd h2 (by simp [tupD])
theorem shaped_sub {ds : List PyData} {d : PyData} (h : SeqAt.shaped (.tuple ds) = true) (hm : d ∈ ds) : SeqAt.shaped d = true := by
  have hc : PyData.canLayAll0 ds = true := SeqAt.canLay_of_shaped h
  have hd := SeqAt.depth_of_shaped h
  have hd' : (PyData.tuple ds).depth = PyData.depthAll ds + 1 := rfl
  have hdi := depth_at hm
  unfold SeqAt.shaped
  rw [shaped_at hc hm, decide_eq_true (by omega)]
  rfl
theorem NT.pr {K : PySem.W.Frag} {H : Hp} {v : V} {d : PyData} (h : NT K H v d) (hp : isPr d = true) : ∃ a x y d1 d2, v = .ref a ∧ d = .tuple [d1, d2] ∧ SqT K H a [x, y] ∧ NT K H x d1 ∧ NT K H y d2 := by
  obtain ⟨a, xs, ds, rfl, rfl, hS, hA⟩ := h.inv
  obtain ⟨d1, d2, rfl⟩ : ∃ d1 d2, ds = [d1, d2] := by
    rcases ds with _ | ⟨d1, _ | ⟨d2, _ | ⟨d3, r⟩⟩⟩
    · exact absurd hp (by simp [isPr])
    · exact absurd hp (by simp [isPr])
    · exact ⟨d1, d2, rfl⟩
    · exact absurd hp (by simp [isPr])
  cases hA with
  | cons h1 h2 =>
    cases h2 with
    | cons h2 h3 =>
      cases h3
      have t : (tupD d1 && (tupD d2 && true)) = true := h.tup
      have t1 := Bool.and_eq_true_iff.mp t
      have t2 := Bool.and_eq_true_iff.mp t1.2
      exact ⟨a, _, _, d1, d2, rfl, rfl, hS, ⟨h1, t1.1, shaped_sub h.shp (by simp)⟩, ⟨h2, t2.1, shaped_sub h.shp (by simp)⟩⟩
theorem tree_tup : ∀ t : Tree, tupD t.d = true
  | .L => rfl
  | .N l r => by
    show (tupD l.d && (tupD r.d && true)) = true
    rw [tree_tup l, tree_tup r]
    rfl
theorem tree_nd : ∀ t : Tree, ndD t.d = t.nodes
  | .L => rfl
  | .N l r => by
    show ndD l.d + (ndD r.d + 0) + 1 = l.nodes + r.nodes + 1
    rw [tree_nd l, tree_nd r]
    omega
theorem tree_nodes : ∀ t : Tree, t.nodes + 1 = 2 * t.sz
  | .L => rfl
  | .N l r => by
    have h1 := tree_nodes l
    have h2 := tree_nodes r
    show l.nodes + r.nodes + 1 + 1 = 2 * (l.sz + r.sz)
    omega
theorem tree_szD : ∀ (t : Tree) (b : Nat), szD b t.d = if t.dp ≤ b then some t.sz else none
  | .L, b => by
    show szD b (.tuple []) = if 0 ≤ b then some 1 else none
    rw [if_pos (Nat.zero_le _)]
    exact szD_E b
  | .N l r, 0 => by
    show none = if max l.dp r.dp + 1 ≤ 0 then some (l.sz + r.sz) else none
    rw [if_neg (by omega)]
  | .N l r, b + 1 => by
    show add2 (szD b l.d) (szD b r.d) = if max l.dp r.dp + 1 ≤ b + 1 then some (l.sz + r.sz) else none
    rw [tree_szD l b, tree_szD r b]
    by_cases h1 : l.dp ≤ b
    · by_cases h2 : r.dp ≤ b
      · rw [if_pos h1, if_pos h2, if_pos (by omega)]
        rfl
      · rw [if_neg h2, add2_none, if_neg (show ¬ (max l.dp r.dp + 1 ≤ b + 1) by omega)]
    · rw [if_neg h1, if_neg (show ¬ (max l.dp r.dp + 1 ≤ b + 1) by omega)]
      rfl
theorem tree_okd (t : Tree) : okd t.d = (decide (t.dp ≤ 6) && decide (t.sz ≤ 12)) := by
  unfold okd
  rw [tree_szD]
  by_cases h : t.dp ≤ 6
  · rw [if_pos h, decide_eq_true h]
    rfl
  · rw [if_neg h, decide_eq_false h]
    rfl
theorem szD_tree : ∀ (b : Nat) (d : PyData) (n : Nat), szD b d = some n → ∃ t : Tree, d = t.d ∧ t.sz = n ∧ t.dp ≤ b := by
  intro b
  induction b with
  | zero =>
    intro d n h
    by_cases e : isE d = true
    · cases d with
      | tuple xs =>
        cases xs with
        | nil => exact ⟨.L, rfl, Option.some.inj h, Nat.zero_le _⟩
        | cons _ _ => exact absurd e (by simp [isE])
      | none => exact absurd e (by simp [isE])
      | bool _ => exact absurd e (by simp [isE])
      | int _ => exact absurd e (by simp [isE])
      | str _ => exact absurd e (by simp [isE])
      | list _ => exact absurd e (by simp [isE])
      | dict _ => exact absurd e (by simp [isE])
    · rw [szD_bad (by simpa using e) (.inr rfl)] at h
      cases h
  | succ b ih =>
    intro d n h
    by_cases e : isE d = true
    · cases d with
      | tuple xs =>
        cases xs with
        | nil => exact ⟨.L, rfl, Option.some.inj h, Nat.zero_le _⟩
        | cons _ _ => exact absurd e (by simp [isE])
      | none => exact absurd e (by simp [isE])
      | bool _ => exact absurd e (by simp [isE])
      | int _ => exact absurd e (by simp [isE])
      | str _ => exact absurd e (by simp [isE])
      | list _ => exact absurd e (by simp [isE])
      | dict _ => exact absurd e (by simp [isE])
    · by_cases e2 : isPr d = true
      · cases d with
        | tuple xs =>
          match xs, e2, h with
          | [x, y], _, h =>
            have h0 : add2 (szD b x) (szD b y) = some n := h
            clear h
            cases h1 : szD b x with
            | none => rw [h1] at h0; cases h0
            | some m =>
              cases h2 : szD b y with
              | none => rw [h2, add2_none] at h0; cases h0
              | some k =>
                rw [h1, h2] at h0
                have h' : m + k = n := Option.some.inj h0
                obtain ⟨t1, rfl, q1, r1⟩ := ih x m h1
                obtain ⟨t2, rfl, q2, r2⟩ := ih y k h2
                exact ⟨.N t1 t2, rfl, by show t1.sz + t2.sz = n; omega, by show max t1.dp t2.dp + 1 ≤ b + 1; omega⟩
        | none => exact absurd e2 (by simp [isPr])
        | bool _ => exact absurd e2 (by simp [isPr])
        | int _ => exact absurd e2 (by simp [isPr])
        | str _ => exact absurd e2 (by simp [isPr])
        | list _ => exact absurd e2 (by simp [isPr])
        | dict _ => exact absurd e2 (by simp [isPr])
      · rw [szD_bad (by simpa using e) (.inl (by simpa using e2))] at h
        cases h
theorem okd_tree {d : PyData} (h : okd d = true) : ∃ t : Tree, d = t.d ∧ t.sz ≤ 12 ∧ t.dp ≤ 6 := by
  unfold okd at h
  cases e : szD 6 d with
  | none => rw [e] at h; cases h
  | some n =>
    rw [e] at h
    obtain ⟨t, h1, h2, h3⟩ := szD_tree 6 d n e
    exact ⟨t, h1, by rw [h2]; exact of_decide_eq_true h, h3⟩
theorem NT.of {K : PySem.W.Frag} {H : Hp} {v : V} {t : Tree} (h : TA K H v t) (hd : t.dp ≤ 63) : NT K H v t.d := ⟨h, tree_tup t, Tree.shaped hd⟩
def spIsPairD (K : PySem.W.Frag) : Sp := fun vs H Q _ => ∃ (v : V) (d : PyData), vs = [v] ∧ NT K H v d ∧ Q (.bl (isPr d)) H
def spIsTerm (K : PySem.W.Frag) : Sp := fun vs H Q _ => ∃ (v : V) (d : PyData), vs = [v] ∧ NT K H v d ∧ ndD d ≤ 1000 ∧ ∀ H', Same H H' → Q (.bl (okd d)) H'
/-- check_term: nothing, or the error -/
def spChk (K : PySem.W.Frag) (C : Addr) : Sp := fun vs H Q E => ∃ (v : V) (d : PyData), vs = [v] ∧ NT K H v d ∧ ndD d ≤ 1000 ∧ (okd d = true → ∀ H', Same H H' → Q .non H') ∧ (okd d = false → ∀ H', Same H H' → E (.ref C) none H')
def ItemD (K : PySem.W.Frag) (H : Hp) (p : V × PyData × Nat) : Prop := ∃ (a : Addr) (u : V), p.1 = .ref a ∧ SqT K H a [u, .int p.2.2] ∧ NT K H u p.2.1 ∧ p.2.2 ≤ 6
theorem ItemD.mono {K : PySem.W.Frag} {H H' : Hp} (e : Tp H H') {p : V × PyData × Nat} (h : ItemD K H p) : ItemD K H' p := by
  obtain ⟨a, u, h1, h2, h3, h4⟩ := h
  exact ⟨a, u, h1, e.sqT h2, h3.tp e, h4⟩
/-! ### picking -/
theorem But.sqL {K : PySem.W.Frag} {r l : Addr} {H H' : Hp} {xs : List V} (e : But r H H') (n : l ≠ r) (h : SqL K H l xs) : SqL K H' l xs := by
  rcases h with (h | ⟨o, h⟩) | h
  · exact .inl (.inl (e _ _ n h))
  · exact .inl (.inr ⟨o, e _ _ n h⟩)
  · exact .inr h
theorem But.sqT {K : PySem.W.Frag} {r l : Addr} {H H' : Hp} {xs : List V} (e : But r H H') (n : l ≠ r) (h : SqT K H l xs) : SqT K H' l xs := by
  rcases h with (h | ⟨o, h⟩) | h
  · exact .inl (.inl (e _ _ n h))
  · exact .inl (.inr ⟨o, e _ _ n h⟩)
  · exact .inr h
def spPick (K : PySem.W.Frag) : Sp := fun vs H Q _ => ∃ (r l : Addr) (xs : List V), vs = [.ref r, .ref l] ∧ Rng H r ∧ (SqL K H l xs ∨ SqT K H l xs) ∧ 0 < xs.length ∧ xs.length ≤ 10000 ∧ l ≠ r ∧ ∀ v H', v ∈ xs → Rng H' r → But r H H' → Q v H'
theorem rix_in {K : PySem.W.Frag} {H : Hp} {a : Addr} {xs : List V} {n : Int} {Q : VK} (h : SqL K H a xs ∨ SqT K H a xs) (h0 : 0 ≤ n) (h1 : n < xs.length) (q : ∀ v, v ∈ xs → Q v H) : rIx K (.ref a) (.int n) H Q := by
  have lt : n.toNat < xs.length := by omega
  obtain ⟨v, hi⟩ : ∃ v, xs[n.toNat]? = some v := ⟨_, List.getElem?_eq_getElem lt⟩
  have hq := q v (List.mem_of_getElem? hi)
  have e : atI xs n = some v := by
    have e : n = ((n.toNat : Nat) : Int) := by omega
    rw [e]
    exact atI_nat hi
  rcases h with h | h
  · exact .inl ⟨a, xs, n, v, rfl, rfl, h, e, hq⟩
  · exact .inr (.inl ⟨a, xs, n, v, rfl, rfl, h, e, hq⟩)
/-! ### written nested tuples -/
def Mk (K : PySem.W.Frag) (te : TE) (d : PyData) : Prop := ∀ σ H (Q : VK), (∀ v H', Same H H' → Dp K H' v d → Q v H') → te σ H Q
theorem mk0 {K : PySem.W.Frag} : Mk K (tTup tNil) (.tuple []) := fun σ H Q q => ⟨zero_le', fun p np => q _ _ (Same.new np _) (Dp.tup (SqT.here upd_same) .nil)⟩
theorem mk1 {K : PySem.W.Frag} {e : TE} {d : PyData} (h : Mk K e d) : Mk K (tTup (tCons e tNil)) (.tuple [d]) := fun σ H Q q =>
  h σ H _ fun v H1 s1 h1 => ⟨one_le, fun p np => q _ _ (s1.trans (Same.new np _)) (Dp.tup (SqT.here upd_same) (.cons (dp_same (Same.new np _) _ h1) .nil))⟩
theorem mk2 {K : PySem.W.Frag} {e1 e2 : TE} {d1 d2 : PyData} (h : Mk K e1 d1) (h' : Mk K e2 d2) : Mk K (tTup (tCons e1 (tCons e2 tNil))) (.tuple [d1, d2]) := fun σ H Q q =>
  h σ H _ fun v H1 s1 h1 => h' σ H1 _ fun v2 H2 s2 h2 => ⟨two_le, fun p np => q _ _ ((s1.trans s2).trans (Same.new np _)) (Dp.tup (SqT.here upd_same) (.cons (dp_same (s2.trans (Same.new np _)) _ h1) (.cons (dp_same (Same.new np _) _ h2) .nil)))⟩
theorem mk3 {K : PySem.W.Frag} {e1 e2 e3 : TE} {d1 d2 d3 : PyData} (h : Mk K e1 d1) (h' : Mk K e2 d2) (h'' : Mk K e3 d3) : Mk K (tTup (tCons e1 (tCons e2 (tCons e3 tNil)))) (.tuple [d1, d2, d3]) := fun σ H Q q =>
  h σ H _ fun v H1 s1 h1 => h' σ H1 _ fun v2 H2 s2 h2 => h'' σ H2 _ fun v3 H3 s3 h3 => ⟨by show 3 ≤ sizeLine; decide, fun p np => q _ _ (((s1.trans s2).trans s3).trans (Same.new np _)) (Dp.tup (SqT.here upd_same) (.cons (dp_same ((s2.trans s3).trans (Same.new np _)) _ h1) (.cons (dp_same (s3.trans (Same.new np _)) _ h2) (.cons (dp_same (Same.new np _) _ h3) .nil))))⟩
theorem lst5 {K : PySem.W.Frag} {e1 e2 e3 e4 e5 : TE} {d1 d2 d3 d4 d5 : PyData} (h1 : Mk K e1 d1) (h2 : Mk K e2 d2) (h3 : Mk K e3 d3) (h4 : Mk K e4 d4) (h5 : Mk K e5 d5) {i : Nat} {B : TS} {D : Ends} {σ : L2.St} {H : Hp}
    (q : ∀ a v1 v2 v3 v4 v5 H', Same H H' → H a = none → H' a = some (.lst [v1, v2, v3, v4, v5]) → DpAll K H' [v1, v2, v3, v4, v5] [d1, d2, d3, d4, d5] → B D (σ.set i (some (.ref a))) H') : tSeq (tAsg (tLst (tCons e1 (tCons e2 (tCons e3 (tCons e4 (tCons e5 tNil)))))) (gName i)) B D σ H :=
  h1 σ H _ fun v1 H1 s1 k1 => h2 σ H1 _ fun v2 H2 s2 k2 => h3 σ H2 _ fun v3 H3 s3 k3 => h4 σ H3 _ fun v4 H4 s4 k4 => h5 σ H4 _ fun v5 H5 s5 k5 => ⟨fiveV, fun a na => by
    have sa := Same.new na (.lst [v1, v2, v3, v4, v5])
    exact q a v1 v2 v3 v4 v5 _ (s1.trans (s2.trans (s3.trans (s4.trans (s5.trans sa))))) ((s1.trans (s2.trans (s3.trans (s4.trans s5)))).free na) upd_same
      (.cons (dp_same (s2.trans (s3.trans (s4.trans (s5.trans sa)))) _ k1) (.cons (dp_same (s3.trans (s4.trans (s5.trans sa))) _ k2) (.cons (dp_same (s4.trans (s5.trans sa)) _ k3) (.cons (dp_same (s5.trans sa) _ k4) (.cons (dp_same sa _ k5) .nil)))))⟩
/-- a value that no term is -/
def BadV (K : PySem.W.Frag) (H : Hp) (v : V) : Prop := ∃ d, NT K H v d ∧ ndD d ≤ 1000 ∧ okd d = false
theorem BadV.tp {K : PySem.W.Frag} {H H' : Hp} {v : V} (e : Tp H H') (h : BadV K H v) : BadV K H' v := by
  obtain ⟨d, h1, h2⟩ := h
  exact ⟨d, h1.tp e, h2⟩
def spBadT (K : PySem.W.Frag) : Sp := fun vs H Q _ => ∃ r : Addr, vs = [.ref r] ∧ Rng H r ∧ ∀ v H', BadV K H' v → Rng H' r → But r H H' → Q v H'
theorem BadV.tree {K : PySem.W.Frag} {H : Hp} {v : V} {t : Tree} (h : TA K H v t) (hd : t.dp ≤ 63) (hz : t.sz ≤ 100) (no : 6 < t.dp ∨ 12 < t.sz) : BadV K H v := by
  have e := tree_nodes t
  refine ⟨t.d, NT.of h hd, by rw [tree_nd]; omega, ?_⟩
  rw [tree_okd]
  rcases no with no | no
  · rw [decide_eq_false (by omega)]
    rfl
  · rw [decide_eq_false (show ¬ t.sz ≤ 12 by omega), Bool.and_false]
section OPN
open PySem.Spec PyProof.Rows
/-! ### t[::-1] -/
section
variable {prog : Program} {w : World} {A : Around} {E : Value → Shared → Prop} {s : Shared}
theorem sliceApplied_rev {sl : Addr} {vs : Value} {n : Nat} {Q : Int × Int × Nat → Shared → Prop} (hs : s.heap.IsSliceOf sl .none .none vs) (ps : IsPart vs (some (-1))) (h : Q ((n : Int) - 1, -1, n) s) : wpAny (model prog w) A (Builtin.Slice.sliceApplied (.ref sl) (pure (n : Int))) Q E s := by
  obtain ⟨os, hos, hcs, hds⟩ := id hs
  unfold Builtin.Slice.sliceApplied Builtin.Slice.sliceFields
  refine wpAny_bind (wpAny_bind (wpAny_field hos hds (x := .none) rfl (wpAny_bind (wpAny_field hos hds (x := .none) rfl (wpAny_bind (wpAny_field hos hds (x := vs) rfl (wpAny_pure ?_)))))))
  refine wpAny_bind (HT.slicePart_ ps ?_)
  show wpAny _ _ (if ((-1 : Int) == 0) = true then _ else _) _ _ s
  rw [if_neg (by decide)]
  refine wpAny_bind (HT.slicePart_ .none (wpAny_bind (HT.slicePart_ .none (wpAny_bind (wpAny_pure ?_)))))
  show wpAny _ _ (pure ((n : Int) - 1, (-1 : Int), Builtin.Slice.slicePlaces ((n : Int) - 1) (-1) (-1))) _ _ s
  have e : Builtin.Slice.slicePlaces ((n : Int) - 1) (-1) (-1) = n := by
    unfold Builtin.Slice.slicePlaces
    have h1 : ¬ ((-1 : Int) > 0) := by decide
    rw [if_neg h1, show (- -1 : Int) = 1 by decide]
    simp only [Int.ediv_one]
    split <;> omega
  rw [e]
  exact wpAny_pure h
theorem pick_rev (xs : Array Value) : ((List.range xs.size).filterMap fun (m : Nat) => xs[(((xs.size : Nat) : Int) - 1 + (m : Int) * -1).toNat]?).toArray = xs.toList.reverse.toArray := by
  congr 1
  rw [← PySem.W.krv_all xs, ← List.filterMap_reverse, ← PySem.W.krv_range, List.filterMap_map]
  have key : ∀ l : List Nat, (∀ m ∈ l, m < xs.size) → l.filterMap (fun (m : Nat) => xs[(((xs.size : Nat) : Int) - 1 + (m : Int) * -1).toNat]?) = l.filterMap ((fun x => xs[x]?) ∘ fun k => xs.size - 1 - k) := by
    intro l
    induction l with
    | nil => intro _; rfl
    | cons a r ih =>
      intro h
      have ha := h a List.mem_cons_self
      rw [List.filterMap_cons, List.filterMap_cons, ih fun m hm => h m (List.mem_cons_of_mem _ hm)]
      have e : (((xs.size : Nat) : Int) - 1 + (a : Int) * -1).toNat = xs.size - 1 - a := by omega
      rw [e]
      rfl
  exact key _ fun m hm => List.mem_range.mp hm
theorem getItem_tuple_rev {t sl : Addr} {items : Array Value} {vs : Value} {Q : Value → Shared → Prop} (ht : IsTup s.heap t items) (hs : s.heap.IsSliceOf sl .none .none vs) (ps : IsPart vs (some (-1)))
    (h : Q (.ref s.heap.objs.size) { s with heap := s.heap.push { cls := .type "tuple", data := .seq items.toList.reverse.toArray } })
    (hsz : items.size ≤ sizeLine) : wpAny (model prog w) A (getItem (.ref t) (.ref sl)) Q E s := by
  have htake : sizeOk (.seq items.toList.reverse.toArray) := by
    show items.toList.reverse.toArray.size ≤ sizeLine
    rw [List.size_toArray, List.length_reverse, Array.length_toList]
    exact hsz
  obtain ⟨os, hos, hcs, hds⟩ := id hs
  have hTs : s.TypeIs (.ref sl) "slice" := ⟨os, hos, hcs⟩
  unfold getItem
  try with_reducible refine wpAny_holding ?_
  first | refine wpAny_bind (wpAny_pure ?_) | skip
  refine wpAny_bind (wpAny_sequenceKey ht.typeIs (by decide) ?_)
  refine wpAny_bind (wpAny_callSpecial?_slot (name := Str.ofString "__getitem__") ht.typeIs PyProof.Rows.slot_tuple_getitem
    (wpAny_call_entry PyProof.Rows.slot_tuple_getitem ht.typeIs entry_tuple_getitem ?_ (args_tuple_getitem _ _)))
  show wpAny _ _ (Builtin.Tuple.tupleItemsOf (.ref t) >>= _) _ _ s
  refine wpAny_bind (tupleItemsOf_ ht ?_)
  refine wpAny_bind (wpAny_typeOf hTs ?_)
  rw [if_pos (by decide)]
  refine wpAny_bind (sliceApplied_rev hs ps ?_)
  have hno : ¬ ((((items.size : Nat) : Int) - 1 == 0 && (-1 : Int) == 1 && items.size == items.size) = true) := by
    intro q
    rw [Bool.and_eq_true, Bool.and_eq_true] at q
    exact absurd q.1.2 (by decide)
  show wpAny _ _ (if (((items.size : Nat) : Int) - 1 == 0 && (-1 : Int) == 1 && items.size == items.size) = true then _ else _) _ _ s
  rw [if_neg hno, pick_rev]
  first
    | exact wpAny_bind (m := Builtin.Tuple.tupleExact _) (wpAny_newObj_type (wpAny_pure ⟨_, rfl, wpAny_pure h⟩) htake)
    | exact wpAny_bind (m := Builtin.Tuple.tupleExact _) (wpAny_newObj_type (wpAny_bind (wpAny_pure (wpAny_pure ⟨_, rfl, wpAny_pure h⟩))) htake)
    | exact wpAny_bind (wpAny_bind (m := Builtin.Tuple.tupleExact _) (wpAny_newObj_type (wpAny_pure (wpAny_pure ⟨_, rfl, wpAny_pure h⟩)) htake))
    | exact wpAny_bind (wpAny_bind (m := Builtin.Tuple.tupleExact _) (wpAny_newObj_type (wpAny_pure ⟨_, rfl, wpAny_pure h⟩) htake))
end
def tRevT (K : PySem.W.Frag) (te : TE) : TE := fun σ H Q => te σ H fun x H1 => ∃ a xs, x = .ref a ∧ SqT K H1 a xs ∧ ∀ p, H1 p = none → Q (.ref p) (upd H1 p (.tup xs.reverse))
theorem pe_revT {X : Cx} {e : Expr} {te : TE} {k : Nat} {p1 p2 p3 pos : Pos} (he : PE X e te) : PE X (.Subscript e (.Slice none none (some (.UnaryOp .USub (.Constant (.int 1) k p1) p2)) p3) pos) (tRevT X.K te) := by
  refine ⟨fun pins s σ H Q I h => ?_⟩
  refine Subscript_ (thn (he.run pins s σ H _ I h) fun v s1 ⟨x, H1, I1, r1, q1⟩ => ?_)
  obtain ⟨a, xs, ex, hx, q⟩ := q1
  subst ex
  cases r1
  have hst : PO X (some (.UnaryOp .USub (.Constant (.int 1) k p1) p2)) (tPart (tUn (rU fun i => .int (-i)) (tC (.int 1)))) := po_some (pe_un un_neg pe_int)
  refine wpAny_Slice (thn (po_none.run pins s1 σ H1 (fun o H2 => o = none ∧ H2 = H1) I1 ⟨rfl, rfl⟩) fun vl s2 ⟨l, H2, I2, pl, el, e2⟩ => ?_)
  subst el e2
  refine thn (po_none.run pins s2 σ H2 (fun o H3 => o = none ∧ H3 = H2) I2 ⟨rfl, rfl⟩) fun vu s3 ⟨u, H3, I3, pu, eu, e3⟩ => ?_
  subst eu e3
  refine thn (hst.run pins s3 σ H3 (fun o H4 => o = some (-1) ∧ H4 = H3) I3 ⟨1, rfl, -1, rfl, rfl, rfl⟩) fun vs s4 ⟨o, H4, I4, ps, eo, e4⟩ => ?_
  subst eo e4
  cases pl
  cases pu
  have I5 : Inv X pins σ H4 { s4 with heap := s4.heap.push { cls := .type "slice", data := .fields #[.none, .none, vs] } } := I4.kept (t' := s4.toks) fun b ob q => Heap.get?_push_of_some _ q
  obtain ⟨its, r, ht, hz⟩ := I5.tuple hx
  have hlen := r.length
  show wpAny (model X.prog X.w) X.A (subscriptTail e (.Slice none none (some (.UnaryOp .USub (.Constant (.int 1) k p1) p2)) p3) (.ref a) (.ref s4.heap.objs.size)) (EP X pins σ Q) X.xe { s4 with heap := s4.heap.push { cls := .type "slice", data := .fields #[.none, .none, vs] } }
  refine tail_any (ops := [.ref a, .ref s4.heap.objs.size]) ht.typeIs (PyProof.Rows.slot_tuple_getitem.lookup) ?_ (by with_unfolding_all rfl)
  refine getItem_tuple_rev ht (Heap.IsSliceOf.new _ .none .none vs) ps ?_ (by rw [List.size_toArray]; omega)
  refine ⟨.ref _, _, I5.laid (t' := s4.toks) (o := .tup xs.reverse) (fun b ob q => Heap.get?_push_of_some _ q) (Nat.le_refl _) ?_, rfl, q _ (I5.hok.fresh (Nat.le_refl _))⟩
  exact ⟨by rw [List.length_reverse]; exact hz, _, r.reverse, IsTup.new _ _⟩
/-! ### comprehensions that map -/
theorem take_snoc {α : Type} {l : List α} {i : Nat} {x : α} (h : l[i]? = some x) : l.take (i + 1) = l.take i ++ [x] := by
  rw [List.take_add_one, h]
  rfl
section
variable {K : PySem.W.Frag} {a : Addr} {xs : List V} {ψ : V → V} {g : TG} {te : TE} {vs : List Nat} {σ : L2.St} {H1 : Hp} {D : Addr} {Qd : Hp → Prop}
theorem lc_mapT (hD : H1 D = none) (hS : SqT K H1 a xs) (hl : xs.length ≤ 10000)
    (hs : ∀ x G (R : V → Hp → Prop), x ∈ xs → Same H1 G → (∀ H4, Same G H4 → R (ψ x) H4) → g x (wipe σ vs) G fun σ2 H2 => wipe σ2 vs = wipe σ vs ∧ te σ2 H2 R)
    (hd : ∀ G, Same H1 G → G D = some (.lst (xs.map ψ)) → Qd G) :
    ∃ W : Nat → Nat → Hp → Prop, (∃ m, W 0 m (upd H1 D (.lst []))) ∧ ∀ i m H, W i m H →
      ((Itt K a).stop i H ∧ Qd H) ∨ ((Itt K a).go i H ∧ ∃ Nx : Hp → Prop, (∀ H', Nx H' → ∃ m', m' < m ∧ W (i + 1) m' H') ∧ ∀ x H', (Itt K a).yld i H x H' → g x (wipe σ vs) H' fun σ2 H2 => wipe σ2 vs = wipe σ vs ∧ tYes σ2 H2 fun b H3 =>
        if b = true then te σ2 H3 fun y H4 => ∃ acc, H4 D = some (.lst acc) ∧ acc.length < sizeLine ∧ Nx (upd H4 D (.lst (acc ++ [y]))) else Nx H3) := by
  refine lc_tup (K := K) (a := a) (xs := xs) (tt := tYes) (fun i G => Same H1 G ∧ G D = some (.lst ((xs.take i).map ψ))) ⟨Same.new hD _, upd_same⟩ (fun i G _ z => (Tp.same z.1).sqT hS) ?_ ?_
  · rintro i x G hi ⟨sm, hl2⟩
    refine hs x G _ (List.mem_of_getElem? hi) sm fun H4 s4 => ⟨_, s4 _ _ hl2, ?_, fun b o z => ?_, ?_⟩
    · have := (List.getElem?_eq_some_iff.mp hi).1
      rw [List.length_map, List.length_take]
      exact Nat.lt_of_lt_of_le (by omega : _ < 10001) (by decide)
    · rw [upd_ne (ne_of_none z hD)]
      exact s4 _ _ (sm _ _ z)
    · rw [upd_same, take_snoc hi, List.map_append]
      rfl
  · rintro G ⟨sm, h⟩
    rw [List.take_of_length_le (Nat.le_refl _)] at h
    exact hd G sm h
theorem lc_mapL (hD : H1 D = none) (hS : SqL K H1 a xs) (hl : xs.length ≤ 10000)
    (hs : ∀ x G (R : V → Hp → Prop), x ∈ xs → Same H1 G → (∀ H4, Same G H4 → R (ψ x) H4) → g x (wipe σ vs) G fun σ2 H2 => wipe σ2 vs = wipe σ vs ∧ te σ2 H2 R)
    (hd : ∀ G, Same H1 G → G D = some (.lst (xs.map ψ)) → Qd G) :
    ∃ W : Nat → Nat → Hp → Prop, (∃ m, W 0 m (upd H1 D (.lst []))) ∧ ∀ i m H, W i m H →
      ((Itl K a).stop i H ∧ Qd H) ∨ ((Itl K a).go i H ∧ ∃ Nx : Hp → Prop, (∀ H', Nx H' → ∃ m', m' < m ∧ W (i + 1) m' H') ∧ ∀ x H', (Itl K a).yld i H x H' → g x (wipe σ vs) H' fun σ2 H2 => wipe σ2 vs = wipe σ vs ∧ tYes σ2 H2 fun b H3 =>
        if b = true then te σ2 H3 fun y H4 => ∃ acc, H4 D = some (.lst acc) ∧ acc.length < sizeLine ∧ Nx (upd H4 D (.lst (acc ++ [y]))) else Nx H3) := by
  refine lc_list (K := K) (a := a) (xs := xs) (tt := tYes) (fun i G => Same H1 G ∧ G D = some (.lst ((xs.take i).map ψ))) ⟨Same.new hD _, upd_same⟩ (fun i G _ z => z.1.seq hS) ?_ ?_
  · rintro i x G hi ⟨sm, hl2⟩
    refine hs x G _ (List.mem_of_getElem? hi) sm fun H4 s4 => ⟨_, s4 _ _ hl2, ?_, fun b o z => ?_, ?_⟩
    · have := (List.getElem?_eq_some_iff.mp hi).1
      rw [List.length_map, List.length_take]
      exact Nat.lt_of_lt_of_le (by omega : _ < 10001) (by decide)
    · rw [upd_ne (ne_of_none z hD)]
      exact s4 _ _ (sm _ _ z)
    · rw [upd_same, take_snoc hi, List.map_append]
      rfl
  · rintro G ⟨sm, h⟩
    rw [List.take_of_length_le (Nat.le_refl _)] at h
    exact hd G sm h
theorem lc_mapRT (hD : H1 D = none) (hS : SqT K H1 a xs) (hl : xs.length ≤ 10000)
    (hs : ∀ x G (R : V → Hp → Prop), x ∈ xs → Same H1 G → (∀ H4, Same G H4 → R (ψ x) H4) → g x (wipe σ vs) G fun σ2 H2 => wipe σ2 vs = wipe σ vs ∧ te σ2 H2 R)
    (hd : ∀ G, Same H1 G → G D = some (.lst (xs.reverse.map ψ)) → Qd G) :
    ∃ W : Nat → Nat → Hp → Prop, (∃ m, W 0 m (upd H1 D (.lst []))) ∧ ∀ i m H, W i m H →
      ((RT.ItvT K a xs.length).stop i H ∧ Qd H) ∨ ((RT.ItvT K a xs.length).go i H ∧ ∃ Nx : Hp → Prop, (∀ H', Nx H' → ∃ m', m' < m ∧ W (i + 1) m' H') ∧ ∀ x H', (RT.ItvT K a xs.length).yld i H x H' → g x (wipe σ vs) H' fun σ2 H2 => wipe σ2 vs = wipe σ vs ∧ tYes σ2 H2 fun b H3 =>
        if b = true then te σ2 H3 fun y H4 => ∃ acc, H4 D = some (.lst acc) ∧ acc.length < sizeLine ∧ Nx (upd H4 D (.lst (acc ++ [y]))) else Nx H3) := by
  refine ⟨fun i m G => m = xs.length - i ∧ i ≤ xs.length ∧ Same H1 G ∧ G D = some (.lst ((xs.reverse.take i).map ψ)), ⟨_, rfl, Nat.zero_le _, Same.new hD _, upd_same⟩, ?_⟩
  rintro i m G ⟨rfl, hi, sm, hl2⟩
  rcases Nat.lt_or_ge i xs.length with lt | ge
  · have hS' := (Tp.same sm).sqT hS
    have lt' : xs.length - 1 - i < xs.length := by omega
    have hx : xs[xs.length - 1 - i]? = some xs[xs.length - 1 - i] := List.getElem?_eq_getElem lt'
    have hr : xs.reverse[i]? = some xs[xs.length - 1 - i] := by rw [List.getElem?_reverse lt]; exact hx
    refine .inr ⟨⟨lt, xs, _, hS', hx⟩, fun G => Same H1 G ∧ G D = some (.lst ((xs.reverse.take (i + 1)).map ψ)), fun H' z => ⟨_, (by omega : xs.length - (i + 1) < xs.length - i), rfl, by omega, z.1, z.2⟩, ?_⟩
    rintro x G' ⟨rfl, hy⟩
    have ex := (hy xs hS').symm.trans hx
    cases ex
    refine hs _ G' _ (List.getElem_mem lt') sm fun H4 s4 => ⟨_, s4 _ _ hl2, ?_, fun b o z => ?_, ?_⟩
    · rw [List.length_map, List.length_take, List.length_reverse]
      exact Nat.lt_of_lt_of_le (by omega : _ < 10001) (by decide)
    · rw [upd_ne (ne_of_none z hD)]
      exact s4 _ _ (sm _ _ z)
    · rw [upd_same, take_snoc hr, List.map_append]
      rfl
  · refine .inl ⟨ge, hd G sm ?_⟩
    rw [hl2, List.take_of_length_le (by rw [List.length_reverse]; exact ge)]
end
/-! ### words -/
def ab (n : Int) : Int := if n < 0 then -n else n
def isLet (n : Int) : Bool := decide (n ≠ 0) && decide (ab n ≤ 40)
def okW (ns : List Int) : Bool := decide (ns.length ≤ 300) && ns.all isLet
def inv (ns : List Int) : List Int := ns.reverse.map fun n => -n
def sgn (m l : Int) : Int := if 0 < l then m else -m
def shf (k : Int) (ns : List Int) : List Int := ns.map fun n => sgn (ab n + k) n
abbrev WT (K : PySem.W.Frag) (H : Hp) (a : Addr) (ns : List Int) : Prop := SqT K H a (ns.map V.int)
theorem cat_ok {K : PySem.W.Frag} {H : Hp} {a b : Addr} {xs ys : List V} {Q : VK} (ha : SqT K H a xs) (hb : SqT K H b ys) (hl : xs.length + ys.length ≤ sizeLine) (q : ∀ p H', Same H H' → SqT K H' p (xs ++ ys) → Q (.ref p) H') : rCatA K (.ref a) (.ref b) H Q := by
  refine ⟨a, b, xs, ys, rfl, rfl, ha, hb, hl, fun e => ?_, fun _ e => ?_, fun _ _ p np => ?_⟩
  · subst e
    exact q b H (Same.refl _) hb
  · subst e
    exact q a H (Same.refl _) (by rw [List.append_nil]; exact ha)
  · exact q p _ (Same.new np _) (SqT.here upd_same)
def vInt : V → Int
  | .int n => n
  | _ => 0
theorem map_int {ψ : Int → V} (ns : List Int) : (ns.map V.int).map (fun v => ψ (vInt v)) = ns.map ψ := by
  rw [List.map_map]
  rfl
theorem mem_int {ns : List Int} {x : V} (h : x ∈ ns.map V.int) : ∃ n, n ∈ ns ∧ x = .int n := by
  obtain ⟨n, h1, h2⟩ := List.mem_map.mp h
  exact ⟨n, h1, h2.symm⟩
def spLet : Sp := fun vs H Q _ => ∃ n : Int, vs = [.int n] ∧ Q (.bl (isLet n)) H
def spAre (K : PySem.W.Frag) : Sp := fun vs H Q _ => ∃ (a : Addr) (ns : List Int), vs = [.ref a] ∧ WT K H a ns ∧ ns.length ≤ 10000 ∧ ∀ H', Same H H' → Q (.bl (ns.all isLet)) H'
def spChkW (K : PySem.W.Frag) (C : Addr) : Sp := fun vs H Q E => ∃ (a : Addr) (ns : List Int), vs = [.ref a] ∧ WT K H a ns ∧ ns.length ≤ 10000 ∧ (okW ns = true → ∀ H', Same H H' → Q .non H') ∧ (okW ns = false → ∀ H', Same H H' → E (.ref C) none H')
/-- a def over one word that gives a new one -/
def spWW (K : PySem.W.Frag) (φ : List Int → List Int) : Sp := fun vs H Q _ => ∃ (a : Addr) (ns : List Int), vs = [.ref a] ∧ WT K H a ns ∧ ns.length ≤ 10000 ∧ ∀ p H', Same H H' → WT K H' p (φ ns) → Q (.ref p) H'
def spSgn : Sp := fun vs H Q _ => ∃ m l : Int, vs = [.int m, .int l] ∧ Q (.int (sgn m l)) H
def spShf (K : PySem.W.Frag) : Sp := fun vs H Q _ => ∃ (a : Addr) (ns : List Int) (k : Int), vs = [.ref a, .int k] ∧ WT K H a ns ∧ ns.length ≤ 10000 ∧ ∀ p H', Same H H' → WT K H' p (shf k ns) → Q (.ref p) H'
/-- inverse: the word, or the error -/
def spInvE (K : PySem.W.Frag) (C : Addr) : Sp := fun vs H Q E => ∃ (a : Addr) (ns : List Int), vs = [.ref a] ∧ WT K H a ns ∧ ns.length ≤ 10000 ∧ (okW ns = true → ∀ p H', Same H H' → WT K H' p (inv ns) → Q (.ref p) H') ∧ (okW ns = false → ∀ H', Same H H' → E (.ref C) none H')
/-- shifted: the word, or the first error -/
def spShfE (K : PySem.W.Frag) (CW CS : Addr) : Sp := fun vs H Q E => ∃ (a : Addr) (ns : List Int) (k : Int), vs = [.ref a, .int k] ∧ WT K H a ns ∧ ns.length ≤ 10000 ∧ (okW ns = true → 0 ≤ k → k ≤ 20 → (shf k ns).all isLet = true → ∀ p H', Same H H' → WT K H' p (shf k ns) → Q (.ref p) H') ∧
  (okW ns = false → ∀ H', Same H H' → E (.ref CW) none H') ∧ (okW ns = true → ¬ (0 ≤ k ∧ k ≤ 20) → ∀ H', Same H H' → E (.ref CS) none H') ∧ (okW ns = true → 0 ≤ k → k ≤ 20 → (shf k ns).all isLet = false → ∀ H', Same H H' → E (.ref CW) none H')
/-- the law's sign, step by sign -/
def lsg (n : Int) : Int := if 0 < n then 1 else -1
theorem shf_law (k n : Int) : n + k * lsg n = sgn (ab n + k) n := by
  unfold lsg sgn ab
  by_cases h : 0 < n
  · rw [if_pos h, if_pos h, if_neg (by omega), Int.mul_one]
  · rw [if_neg h, if_neg h]
    by_cases h2 : n < 0
    · rw [if_pos h2, Int.mul_neg, Int.mul_one]
      omega
    · rw [if_neg h2, Int.mul_neg, Int.mul_one]
      omega
def spSign : Sp := fun vs H Q _ => ∃ n : Int, vs = [.int n] ∧ Q (.int (lsg n)) H
/-- the law's own shift: a step below 2 ^ 64 -/
def spShfL (K : PySem.W.Frag) : Sp := fun vs H Q _ => ∃ (a : Addr) (ns : List Int) (k : Int), vs = [.ref a, .int k] ∧ WT K H a ns ∧ ns.length ≤ 10000 ∧ -1000 ≤ k ∧ k ≤ 1000 ∧ ∀ p H', Same H H' → WT K H' p (shf k ns) → Q (.ref p) H'
theorem shf_len (k : Int) (ns : List Int) : (shf k ns).length = ns.length := by unfold shf; rw [List.length_map]
theorem inv_len (ns : List Int) : (inv ns).length = ns.length := by unfold inv; rw [List.length_map, List.length_reverse]
structure BltW (mg : Str → Option Value) : Prop where
  abs : mg "abs" = none
  reversed : mg "reversed" = none
  any : mg "any" = none
structure CstW (mg : Str → Option Value) : Prop where
  MAX_LETTER : ∃ t, mg "MAX_LETTER" = some (.int 40 t)
  MAX_LETTERS : ∃ t, mg "MAX_LETTERS" = some (.int 300 t)
end OPN
section WDT
def wD (ns : List Int) : PyData := .tuple (ns.map .int)
theorem dp_ints {K : PySem.W.Frag} {H : Hp} : ∀ ns : List Int, DpAll K H (ns.map V.int) (ns.map PyData.int)
  | [] => .nil
  | n :: ns => .cons (.int n) (dp_ints ns)
theorem dp_wt {K : PySem.W.Frag} {H : Hp} {p : Addr} {ns : List Int} (h : WT K H p ns) : Dp K H (.ref p) (wD ns) := Dp.tup h (dp_ints ns)
theorem lay_ints : ∀ ns : List Int, PyData.canLayAll0 (ns.map .int) = true
  | [] => rfl
  | n :: ns => by
    show (PyData.canLay0 (.int n) && PyData.canLayAll0 (ns.map .int)) = true
    rw [lay_ints ns]
    rfl
theorem depth_ints : ∀ ns : List Int, PyData.depthAll (ns.map .int) ≤ 1
  | [] => Nat.zero_le _
  | n :: ns => by
    have h := depth_ints ns
    have e : (PyData.int n).depth ≤ 1 := by first | exact Nat.le_refl _ | exact Nat.zero_le _
    show max (PyData.int n).depth (PyData.depthAll (ns.map .int)) ≤ 1
    omega
theorem wD_depth (ns : List Int) : (wD ns).depth ≤ 2 := by
  have h := depth_ints ns
  show PyData.depthAll (ns.map .int) + 1 ≤ 2
  omega
theorem wD_shaped (ns : List Int) : SeqAt.shaped (wD ns) = true := by
  have h := wD_depth ns
  unfold SeqAt.shaped
  rw [show (wD ns).canLay0 = PyData.canLayAll0 (ns.map .int) from rfl, lay_ints, decide_eq_true (by omega)]
  rfl
theorem wide_ints : ∀ ns : List Int, wideAll (ns.map .int) = true
  | [] => rfl
  | n :: ns => by
    show (wide (.int n) && wideAll (ns.map .int)) = true
    rw [wide_ints ns]
    rfl
theorem wD_wide {ns : List Int} (h : ns.length ≤ 1000) : wide (wD ns) = true := by
  show (decide ((ns.map PyData.int).length ≤ 1000) && wideAll (ns.map .int)) = true
  rw [List.length_map, decide_eq_true h, wide_ints]
  rfl
/-- the same word twice -/
theorem same_w {K : PySem.W.Frag} {H : Hp} {p q : Addr} {ns : List Int} {Q : VK} {E : XK} (h1 : WT K H p ns) (h2 : WT K H q ns) (hl : ns.length ≤ 1000) (k : ∀ H', Same H H' → Q (.bl true) H') : spSame K 12 [.ref p, .ref q] H Q E :=
  ⟨_, _, wD ns, rfl, dp_wt h1, dp_wt h2, wD_shaped ns, by have := wD_depth ns; omega, wD_wide hl, k⟩
theorem ne_w {K : PySem.W.Frag} {H : Hp} {p q : Addr} {ns : List Int} {Q : VK} (h1 : WT K H p ns) (h2 : WT K H q ns) (k : Q (.bl false) H) : rNeD K (.ref p) (.ref q) H Q := by
  refine ⟨wD ns, wD ns, dp_wt h1, dp_wt h2, wD_shaped ns, wD_shaped ns, ?_⟩
  rw [SeqAt.eqv_refl _ (SeqAt.canLay_of_shaped (wD_shaped ns))]
  exact k
theorem eq_w {K : PySem.W.Frag} {H : Hp} {p q : Addr} {ns : List Int} {Q : VK} (h1 : WT K H p ns) (h2 : WT K H q ns) (k : Q (.bl true) H) : rEqD K (.ref p) (.ref q) H Q := by
  refine ⟨wD ns, wD ns, dp_wt h1, dp_wt h2, wD_shaped ns, wD_shaped ns, ?_⟩
  rw [SeqAt.eqv_refl _ (SeqAt.canLay_of_shaped (wD_shaped ns))]
  exact k
end WDT
theorem Tp.extN {H H' : Hp} (e : LamX.ExtN H H') : Tp H H' := fun b xs h => by
  rcases h with h | ⟨o, h⟩
  · exact .inl (e _ _ h (fun _ => by intro y; cases y))
  · exact .inr ⟨o, e _ _ h (fun _ => by intro y; cases y)⟩
theorem Rng.extN {H H' : Hp} {r : Addr} (e : LamX.ExtN H H') (h : Rng H r) : Rng H' r := by
  obtain ⟨c, ns, i, b, s, h1, h2, h3⟩ := h
  exact ⟨c, ns, i, b, s, e _ _ h1 (fun _ => by intro y; cases y), e _ _ h2 (fun _ => by intro y; cases y), h3⟩
theorem tabs1 {Pt : Addr} {q : Str} {H : Hp} (h : H Pt = some (.tbl #[])) : LamX.Tabs [(Pt, q)] H := fun p hp => by
  rw [List.mem_singleton.mp hp]
  exact ⟨#[], h, by trivial, fun _ _ z => (nomatch z)⟩
/-- an error's word and no field -/
def eD (j : Nat) : PyData := .tuple [.str (en j), .none]
theorem eD_shaped : ∀ j < 20, SeqAt.shaped (eD j) = true := by decide +kernel
theorem eq_e {K : PySem.W.Frag} {H : Hp} {p q : Addr} {j : Nat} {Q : VK} (hj : j < 20) (h1 : SqT K H p [.str (en j), .non]) (h2 : SqT K H q [.str (en j), .non]) (k : Q (.bl true) H) : rEqD K (.ref p) (.ref q) H Q := by
  refine ⟨eD j, eD j, Dp.tup h1 (.cons (.str _) (.cons .non .nil)), Dp.tup h2 (.cons (.str _) (.cons .non .nil)), eD_shaped j hj, eD_shaped j hj, ?_⟩
  rw [SeqAt.eqv_refl _ (SeqAt.canLay_of_shaped (eD_shaped j hj))]
  exact k
/-! ### the word of a term -/
def wd : Tree → List Int
  | .L => []
  | .N l r => ((wd l ++ shf 1 (wd r)) ++ [1]) ++ shf 1 (inv (wd l))
def lwd : Tree → List Int
  | .L => []
  | .N l r => ((lwd l ++ shf 1 (lwd r)) ++ [1]) ++ inv (shf 1 (lwd l))
theorem wd_lenN (l r : Tree) : (wd (.N l r)).length = 2 * (wd l).length + (wd r).length + 1 := by
  show (((wd l ++ shf 1 (wd r)) ++ [1]) ++ shf 1 (inv (wd l))).length = _
  rw [List.length_append, List.length_append, List.length_append, shf_len, shf_len, inv_len, List.length_singleton]
  omega
def wtab : List (List Nat) := [[0, 0, 0, 0, 0, 0, 0, 0, 0, 0, 0, 0, 0], [0, 0, 1, 1, 1, 1, 1, 1, 1, 1, 1, 1, 1], [0, 0, 1, 3, 4, 4, 4, 4, 4, 4, 4, 4, 4], [0, 0, 1, 3, 7, 9, 10, 12, 13, 13, 13, 13, 13], [0, 0, 1, 3, 7, 15, 19, 21, 25, 27, 28, 32, 34], [0, 0, 1, 3, 7, 15, 31, 39, 43, 51, 55, 57, 65], [0, 0, 1, 3, 7, 15, 31, 63, 79, 87, 103, 111, 115]]
def wt (d n : Nat) : Nat := (wtab.getD d []).getD n 0
theorem wt_all : ((List.range 6).all fun d => (List.range 12).all fun a => (List.range 12).all fun b => decide (0 < a → 0 < b → a + b ≤ 12 → 2 * wt d a + wt d b + 1 ≤ wt (d + 1) (a + b))) = true := by decide +kernel
theorem wt_step (d : Nat) (hd : d < 6) (a : Nat) (ha : a < 12) (b : Nat) (hb : b < 12) : 0 < a → 0 < b → a + b ≤ 12 → 2 * wt d a + wt d b + 1 ≤ wt (d + 1) (a + b) := by
  have h1 := List.all_eq_true.mp wt_all d (List.mem_range.mpr hd)
  have h2 := List.all_eq_true.mp h1 a (List.mem_range.mpr ha)
  have h3 := List.all_eq_true.mp h2 b (List.mem_range.mpr hb)
  exact of_decide_eq_true h3
theorem wd_tab : ∀ (d : Nat), d ≤ 6 → ∀ t : Tree, t.dp ≤ d → t.sz ≤ 12 → (wd t).length ≤ wt d t.sz
  | d, _, .L, _, _ => Nat.zero_le _
  | 0, _, .N l r, h, _ => absurd (show max l.dp r.dp + 1 ≤ 0 from h) (by omega)
  | d + 1, hd, .N l r, h, hz => by
    have h : max l.dp r.dp + 1 ≤ d + 1 := h
    have hz : l.sz + r.sz ≤ 12 := hz
    have p1 := l.sz_pos
    have p2 := r.sz_pos
    have h1 := wd_tab d (by omega) l (by omega) (by omega)
    have h2 := wd_tab d (by omega) r (by omega) (by omega)
    have h3 := wt_step d (by omega) l.sz (by omega) r.sz (by omega) p1 p2 hz
    rw [wd_lenN]
    show _ ≤ wt (d + 1) (l.sz + r.sz)
    omega
theorem wt_top : ∀ n < 13, wt 6 n ≤ 115 := by decide +kernel
theorem wd_len {t : Tree} (hd : t.dp ≤ 6) (hz : t.sz ≤ 12) : (wd t).length ≤ 115 := Nat.le_trans (wd_tab 6 (Nat.le_refl _) t hd hz) (wt_top _ (by omega))
theorem ab_pos {n : Int} (h : 0 < n) : ab n = n := if_neg (by omega)
theorem ab_neg {n : Int} (h : n < 0) : ab n = -n := if_pos h
theorem shf_let {k n : Int} (hk : 0 ≤ k) (h : n ≠ 0) : sgn (ab n + k) n ≠ 0 ∧ ab (sgn (ab n + k) n) = ab n + k := by
  unfold sgn
  rcases Int.lt_or_gt_of_ne h with h | h
  · rw [if_neg (by omega), ab_neg h, ab_neg (by omega)]
    omega
  · rw [if_pos h, ab_pos h, ab_pos (by omega)]
    omega
theorem inv_let {n : Int} (h : n ≠ 0) : -n ≠ 0 ∧ ab (-n) = ab n := by
  rcases Int.lt_or_gt_of_ne h with h | h
  · rw [ab_neg h, ab_pos (by omega)]
    omega
  · rw [ab_pos h, ab_neg (by omega)]
    omega
/-- every letter is no 0 and at most m -/
def Lets (m : Int) (ns : List Int) : Prop := ∀ n ∈ ns, n ≠ 0 ∧ ab n ≤ m
theorem Lets.mono {m m' : Int} {ns : List Int} (h : m ≤ m') (l : Lets m ns) : Lets m' ns := fun n hn => ⟨(l n hn).1, Int.le_trans (l n hn).2 h⟩
theorem Lets.app {m : Int} {ns ms : List Int} (h1 : Lets m ns) (h2 : Lets m ms) : Lets m (ns ++ ms) := fun n hn => (List.mem_append.mp hn).elim (h1 n) (h2 n)
theorem Lets.shf {m k : Int} (hk : 0 ≤ k) {ns : List Int} (h : Lets m ns) : Lets (m + k) (shf k ns) := fun n hn => by
  obtain ⟨x, hx, rfl⟩ := List.mem_map.mp hn
  have a := h x hx
  have b := shf_let hk a.1
  exact ⟨b.1, by rw [b.2]; omega⟩
theorem Lets.inv {m : Int} {ns : List Int} (h : Lets m ns) : Lets m (inv ns) := fun n hn => by
  obtain ⟨x, hx, rfl⟩ := List.mem_map.mp hn
  have a := h x (List.mem_reverse.mp hx)
  have b := inv_let a.1
  exact ⟨b.1, by rw [b.2]; exact a.2⟩
theorem Lets.all {m : Int} (hm : m ≤ 40) {ns : List Int} (h : Lets m ns) : ns.all isLet = true := by
  rw [List.all_eq_true]
  intro n hn
  have a := h n hn
  unfold isLet
  rw [decide_eq_true a.1, decide_eq_true (by omega)]
  rfl
theorem okW_of {m : Int} (hm : m ≤ 40) {ns : List Int} (h : Lets m ns) (hl : ns.length ≤ 300) : okW ns = true := by
  unfold okW
  rw [decide_eq_true hl, h.all hm]
  rfl
theorem wd_lets : ∀ t : Tree, Lets t.dp (wd t)
  | .L => fun n hn => by cases hn
  | .N l r => by
    have h1 := wd_lets l
    have h2 := wd_lets r
    have e : ((Tree.N l r).dp : Int) = ((max l.dp r.dp + 1 : Nat) : Int) := rfl
    rw [e]
    refine Lets.app (Lets.app (Lets.app (h1.mono (by omega)) ((h2.shf (by omega)).mono (by omega))) ?_) ((h1.inv.shf (by omega)).mono (by omega))
    intro n hn
    rw [List.mem_singleton.mp hn, ab_pos (by decide)]
    exact ⟨by decide, by omega⟩
theorem shf_inv {k : Int} {ns : List Int} (h : ∀ n ∈ ns, n ≠ 0) : inv (shf k ns) = shf k (inv ns) := by
  unfold inv shf
  rw [← List.map_reverse, List.map_map, List.map_map]
  apply List.map_congr_left
  intro n hn
  have h0 := h n (List.mem_reverse.mp hn)
  show -(sgn (ab n + k) n) = sgn (ab (-n) + k) (-n)
  rw [(inv_let h0).2]
  unfold sgn
  rcases Int.lt_or_gt_of_ne h0 with h | h
  · rw [if_neg (by omega), if_pos (by omega)]
    omega
  · rw [if_pos h, if_neg (by omega)]
theorem lwd_eq : ∀ t : Tree, lwd t = wd t
  | .L => rfl
  | .N l r => by
    show ((lwd l ++ shf 1 (lwd r)) ++ [1]) ++ inv (shf 1 (lwd l)) = ((wd l ++ shf 1 (wd r)) ++ [1]) ++ shf 1 (inv (wd l))
    rw [lwd_eq l, lwd_eq r, shf_inv fun n hn => (wd_lets l n hn).1]
def spWd (K : PySem.W.Frag) (g : Tree → List Int) (n : Nat) : Sp := fun vs H Q _ => ∃ (v : V) (t : Tree), vs = [v] ∧ TA K H v t ∧ t.dp < n ∧ t.dp ≤ 6 ∧ t.sz ≤ 12 ∧ ∀ p H', Same H H' → WT K H' p (g t) → Q (.ref p) H'
theorem spWd_no {K : PySem.W.Frag} {g : Tree → List Int} : ∀ vs H Q E, ¬ spWd K g 0 vs H Q E := fun vs H Q E h => by
  obtain ⟨v, t, _, _, h, _⟩ := h
  omega
/-- word_of: the word, or the error -/
def spWordE (K : PySem.W.Frag) (C : Addr) : Sp := fun vs H Q E => ∃ (v : V) (d : PyData), vs = [v] ∧ NT K H v d ∧ ndD d ≤ 1000 ∧ (∀ t : Tree, d = t.d → t.sz ≤ 12 → t.dp ≤ 6 → ∀ p H', Same H H' → WT K H' p (wd t) → Q (.ref p) H') ∧ (okd d = false → ∀ H', Same H H' → E (.ref C) none H')
theorem wfits {a b : List Int} (h : a.length + b.length ≤ 10000) : (a.map V.int).length + (b.map V.int).length ≤ sizeLine := by
  rw [List.length_map, List.length_map]
  exact Nat.le_trans h (by decide)
theorem cat_w {K : PySem.W.Frag} {H : Hp} {a b : Addr} {ns ms : List Int} {Q : VK} (ha : WT K H a ns) (hb : WT K H b ms) (hl : ns.length + ms.length ≤ 10000) (q : ∀ p H', Same H H' → WT K H' p (ns ++ ms) → Q (.ref p) H') : rCatA K (.ref a) (.ref b) H Q :=
  cat_ok ha hb (wfits hl) fun p H' sm h => q p H' sm (by rw [WT, List.map_append]; exact h)
theorem d_inj : ∀ {t u : Tree}, t.d = u.d → t = u
  | .L, .L, _ => rfl
  | .L, .N _ _, h => by
    have h : PyData.tuple [] = .tuple [_, _] := h
    injection h with h
    cases h
  | .N _ _, .L, h => by
    have h : PyData.tuple [_, _] = .tuple [] := h
    injection h with h
    cases h
  | .N l r, .N l' r', h => by
    have h : PyData.tuple [l.d, r.d] = .tuple [l'.d, r'.d] := h
    injection h with h
    injection h with h1 h2
    injection h2 with h2 _
    rw [d_inj h1, d_inj h2]
/-! ### the draws' state, its list of cells named -/
def RngC (H : Hp) (r c : Addr) : Prop := ∃ (ns : List Int) (i b s : Int), H r = some (.lst [.ref c, .int i, .int b, .int s]) ∧ H c = some (.lst (ns.map V.int)) ∧ c ≠ r ∧ 0 ≤ i ∧ 0 ≤ b ∧ 0 ≤ s ∧ s < 2147483647
theorem Rng.toC {H : Hp} {r : Addr} (h : Rng H r) : ∃ c, RngC H r c := by
  obtain ⟨c, h⟩ := h
  exact ⟨c, h⟩
theorem RngC.rng {H : Hp} {r c : Addr} (h : RngC H r c) : Rng H r := ⟨c, h⟩
theorem RngC.keep {H H' : Hp} {r c : Addr} (h : RngC H r c) (e1 : ∀ o, H r = some o → H' r = some o) (e2 : ∀ o, H c = some o → H' c = some o) : RngC H' r c := by
  obtain ⟨ns, i, b, s, h1, h2, h3⟩ := h
  exact ⟨ns, i, b, s, e1 _ h1, e2 _ h2, h3⟩
theorem RngC.same {H H' : Hp} {r c : Addr} (e : Same H H') (h : RngC H r c) : RngC H' r c := h.keep (e _) (e _)
theorem RngC.lst {H : Hp} {r c : Addr} (h : RngC H r c) : ∃ ys, H r = some (.lst ys) := h.rng.lst
theorem RngC.ne {H : Hp} {r c p : Addr} (h : RngC H r c) (e : H p = none) : p ≠ r ∧ p ≠ c := by
  obtain ⟨ns, i, b, s, h1, h2, h3⟩ := h
  refine ⟨fun z => ?_, fun z => ?_⟩
  · rw [z, h1] at e
    cases e
  · rw [z, h2] at e
    cases e
theorem RngC.set {H : Hp} {r c p : Addr} {o : HO} (h : RngC H r c) (n : p ≠ r ∧ p ≠ c) : RngC (upd H p o) r c :=
  h.keep (fun o e => by rw [upd_ne (Ne.symm n.1)]; exact e) (fun o e => by rw [upd_ne (Ne.symm n.2)]; exact e)
theorem RngC.extN {H H' : Hp} {r c : Addr} (e : LamX.ExtN H H') (h : RngC H r c) : RngC H' r c := by
  obtain ⟨ns, i, b, s, h1, h2, h3⟩ := h
  exact ⟨ns, i, b, s, e _ _ h1 (fun _ => by intro y; cases y), e _ _ h2 (fun _ => by intro y; cases y), h3⟩
theorem RngC.tp {H H' : Hp} {r c : Addr} (R : RngC H r c) (b : But r H H') : Tp H H' := by
  obtain ⟨ys, hy⟩ := R.lst
  exact Tp.but hy b
theorem RngC.tabs {T : List (Addr × Str)} {H H' : Hp} {r c : Addr} (R : RngC H r c) (b : But r H H') (t : LamX.Tabs T H) : LamX.Tabs T H' := by
  obtain ⟨ys, hy⟩ := R.lst
  exact tabs_set t hy b
theorem tabs_same {T : List (Addr × Str)} {H H' : Hp} (e : Same H H') (t : LamX.Tabs T H) : LamX.Tabs T H' := fun p hp => by
  obtain ⟨ps, h1, h2, h3⟩ := t p hp
  refine ⟨ps, e _ _ h1, h2, fun pos cv ec => ?_⟩
  obtain ⟨c, rfl, hc⟩ := h3 pos cv ec
  exact ⟨c, rfl, e _ _ hc⟩
def spDrawC : Sp := fun vs H Q _ => ∃ (r : Addr) (n : Int) (c : Addr), vs = [.ref r, .int n] ∧ RngC H r c ∧ 0 < n ∧ n < 1073741824 ∧ ∀ (v : Int) (H' : Hp), 0 ≤ v → v < n → RngC H' r c → But r H H' → Q (.int v) H'
theorem spDraw_C {vs : List V} {H : Hp} {Q : VK} {E : XK} (h : spDraw vs H Q E) : spDrawC vs H Q E := by
  obtain ⟨r, n, rfl, R, h1, h2, q⟩ := h
  obtain ⟨c, R⟩ := R.toC
  exact ⟨r, n, c, rfl, R, h1, h2, fun v H' v0 v1 R' b' => q v H' v0 v1 R'.rng b'⟩
def spPickC (K : PySem.W.Frag) : Sp := fun vs H Q _ => ∃ (r l c : Addr) (xs : List V), vs = [.ref r, .ref l] ∧ RngC H r c ∧ (SqL K H l xs ∨ SqT K H l xs) ∧ 0 < xs.length ∧ xs.length ≤ 10000 ∧ l ≠ r ∧ ∀ v H', v ∈ xs → RngC H' r c → But r H H' → Q v H'
theorem spPick_C {K : PySem.W.Frag} {vs : List V} {H : Hp} {Q : VK} {E : XK} (h : spPick K vs H Q E) : spPickC K vs H Q E := by
  obtain ⟨r, l, xs, rfl, R, h1, h2, h3, h4, q⟩ := h
  obtain ⟨c, R⟩ := R.toC
  exact ⟨r, l, c, xs, rfl, R, h1, h2, h3, h4, fun v H' hv R' b' => q v H' hv R'.rng b'⟩
def spTermC (K : PySem.W.Frag) (n : Nat) : Sp := fun vs H Q _ => ∃ (r : Addr) (many : Int) (k : Nat) (c : Addr), k < n ∧ vs = [.ref r, .int many, .int (2 ^ k)] ∧ k ≤ 6 ∧ 1 ≤ many ∧ many ≤ 2 ^ k ∧ RngC H r c ∧
  ∀ (v : V) (t : Tree) (H' : Hp), TA K H' v t → (t.sz : Int) = many → t.dp ≤ k → RngC H' r c → But r H H' → Q v H'
theorem spTerm_C {K : PySem.W.Frag} {n : Nat} {vs : List V} {H : Hp} {Q : VK} {E : XK} (h : spTerm K n vs H Q E) : spTermC K n vs H Q E := by
  obtain ⟨r, m, k, hk, e, h1, h2, h3, R, q⟩ := h
  obtain ⟨c, R⟩ := R.toC
  exact ⟨r, m, k, c, hk, e, h1, h2, h3, R, fun v t H' a b d R' b' => q v t H' a b d R'.rng b'⟩
def spAnyC (K : PySem.W.Frag) : Sp := fun vs H Q _ => ∃ (r : Addr) (top : Int) (c : Addr), vs = [.ref r, .int top] ∧ 1 ≤ top ∧ top ≤ 64 ∧ RngC H r c ∧
  ∀ (v : V) (t : Tree) (H' : Hp), TA K H' v t → (t.sz : Int) ≤ top → t.dp ≤ 6 → RngC H' r c → But r H H' → Q v H'
theorem spAny_C {K : PySem.W.Frag} {vs : List V} {H : Hp} {Q : VK} {E : XK} (h : spAny K vs H Q E) : spAnyC K vs H Q E := by
  obtain ⟨r, m, e, h1, h2, R, q⟩ := h
  obtain ⟨c, R⟩ := R.toC
  exact ⟨r, m, c, e, h1, h2, R, fun v t H' a b d R' b' => q v t H' a b d R'.rng b'⟩
/-! ### tuple * int, also where the tuple itself is given back -/
section OPR
open PySem.Spec PyProof.Rows
theorem tuple_mul_same (l : Addr) (items : Array Value) (n : Nat) (dd : Option Addr) (sl : Array (Option Value)) (x : Int) (u : Tok) (c0 : (decide (x < -(2 ^ 63)) || decide (x ≥ 2 ^ 63)) = false) (c1 : (items.isEmpty || x == 1) = true) :
    Meets (Builtin.«tuple.__mul__» ⟨[.ref l, .int x u], []⟩) (fun _ R s => s.heap.get? l = some { cls := .type "tuple", dict := dd, data := .seq items n, slots := sl } ∧ R (.ok (.ret (Value.ref l))) { s with heap := s.heap, toks := s.toks }) :=
  .of_wp fun prog w A R s h => by
    obtain ⟨hp, g, d, tk, os⟩ := s
    obtain ⟨hl, h⟩ := h
    have f1 := AutoSeq1.idx_int
    wp_walk using wpAny_loadPart' hl
    repeat (first
      | (refine wpAny_ite_false (decide_eq_false (by rw [c0]; exact Bool.false_ne_true)) ?_; wp_walk using wpAny_loadPart' hl)
      | (refine wpAny_ite_true (decide_eq_true c1) ?_; wp_walk using wpAny_loadPart' hl))
    exact ⟨_, rfl, h⟩
theorem op_repS {X : Cx} : OpR X (binaryOp .Mult) (fun x y H Q => ∃ l k xs, x = .ref l ∧ y = .int k ∧ SqT X.K H l xs ∧ (xs = [] ∨ k = 1) ∧ 1 ≤ k ∧ k ≤ 1000 ∧ Q (.ref l) H) := by
  intro pins s σ H x y v u Q I rx ry h
  obtain ⟨l, k, xs, rfl, rfl, hT, hne, h1, h2, q⟩ := h
  cases rx
  obtain ⟨t, rfl⟩ := ry
  obtain ⟨its, r, ⟨⟨cls, dd, data, sl⟩, ho, hc, n, hd⟩, hs⟩ := I.tuple hT
  simp only at hc hd
  subst hc hd
  have c0 : (decide (k < -(2 ^ 63)) || decide (k ≥ 2 ^ 63)) = false := by
    rw [decide_eq_false (by omega), decide_eq_false (by omega)] <;> rfl
  have c1 : (its.toArray.isEmpty || k == 1) = true := by
    rcases hne with e | e
    · subst e
      cases r
      rfl
    · rw [e]
      simp
  exact wpAny_binaryOp_repeat_ref (T := "tuple") (U := "int") (by decide) ⟨_, ho, rfl⟩ (fun s' => typeIs_int s' k t) noFill_tuple_mul PySem.F.fills_int_mul PySem.F.slot_int_rmul repeat_tuple PySem.F.slot_int_index.lookup
    (call_meets PySem.F.slot_int_rmul (typeIs_int s k t) PySem.F.entry_int_rmul (PySem.F.args_int_rmul_2 _ _) (int_rmul_tuple k t l its.toArray n dd sl)
      ⟨ho, rfl, ⟨_, ho, rfl⟩, call_meets PySem.F.slot_tuple_mul ⟨_, ho, rfl⟩ PySem.F.entry_tuple_mul (PySem.F.args_tuple_mul_2 _ _) (tuple_mul_same l its.toArray n dd sl k t c0 c1) ⟨ho, ⟨.ref l, H, I, rfl, q⟩⟩⟩)
def rRepA (K : PySem.W.Frag) : R2 := fun x y H Q => ∃ l k xs, x = .ref l ∧ y = .int k ∧ SqT K H l xs ∧ 1 ≤ k ∧ k ≤ 1000 ∧ xs.length ≤ 1000 ∧ ∀ p H', Same H H' → SqT K H' p (List.replicate k.toNat xs).flatten → Q (.ref p) H'
theorem op_repA {X : Cx} : OpR X (binaryOp .Mult) (rRepA X.K) := by
  intro pins s σ H x y v u Q I rx ry h
  obtain ⟨l, k, xs, rfl, rfl, hT, h1, h2, hz, q⟩ := h
  by_cases hx : xs = []
  · refine op_repS pins s σ H _ _ v u Q I rx ry ⟨l, k, xs, rfl, rfl, hT, .inl hx, h1, h2, q l H (Same.refl _) ?_⟩
    have e : (List.replicate k.toNat xs).flatten = xs := by
      rw [hx]
      simp
    rw [e]
    exact hT
  · by_cases hk : k = 1
    · refine op_repS pins s σ H _ _ v u Q I rx ry ⟨l, k, xs, rfl, rfl, hT, .inr hk, h1, h2, q l H (Same.refl _) ?_⟩
      have e : (List.replicate k.toNat xs).flatten = xs := by
        rw [hk]
        simp
      rw [e]
      exact hT
    · exact op_repT pins s σ H _ _ v u Q I rx ry ⟨l, k, xs, rfl, rfl, hT, hx, by omega, h2, hz, fun p np => q p _ (Same.new np _) (SqT.here upd_same)⟩
end OPR
/-- a word repeated -/
def repW (k : Int) (ns : List Int) : List Int := (List.replicate k.toNat ns).flatten
theorem repW_map (k : Int) (ns : List Int) : (List.replicate k.toNat (ns.map V.int)).flatten = (repW k ns).map V.int := by
  unfold repW
  rw [List.map_flatten, List.map_replicate]
theorem repW_len (k : Int) (ns : List Int) : (repW k ns).length = k.toNat * ns.length := by
  unfold repW
  rw [List.length_flatten, List.map_replicate, List.sum_replicate_nat]
theorem repW_mem {k : Int} {ns : List Int} {n : Int} (h : n ∈ repW k ns) : n ∈ ns := by
  unfold repW at h
  obtain ⟨l, h1, h2⟩ := List.mem_flatten.mp h
  rw [List.eq_of_mem_replicate h1] at h2
  exact h2
theorem rep_w {K : PySem.W.Frag} {H : Hp} {a : Addr} {ns : List Int} {k : Int} {Q : VK} (ha : WT K H a ns) (h1 : 1 ≤ k) (h2 : k ≤ 1000) (hl : ns.length ≤ 1000) (q : ∀ p H', Same H H' → WT K H' p (repW k ns) → Q (.ref p) H') : rRepA K (.ref a) (.int k) H Q :=
  ⟨a, k, _, rfl, rfl, ha, h1, h2, by rw [List.length_map]; exact hl, fun p H' sm h => q p H' sm (by rw [WT, ← repW_map]; exact h)⟩
/-! ### words that are drawn -/
theorem Tp.rng {r : Addr} {H H' : Hp} (R : Rng H r) (b : But r H H') : Tp H H' := by
  obtain ⟨ys, hy⟩ := R.lst
  exact Tp.but hy b
def spAnyW (K : PySem.W.Frag) : Sp := fun vs H Q _ => ∃ (r : Addr) (top wide : Int) (c : Addr), vs = [.ref r, .int top, .int wide] ∧ 0 ≤ top ∧ top ≤ 1000 ∧ 1 ≤ wide ∧ wide ≤ 1000 ∧ RngC H r c ∧
  ∀ (p : Addr) (ns : List Int) (H' : Hp), WT K H' p ns → (ns.length : Int) ≤ top → Lets wide ns → RngC H' r c → But r H H' → Q (.ref p) H'
def spBadW (K : PySem.W.Frag) : Sp := fun vs H Q _ => ∃ r c : Addr, vs = [.ref r] ∧ RngC H r c ∧ ∀ (p : Addr) (ns : List Int) (H' : Hp), WT K H' p ns → okW ns = false → ns.length ≤ 400 → RngC H' r c → But r H H' → Q (.ref p) H'
theorem okW_mem {ns : List Int} {n : Int} (h : n ∈ ns) (hb : isLet n = false) : okW ns = false := by
  unfold okW
  have : ns.all isLet = false := by
    rw [List.all_eq_false]
    exact ⟨n, h, by rw [hb]; decide⟩
  rw [this, Bool.and_false]
theorem okW_long {ns : List Int} (h : 300 < ns.length) : okW ns = false := by
  unfold okW
  rw [decide_eq_false (by omega)]
  rfl
theorem inv_inv (ns : List Int) : inv (inv ns) = ns := by
  unfold inv
  rw [← List.map_reverse, List.map_map, List.reverse_reverse]
  have e : ((fun n : Int => -n) ∘ fun n => -n) = id := by
    funext n
    exact Int.neg_neg n
  rw [e, List.map_id]
theorem okW_inv {m : Int} (hm : m ≤ 40) {ns : List Int} (h : Lets m ns) (hl : ns.length ≤ 300) : okW (inv ns) = true := okW_of hm h.inv (by rw [inv_len]; exact hl)
theorem shf_all {k : Int} (hk : 0 ≤ k) {ns : List Int} (h : Lets 40 ns) : (shf k ns).all isLet = !(ns.any fun n => decide (40 < ab n + k)) := by
  induction ns with
  | nil => rfl
  | cons n ns ih =>
    have h1 := h n List.mem_cons_self
    have h2 := ih fun x hx => h x (List.mem_cons_of_mem _ hx)
    have h3 := shf_let hk h1.1
    show (isLet (sgn (ab n + k) n) && (shf k ns).all isLet) = !(decide (40 < ab n + k) || ns.any fun n => decide (40 < ab n + k))
    rw [h2, Bool.not_or]
    congr 1
    unfold isLet
    rw [decide_eq_true h3.1, h3.2, Bool.true_and]
    by_cases z : ab n + k ≤ 40
    · rw [decide_eq_true z, decide_eq_false (by omega)]
      rfl
    · rw [decide_eq_false z, decide_eq_true (by omega)]
      rfl
def vD (d : PyData) : PyData := .tuple [.str ("value" : Str), d]
theorem vD_shaped (ns : List Int) : SeqAt.shaped (vD (wD ns)) = true := by
  have h := wD_depth ns
  have hs := wD_shaped ns
  have e1 : (vD (wD ns)).canLay0 = (PyData.canLay0 (.str ("value" : Str)) && (PyData.canLay0 (wD ns) && true)) := rfl
  have e2 : (vD (wD ns)).depth = max (PyData.depth (.str ("value" : Str))) (max (wD ns).depth 0) + 1 := rfl
  have e3 : PyData.depth (.str ("value" : Str)) ≤ 1 := by first | exact Nat.le_refl _ | exact Nat.zero_le _
  unfold SeqAt.shaped
  rw [e1, SeqAt.canLay_of_shaped hs, decide_eq_true (by omega)]
  decide +kernel
theorem vD_wide {ns : List Int} (h : ns.length ≤ 1000) : wide (vD (wD ns)) = true := by
  show (decide (2 ≤ 1000) && (true && (wide (wD ns) && true))) = true
  rw [wD_wide h]
  decide
theorem vD_depth (ns : List Int) : (vD (wD ns)).depth < 12 := by
  have h := wD_depth ns
  have e2 : (vD (wD ns)).depth = max (PyData.depth (.str ("value" : Str))) (max (wD ns).depth 0) + 1 := rfl
  have e3 : PyData.depth (.str ("value" : Str)) ≤ 1 := by first | exact Nat.le_refl _ | exact Nat.zero_le _
  omega
theorem dp_vD {K : PySem.W.Frag} {H : Hp} {q p : Addr} {ns : List Int} (h : SqT K H q [.str ("value" : Str), .ref p]) (w : WT K H p ns) : Dp K H (.ref q) (vD (wD ns)) := Dp.tup h (.cons (.str _) (.cons (dp_wt w) .nil))
theorem dp_eD {K : PySem.W.Frag} {H : Hp} {q : Addr} {j : Nat} (h : SqT K H q [.str (en j), .non]) : Dp K H (.ref q) (eD j) := Dp.tup h (.cons (.str _) (.cons .non .nil))
theorem eD_wide (j : Nat) : wide (eD j) = true := rfl
theorem eD_depth : ∀ j < 20, (eD j).depth < 12 := by decide +kernel
/-! ### programs: texts as lists of signs -/
open PySem.NumText (digitsVal AllDigits)
def sL (l : List Nat) : Str := ⟨l.toArray⟩
theorem sL_cps (l : List Nat) : (sL l).cps.toList = l := rfl
theorem sL_len (l : List Nat) : (sL l).length = l.length := rfl
theorem sL_app (a b : List Nat) : sL a ++ sL b = sL (a ++ b) := by
  show (⟨a.toArray ++ b.toArray⟩ : Str) = ⟨(a ++ b).toArray⟩
  congr 1
  apply Array.toList_inj.mp
  simp
theorem sL_eta (z : Str) : sL z.cps.toList = z := rfl
theorem sL_inj {a b : List Nat} (h : sL a = sL b) : a = b := by
  have e := congrArg (fun z : Str => z.cps.toList) h
  exact e
def CAPS : List Nat := (Str.ofString "ABCDEFGHIJKLMNOPQRSTUVWXYZ").cps.toList
def DIGS : List Nat := (Str.ofString "0123456789").cps.toList
def FDGS : List Nat := (Str.ofString "123456789").cps.toList
def PWRS : List Nat := (Str.ofString "^_").cps.toList
theorem caps_eq : CAPS = [65, 66, 67, 68, 69, 70, 71, 72, 73, 74, 75, 76, 77, 78, 79, 80, 81, 82, 83, 84, 85, 86, 87, 88, 89, 90] := by decide +kernel
theorem digs_eq : DIGS = [48, 49, 50, 51, 52, 53, 54, 55, 56, 57] := by decide +kernel
theorem fdgs_eq : FDGS = [49, 50, 51, 52, 53, 54, 55, 56, 57] := by decide +kernel
theorem pwrs_eq : PWRS = [94, 95] := by decide +kernel
theorem digs_iff (c : Nat) : c ∈ DIGS ↔ 48 ≤ c ∧ c ≤ 57 := by
  rw [digs_eq]
  simp only [List.mem_cons, List.not_mem_nil, or_false]
  omega
theorem fdgs_iff (c : Nat) : c ∈ FDGS ↔ 49 ≤ c ∧ c ≤ 57 := by
  rw [fdgs_eq]
  simp only [List.mem_cons, List.not_mem_nil, or_false]
  omega
theorem caps_iff (c : Nat) : c ∈ CAPS ↔ 65 ≤ c ∧ c ≤ 90 := by
  rw [caps_eq]
  simp only [List.mem_cons, List.not_mem_nil, or_false]
  omega
theorem pwrs_iff (c : Nat) : c ∈ PWRS ↔ c = 94 ∨ c = 95 := by
  rw [pwrs_eq]
  simp only [List.mem_cons, List.not_mem_nil, or_false]
/-- the sign at p is one of these -/
def seesB (cs : List Nat) (p : Nat) (sg : List Nat) : Bool := match cs[p]? with
  | some c => decide (c ∈ sg)
  | none => false
theorem sees_some {cs sg : List Nat} {p c : Nat} (h : cs[p]? = some c) : seesB cs p sg = decide (c ∈ sg) := by unfold seesB; rw [h]
theorem sees_none {cs sg : List Nat} {p : Nat} (h : cs[p]? = none) : seesB cs p sg = false := by unfold seesB; rw [h]
theorem sees_get {cs sg : List Nat} {p : Nat} (h : seesB cs p sg = true) : ∃ c, cs[p]? = some c ∧ c ∈ sg := by
  cases e : cs[p]? with
  | none => rw [sees_none e] at h; cases h
  | some c =>
    rw [sees_some e] at h
    exact ⟨c, rfl, of_decide_eq_true h⟩
/-- the digits from p, at most m -/
def dgs (cs : List Nat) : Nat → Nat → List Nat
  | _, 0 => []
  | p, m + 1 => match cs[p]? with
    | some c => if c ∈ DIGS then c :: dgs cs (p + 1) m else []
    | none => []
theorem dgs_len (cs : List Nat) : ∀ p m, (dgs cs p m).length ≤ m
  | _, 0 => Nat.le_refl _
  | p, m + 1 => by
    unfold dgs
    cases cs[p]? with
    | none => exact Nat.zero_le _
    | some c =>
      show (if c ∈ DIGS then c :: dgs cs (p + 1) m else []).length ≤ m + 1
      split
      · have := dgs_len cs (p + 1) m
        rw [List.length_cons]
        omega
      · exact Nat.zero_le _
theorem dgs_end (cs : List Nat) : ∀ p m, p ≤ cs.length → p + (dgs cs p m).length ≤ cs.length
  | p, 0, h => h
  | p, m + 1, h => by
    unfold dgs
    cases e : cs[p]? with
    | none => exact h
    | some c =>
      have hp := (List.getElem?_eq_some_iff.mp e).1
      show p + (if c ∈ DIGS then c :: dgs cs (p + 1) m else []).length ≤ cs.length
      split
      · have := dgs_end cs (p + 1) m hp
        rw [List.length_cons]
        omega
      · exact h
theorem dgs_all (cs : List Nat) : ∀ p m c, c ∈ dgs cs p m → c ∈ DIGS
  | p, 0, c, h => nomatch h
  | p, m + 1, c, h => by
    unfold dgs at h
    cases e : cs[p]? with
    | none => rw [e] at h; cases h
    | some d =>
      rw [e] at h
      have h : c ∈ (if d ∈ DIGS then d :: dgs cs (p + 1) m else []) := h
      by_cases z : d ∈ DIGS
      · rw [if_pos z] at h
        rcases List.mem_cons.mp h with rfl | h
        · exact z
        · exact dgs_all cs _ _ c h
      · rw [if_neg z] at h
        cases h
theorem dgs_step {cs : List Nat} {p m c : Nat} (h : cs[p]? = some c) (hc : c ∈ DIGS) : dgs cs p (m + 1) = c :: dgs cs (p + 1) m := by
  show (match cs[p]? with | some c => if c ∈ DIGS then c :: dgs cs (p + 1) m else [] | none => []) = _
  rw [h]
  exact if_pos hc
theorem dgs_stop {cs : List Nat} {p m : Nat} (h : seesB cs p DIGS = false) : dgs cs p m = [] := by
  cases m with
  | zero => rfl
  | succ m =>
    show (match cs[p]? with | some c => if c ∈ DIGS then c :: dgs cs (p + 1) m else [] | none => []) = _
    cases e : cs[p]? with
    | none => rfl
    | some c =>
      rw [sees_some e] at h
      exact if_neg (of_decide_eq_false h)
/-! ### steps -/
inductive St1 where
  | gen | nm (n : List Nat) | pr | pw (s : Nat) (k : Int)
def St1.kind : St1 → Str
  | .gen => "x"
  | .nm _ => "name"
  | .pr => "pair"
  | .pw s _ => sL [s]
def St1.worth : St1 → V
  | .gen => .int 1
  | .nm n => .str (sL n)
  | .pr => .int 2
  | .pw _ k => .int k
/-- the powers that stand from p on -/
inductive Pw (cs : List Nat) : Nat → List St1 → Nat → Prop
  | stop {p : Nat} : seesB cs p PWRS = false → Pw cs p [] p
  | more {p s c p' : Nat} {ps : List St1} : cs[p]? = some s → s ∈ PWRS → cs[p + 1]? = some c → c ∈ FDGS → Pw cs (p + 2 + (dgs cs (p + 2) 29).length) ps p' → Pw cs p (.pw s (digitsVal (c :: dgs cs (p + 2) 29) : Nat) :: ps) p'
theorem Pw.le {cs : List Nat} {p p' : Nat} {ps : List St1} (h : Pw cs p ps p') : p ≤ p' := by
  induction h with
  | stop _ => exact Nat.le_refl _
  | more _ _ _ _ _ ih => omega
theorem Pw.end {cs : List Nat} {p p' : Nat} {ps : List St1} (h : Pw cs p ps p') : p ≤ cs.length → p' ≤ cs.length := by
  induction h with
  | stop _ => exact id
  | @more p s c p' ps h1 h2 h3 h4 h5 ih =>
    intro _
    have hp := (List.getElem?_eq_some_iff.mp h3).1
    exact ih (dgs_end cs (p + 2) 29 (by omega))
theorem Pw.len {cs : List Nat} {p p' : Nat} {ps : List St1} (h : Pw cs p ps p') : p + ps.length ≤ p' := by
  induction h with
  | stop _ => exact Nat.le_refl _
  | @more p s c p' ps h1 h2 h3 h4 h5 ih => rw [List.length_cons]; omega
/-- the expression that stands from p on, read with a stack of half read brackets -/
inductive Run (cs : List Nat) : Bool → Nat → List Bool → List St1 → Nat → Nat × List St1 × Nat → Prop
  | opn {p d : Nat} {H : List Bool} {S : List St1} {r : Nat × List St1 × Nat} : cs[p]? = some 40 → Run cs true (p + 1) (H ++ [false]) S (max d (H.length + 1)) r → Run cs true p H S d r
  | gen {p p' d : Nat} {H : List Bool} {S ps : List St1} {r : Nat × List St1 × Nat} : cs[p]? = some 120 → Pw cs (p + 1) ps p' → Run cs false p' H (S ++ .gen :: ps) d r → Run cs true p H S d r
  | nm {p p' d c : Nat} {H : List Bool} {S ps : List St1} {r : Nat × List St1 × Nat} : cs[p]? = some c → c ∈ CAPS → Pw cs (p + 1 + (dgs cs (p + 1) 2).length) ps p' → Run cs false p' H (S ++ .nm (c :: dgs cs (p + 1) 2) :: ps) d r → Run cs true p H S d r
  | done {p d : Nat} {S : List St1} : Run cs false p [] S d (p, S, d)
  | again {p d : Nat} {H : List Bool} {S : List St1} {r : Nat × List St1 × Nat} : Run cs true p (H ++ [true]) S d r → Run cs false p (H ++ [false]) S d r
  | close {p p' d : Nat} {H : List Bool} {S ps : List St1} {r : Nat × List St1 × Nat} : cs[p]? = some 41 → Pw cs (p + 1) ps p' → Run cs false p' H (S ++ .pr :: ps) d r → Run cs false p (H ++ [true]) S d r
theorem Run.le {cs : List Nat} {b : Bool} {p d : Nat} {H : List Bool} {S : List St1} {r : Nat × List St1 × Nat} (h : Run cs b p H S d r) : p ≤ r.1 := by
  induction h with
  | opn _ _ ih => omega
  | gen _ hp _ ih => have := hp.le; omega
  | nm _ _ hp _ ih => have := hp.le; omega
  | done => exact Nat.le_refl _
  | again _ ih => exact ih
  | close _ hp _ ih => have := hp.le; omega
theorem Run.len {cs : List Nat} {b : Bool} {p d : Nat} {H : List Bool} {S : List St1} {r : Nat × List St1 × Nat} (h : Run cs b p H S d r) : p + r.2.1.length ≤ r.1 + S.length := by
  induction h with
  | opn _ _ ih => omega
  | gen _ hp _ ih =>
    have := hp.len
    rw [List.length_append, List.length_cons] at ih
    omega
  | nm _ _ hp _ ih =>
    have := hp.len
    rw [List.length_append, List.length_cons] at ih
    omega
  | done => exact Nat.le_refl _
  | again _ ih => exact ih
  | close _ hp _ ih =>
    have := hp.len
    rw [List.length_append, List.length_cons] at ih
    omega
structure Df where
  nm : List Nat
  ss : List St1
  tx : List Nat
/-- the definition that stands from p on -/
inductive DefR (cs : List Nat) : Nat → Nat → Df → Nat → Nat → Prop
  | mk {p d p' d' c : Nat} {S : List St1} : cs[p]? = some c → c ∈ CAPS → cs[p + 1 + (dgs cs (p + 1) 2).length]? = some 61 → Run cs true (p + 2 + (dgs cs (p + 1) 2).length) [] [] d (p', S, d') → DefR cs p d ⟨c :: dgs cs (p + 1) 2, S, (cs.drop p).take (p' - p)⟩ p' d'
theorem DefR.lt {cs : List Nat} {p d p' d' : Nat} {df : Df} (h : DefR cs p d df p' d') : p < p' := by
  cases h with
  | mk h1 h2 h3 h4 =>
    have z : p + 2 + (dgs cs (p + 1) 2).length ≤ p' := h4.le
    omega
/-- what follows a definition up to the end -/
inductive Src (cs : List Nat) : Nat → Nat → List Df → Nat → Prop
  | stop {d : Nat} : Src cs cs.length d [] d
  | more {p d p' d' dE : Nat} {df : Df} {dfs : List Df} : cs[p]? = some 59 → DefR cs (p + 1) d df p' d' → Src cs p' d' dfs dE → Src cs p d (df :: dfs) dE
theorem Src.p_le {cs : List Nat} {p d dE : Nat} {dfs : List Df} (h : Src cs p d dfs dE) : p ≤ cs.length := by
  cases h with
  | stop => exact Nat.le_refl _
  | more h _ _ => exact Nat.le_of_lt (List.getElem?_eq_some_iff.mp h).1
/-! ### expressions, their texts and their steps -/
inductive Ex where
  | x | nm (n : List Nat) | up (l r : Ex) | pw (rt : Bool) (e : Ex) (k : Nat)
def natD (k : Nat) : List Nat := (Nat.toDigits 10 k).map Char.toNat
def pwS (rt : Bool) : Nat := if rt = true then 94 else 95
def Ex.txt : Ex → List Nat
  | .x => [120]
  | .nm n => n
  | .up l r => 40 :: (l.txt ++ (r.txt ++ [41]))
  | .pw b e k => e.txt ++ (pwS b :: natD k)
def Ex.st : Ex → List St1
  | .x => [.gen]
  | .nm n => [.nm n]
  | .up l r => l.st ++ (r.st ++ [.pr])
  | .pw b e k => e.st ++ [.pw (pwS b) (k : Int)]
def OkNm (n : List Nat) : Prop := ∃ c ds, n = c :: ds ∧ c ∈ CAPS ∧ (∀ d ∈ ds, d ∈ DIGS) ∧ ds.length ≤ 2
def Ex.ok : Ex → Prop
  | .x => True
  | .nm n => OkNm n
  | .up l r => l.ok ∧ r.ok
  | .pw _ e k => e.ok ∧ 1 ≤ k ∧ k < 10 ^ 30
def Ex.nest : Ex → Nat
  | .x => 0
  | .nm _ => 0
  | .up l r => 1 + max l.nest r.nest
  | .pw _ e _ => e.nest
/-- the first sign is no digit -/
def Ndg (l : List Nat) : Prop := ∀ c r, l = c :: r → c ∉ DIGS
theorem at_drop {cs r : List Nat} {p c : Nat} (h : cs.drop p = c :: r) : cs[p]? = some c := by
  have e : (cs.drop p)[0]? = some c := by rw [h]; rfl
  rw [List.getElem?_drop] at e
  exact e
theorem drop_at {cs r : List Nat} {p c : Nat} (h : cs.drop p = c :: r) : cs.drop (p + 1) = r := by
  have e : (cs.drop p).drop 1 = r := by rw [h]; rfl
  rw [List.drop_drop] at e
  exact e
theorem drop_app {cs a r : List Nat} {p : Nat} (h : cs.drop p = a ++ r) : cs.drop (p + a.length) = r := by
  have e : (cs.drop p).drop a.length = r := by rw [h, List.drop_left]
  rw [List.drop_drop] at e
  exact e
theorem drop_nil {cs : List Nat} {p : Nat} (h : cs.drop p = []) : cs[p]? = none := by
  rw [List.getElem?_eq_none_iff]
  exact List.drop_eq_nil_iff.mp h
theorem sees_ndg {cs r : List Nat} {p : Nat} (h : cs.drop p = r) (hr : Ndg r) : seesB cs p DIGS = false := by
  cases r with
  | nil => exact sees_none (drop_nil h)
  | cons c r =>
    rw [sees_some (at_drop h)]
    exact decide_eq_false (hr c r rfl)
theorem dgs_read {cs : List Nat} : ∀ {ds r : List Nat} {p m : Nat}, cs.drop p = ds ++ r → (∀ d ∈ ds, d ∈ DIGS) → ds.length ≤ m → Ndg r → dgs cs p m = ds
  | [], r, p, m, h, _, _, hr => dgs_stop (sees_ndg h hr)
  | d :: ds, r, p, m, h, hd, hm, hr => by
    obtain ⟨m, rfl⟩ : ∃ k, m = k + 1 := ⟨m - 1, by rw [List.length_cons] at hm; omega⟩
    have h : cs.drop p = d :: (ds ++ r) := h
    rw [dgs_step (at_drop h) (hd d List.mem_cons_self), dgs_read (drop_at h) (fun x hx => hd x (List.mem_cons_of_mem _ hx)) (by rw [List.length_cons] at hm; omega) hr]
theorem natD_digits (k : Nat) : ∀ d ∈ natD k, d ∈ DIGS := fun d hd => by
  obtain ⟨ch, hch, e⟩ := List.mem_map.mp hd
  have r := PyProof.Rows.digit_range (Nat.isDigit_of_mem_toDigits (by decide) (by decide) hch)
  rw [← e, digs_iff]
  exact r
theorem natD_head : ∀ k : Nat, 1 ≤ k → ∃ c ds, natD k = c :: ds ∧ 49 ≤ c := by
  intro k
  induction k using Nat.strongRecOn with
  | _ k ih =>
    intro hk
    by_cases h : k < 10
    · refine ⟨48 + k, [], ?_, by omega⟩
      unfold natD
      rw [Nat.toDigits_of_lt_base h]
      have z : ∀ d : Nat, d < 10 → (Nat.digitChar d).toNat = 48 + d := by decide
      show [(Nat.digitChar k).toNat] = _
      rw [z k h]
    · obtain ⟨c, ds, e, hc⟩ := ih (k / 10) (by omega) (by omega)
      have t : Nat.toDigits 10 (k / 10) ++ Nat.toDigits 10 (k % 10) = Nat.toDigits 10 (10 * (k / 10) + k % 10) := Nat.toDigits_append_toDigits (by decide) (by omega) (Nat.mod_lt k (by decide))
      rw [Nat.div_add_mod] at t
      have e2 : natD k = natD (k / 10) ++ natD (k % 10) := by
        unfold natD
        rw [← t, List.map_append]
      exact ⟨c, ds ++ natD (k % 10), by rw [e2, e]; rfl, hc⟩
theorem natD_ne {k : Nat} (hk : 1 ≤ k) (hk2 : k < 10 ^ 30) : ∃ c ds, natD k = c :: ds ∧ c ∈ FDGS ∧ (∀ d ∈ ds, d ∈ DIGS) ∧ ds.length ≤ 29 ∧ digitsVal (c :: ds) = k := by
  have all := natD_digits k
  have hv : digitsVal (natD k) = k := PySem.W.KIN.val_back k
  have hl : (natD k).length ≤ 30 := by
    unfold natD
    rw [List.length_map]
    exact PyProof.Rows.digits10_le (by decide) hk2
  obtain ⟨c, ds, e, hc⟩ := natD_head k hk
  rw [e] at all hv hl
  have h2 := (digs_iff c).mp (all c List.mem_cons_self)
  exact ⟨c, ds, e, (fdgs_iff c).mpr ⟨hc, h2.2⟩, fun d hd => all d (List.mem_cons_of_mem _ hd), by rw [List.length_cons] at hl; omega, hv⟩
theorem Ex.hd : ∀ {e : Ex}, e.ok → ∃ c t, e.txt = c :: t ∧ c ∉ DIGS ∧ c ∉ PWRS
  | .x, _ => ⟨120, [], rfl, by rw [digs_iff]; omega, by rw [pwrs_iff]; omega⟩
  | .nm n, h => by
    obtain ⟨c, ds, rfl, hc, _⟩ := (show OkNm n from h)
    have := (caps_iff c).mp hc
    exact ⟨c, ds, rfl, by rw [digs_iff]; omega, by rw [pwrs_iff]; omega⟩
  | .up l r, _ => ⟨40, _, rfl, by rw [digs_iff]; omega, by rw [pwrs_iff]; omega⟩
  | .pw b e k, h => by
    obtain ⟨c, t, e1, h1, h2⟩ := Ex.hd (e := e) h.1
    refine ⟨c, t ++ (pwS b :: natD k), ?_, h1, h2⟩
    show e.txt ++ _ = _
    rw [e1]
    rfl
theorem pwS_in (b : Bool) : pwS b ∈ PWRS := by
  rw [pwrs_iff]
  cases b
  · exact .inr rfl
  · exact .inl rfl
theorem pws_nodig {c : Nat} (h : c ∈ PWRS) : c ∉ DIGS := by
  rw [pwrs_iff] at h
  rw [digs_iff]
  omega
/-- reading an expression's text -/
theorem run_ex {cs : List Nat} : ∀ (e : Ex), e.ok → ∀ (p p' d : Nat) (H : List Bool) (S ps : List St1) (rest : List Nat), cs.drop p = e.txt ++ rest → Ndg rest → Pw cs (p + e.txt.length) ps p' → H.length ≤ d →
    ∃ d', d ≤ d' ∧ d' ≤ max d (H.length + e.nest) ∧ ∀ r, Run cs false p' H (S ++ (e.st ++ ps)) d' r → Run cs true p H S d r
  | .x, _, p, p', d, H, S, ps, rest, h, hr, hp, hd => ⟨d, Nat.le_refl _, by omega, fun r hR => Run.gen (at_drop h) hp hR⟩
  | .nm n, hok, p, p', d, H, S, ps, rest, h, hr, hp, hd => by
    obtain ⟨c, ds, rfl, hc, hds, hl⟩ := (show OkNm n from hok)
    have h : cs.drop p = c :: (ds ++ rest) := h
    have e := dgs_read (drop_at h) hds hl hr
    have hp : Pw cs (p + (ds.length + 1)) ps p' := hp
    refine ⟨d, Nat.le_refl _, by omega, fun r hR => Run.nm (at_drop h) hc (ps := ps) (p' := p') ?_ ?_⟩
    · rw [e, show p + 1 + ds.length = p + (ds.length + 1) by omega]
      exact hp
    · rw [e]
      exact hR
  | .pw b e k, hok, p, p', d, H, S, ps, rest, h, hr, hp, hd => by
    obtain ⟨h1, hk1, hk2⟩ := (show e.ok ∧ 1 ≤ k ∧ k < 10 ^ 30 from hok)
    have h : cs.drop p = (e.txt ++ (pwS b :: natD k)) ++ rest := h
    rw [List.append_assoc] at h
    obtain ⟨c, ds, en, hc, hds, hl, hv⟩ := natD_ne hk1 hk2
    have h2 := drop_app h
    rw [en] at h2
    have h2 : cs.drop (p + e.txt.length) = pwS b :: c :: (ds ++ rest) := h2
    have h3 := drop_at h2
    have h4 := drop_at h3
    have ed := dgs_read h4 hds hl hr
    have len : (Ex.pw b e k).txt.length = e.txt.length + (ds.length + 2) := by
      show (e.txt ++ (pwS b :: natD k)).length = _
      rw [List.length_append, en, List.length_cons, List.length_cons]
    rw [len] at hp
    have hP : Pw cs (p + e.txt.length) (.pw (pwS b) (k : Int) :: ps) p' := by
      have z := Pw.more (cs := cs) (p := p + e.txt.length) (ps := ps) (p' := p') (at_drop h2) (pwS_in b) (at_drop h3) hc (by
        rw [show p + e.txt.length + 2 = p + e.txt.length + 1 + 1 from rfl, ed, show p + e.txt.length + 1 + 1 + ds.length = p + (e.txt.length + (ds.length + 2)) by omega]
        exact hp)
      rw [show p + e.txt.length + 2 = p + e.txt.length + 1 + 1 from rfl, ed, hv] at z
      exact z
    obtain ⟨d', a1, a2, a3⟩ := run_ex e h1 p p' d H S _ _ h (fun c' r' ec => by cases ec; exact pws_nodig (pwS_in b)) hP hd
    refine ⟨d', a1, a2, fun r hR => a3 r ?_⟩
    have hR : Run cs false p' H (S ++ ((e.st ++ [.pw (pwS b) (k : Int)]) ++ ps)) d' r := hR
    rw [List.append_assoc] at hR
    exact hR
  | .up l r, hok, p, p', d, H, S, ps, rest, h, hr, hp, hd => by
    obtain ⟨hl, hrr⟩ := (show l.ok ∧ r.ok from hok)
    have h : cs.drop p = 40 :: ((l.txt ++ (r.txt ++ [41])) ++ rest) := h
    have h1 := drop_at h
    rw [List.append_assoc, List.append_assoc] at h1
    have h2 := drop_app h1
    have h3 := drop_app h2
    have h3 : cs.drop (p + 1 + l.txt.length + r.txt.length) = 41 :: rest := h3
    have len : (Ex.up l r).txt.length = 1 + l.txt.length + r.txt.length + 1 := by
      show (40 :: (l.txt ++ (r.txt ++ [41]))).length = _
      rw [List.length_cons, List.length_append, List.length_append, List.length_singleton]
      omega
    rw [len] at hp
    obtain ⟨c, t, et, nd, np⟩ := Ex.hd hrr
    have ndr : Ndg (r.txt ++ ([41] ++ rest)) := fun c' r' ec => by
      rw [et] at ec
      cases ec
      exact nd
    have pl : Pw cs (p + 1 + l.txt.length) [] (p + 1 + l.txt.length) := Pw.stop (by
      rw [et] at h2
      have h2 : cs.drop (p + 1 + l.txt.length) = c :: (t ++ ([41] ++ rest)) := h2
      rw [sees_some (at_drop h2)]
      exact decide_eq_false np)
    have pr : Pw cs (p + 1 + l.txt.length + r.txt.length) [] (p + 1 + l.txt.length + r.txt.length) := Pw.stop (by
      rw [sees_some (at_drop h3)]
      exact decide_eq_false (by rw [pwrs_iff]; omega))
    have hH : ∀ b : Bool, (H ++ [b]).length = H.length + 1 := fun b => by rw [List.length_append]; rfl
    obtain ⟨d1, b1, b2, b3⟩ := run_ex l hl (p + 1) _ (max d (H.length + 1)) (H ++ [false]) S [] _ h1 ndr pl (by rw [hH]; omega)
    obtain ⟨d2, c1, c2, c3⟩ := run_ex r hrr _ _ d1 (H ++ [true]) (S ++ (l.st ++ [])) [] _ h2 (fun c' r' ec => by cases ec; rw [digs_iff]; omega) pr (by rw [hH]; omega)
    refine ⟨d2, by omega, ?_, fun R hR => Run.opn (at_drop h) (b3 R (Run.again (c3 R (Run.close (ps := ps) (p' := p') (at_drop h3) ?_ ?_))))⟩
    · rw [hH] at b2 c2
      show d2 ≤ max d (H.length + (1 + max l.nest r.nest))
      omega
    · rw [show p + 1 + l.txt.length + r.txt.length + 1 = p + (1 + l.txt.length + r.txt.length + 1) by omega]
      exact hp
    · have hR : Run cs false p' H (S ++ ((l.st ++ (r.st ++ [.pr])) ++ ps)) d2 R := hR
      have e : (S ++ (l.st ++ [])) ++ (r.st ++ []) ++ .pr :: ps = S ++ ((l.st ++ (r.st ++ [.pr])) ++ ps) := by simp
      rw [e]
      exact hR
structure Row where
  nm : List Nat
  e : Ex
def Row.txt (r : Row) : List Nat := r.nm ++ (61 :: r.e.txt)
def Row.ok (r : Row) : Prop := OkNm r.nm ∧ r.e.ok ∧ r.e.nest ≤ 30
def Row.df (r : Row) : Df := ⟨r.nm, r.e.st, r.txt⟩
theorem def_row {cs : List Nat} {r : Row} {p d : Nat} {rest : List Nat} (hr : r.ok) (hd : d ≤ 30) (h : cs.drop p = r.txt ++ rest) (hs : Ndg rest) (hs2 : ∀ c t, rest = c :: t → c ∉ PWRS) : ∃ d', d' ≤ 30 ∧ DefR cs p d r.df (p + r.txt.length) d' := by
  obtain ⟨nm, e⟩ := r
  obtain ⟨⟨c, ds, rfl, hc, hds, hl⟩, he, hn⟩ := hr
  have h : cs.drop p = ((c :: ds) ++ (61 :: e.txt)) ++ rest := h
  rw [List.append_assoc] at h
  have h0 := h
  have h : cs.drop p = c :: (ds ++ (61 :: (e.txt ++ rest))) := h
  have h1 := drop_at h
  have ed := dgs_read h1 hds hl (fun c' r' ec => by cases ec; rw [digs_iff]; omega)
  have h2 := drop_app h1
  have h3 := drop_at h2
  have h4 := drop_app h3
  have pe : Pw cs (p + 1 + ds.length + 1 + e.txt.length) [] (p + 1 + ds.length + 1 + e.txt.length) := Pw.stop (by
    cases rest with
    | nil => exact sees_none (drop_nil h4)
    | cons c' t =>
      rw [sees_some (at_drop h4)]
      exact decide_eq_false (hs2 c' t rfl))
  obtain ⟨d', a1, a2, a3⟩ := run_ex e he _ _ d [] [] [] rest h3 hs pe (Nat.zero_le _)
  have a2 : d' ≤ max d (0 + e.nest) := a2
  have hn : e.nest ≤ 30 := hn
  have len : (Row.txt ⟨c :: ds, e⟩).length = 1 + ds.length + 1 + e.txt.length := by
    show ((c :: ds) ++ (61 :: e.txt)).length = _
    rw [List.length_append, List.length_cons, List.length_cons]
    omega
  refine ⟨d', by omega, ?_⟩
  have R := a3 _ Run.done
  rw [show ([] : List St1) ++ (e.st ++ []) = e.st by simp] at R
  have z := DefR.mk (cs := cs) (p := p) (d := d) (p' := p + 1 + ds.length + 1 + e.txt.length) (d' := d') (S := e.st) (at_drop h) hc (by rw [ed]; exact at_drop h2) (by
    rw [ed, show p + 2 + ds.length = p + 1 + ds.length + 1 by omega]
    exact R)
  have et : (cs.drop p).take (p + 1 + ds.length + 1 + e.txt.length - p) = Row.txt ⟨c :: ds, e⟩ := by
    rw [h0, show p + 1 + ds.length + 1 + e.txt.length - p = (Row.txt ⟨c :: ds, e⟩).length by rw [len]; omega]
    have e2 : (c :: ds) ++ (61 :: e.txt ++ rest) = Row.txt ⟨c :: ds, e⟩ ++ rest := by
      show _ = ((c :: ds) ++ (61 :: e.txt)) ++ rest
      rw [List.append_assoc]
    rw [e2, List.take_left]
  rw [ed, et] at z
  rw [len, show p + (1 + ds.length + 1 + e.txt.length) = p + 1 + ds.length + 1 + e.txt.length by omega]
  exact z
/-- the text of a program's rows behind the first -/
def tailT : List Row → List Nat
  | [] => []
  | r :: rs => 59 :: (r.txt ++ tailT rs)
theorem src_rows {cs : List Nat} : ∀ (rs : List Row) (p d : Nat), (∀ r ∈ rs, r.ok) → d ≤ 30 → p ≤ cs.length → cs.drop p = tailT rs → ∃ dE, dE ≤ 30 ∧ Src cs p d (rs.map Row.df) dE
  | [], p, d, _, hd, hp, h => by
    have e : cs.length ≤ p := List.drop_eq_nil_iff.mp h
    obtain rfl : p = cs.length := by omega
    exact ⟨d, hd, Src.stop⟩
  | r :: rs, p, d, hok, hd, hp, h => by
    have h : cs.drop p = 59 :: (r.txt ++ tailT rs) := h
    have h1 := drop_at h
    have nd : Ndg (tailT rs) := fun c t ec => by
      cases rs with
      | nil => cases ec
      | cons r' rs => cases ec; rw [digs_iff]; omega
    have np : ∀ c t, tailT rs = c :: t → c ∉ PWRS := fun c t ec => by
      cases rs with
      | nil => cases ec
      | cons r' rs => cases ec; rw [pwrs_iff]; omega
    obtain ⟨d', hd', hD⟩ := def_row (hok r List.mem_cons_self) hd h1 nd np
    have h2 := drop_app h1
    have hp2 : p + 1 + r.txt.length ≤ cs.length := by
      have l1 := congrArg List.length h1
      rw [List.length_drop, List.length_append] at l1
      have := (List.getElem?_eq_some_iff.mp (at_drop h)).1
      omega
    obtain ⟨dE, hE, hS⟩ := src_rows rs _ d' (fun x hx => hok x (List.mem_cons_of_mem _ hx)) hd' hp2 h2
    exact ⟨dE, hE, Src.more (at_drop h) hD hS⟩
def rowsT : List Row → List Nat
  | [] => []
  | r :: rs => r.txt ++ tailT rs
theorem src_first {r : Row} {rs : List Row} (hok : ∀ x ∈ r :: rs, x.ok) : ∃ p d dE, dE ≤ 30 ∧ DefR (rowsT (r :: rs)) 0 0 r.df p d ∧ Src (rowsT (r :: rs)) p d (rs.map Row.df) dE := by
  have nd : Ndg (tailT rs) := fun c t ec => by
    cases rs with
    | nil => cases ec
    | cons r' rs => cases ec; rw [digs_iff]; omega
  have np : ∀ c t, tailT rs = c :: t → c ∉ PWRS := fun c t ec => by
    cases rs with
    | nil => cases ec
    | cons r' rs => cases ec; rw [pwrs_iff]; omega
  have h : (rowsT (r :: rs)).drop 0 = r.txt ++ tailT rs := rfl
  obtain ⟨d', hd', hD⟩ := def_row (hok r List.mem_cons_self) (Nat.zero_le 30) h nd np
  have h2 := drop_app h
  have hp2 : 0 + r.txt.length ≤ (rowsT (r :: rs)).length := by
    show 0 + r.txt.length ≤ (r.txt ++ tailT rs).length
    rw [List.length_append]
    omega
  obtain ⟨dE, hE, hS⟩ := src_rows rs _ d' (fun x hx => hok x (List.mem_cons_of_mem _ hx)) hd' hp2 h2
  exact ⟨_, d', dE, hE, hD, hS⟩
/-! ### a method of a class -/
structure Mt (K : PySem.W.Frag) (C : Addr) (nm qual : Str) (st : Stmt) (ps : List Str) (f : Addr) (fd : FuncData) : Prop where
  F : Fun K nm qual st f fd
  b : Binds K fd ps []
  m : Meth K C nm f
/-! ### the class Reader -/
structure RdT (K : PySem.W.Frag) (mg : Str → Option Value) (C : Addr) : Prop where
  cl : Cls K C
  n1 : NoAttr K C "text"
  n2 : NoAttr K C "place"
  n3 : NoAttr K C "deepest"
  mgC : mg "Reader" = some (.ref C)
theorem rne1 : ¬ (("text" : Str) = "place") := by decide +kernel
theorem rne2 : ¬ (("text" : Str) = "deepest") := by decide +kernel
theorem rne3 : ¬ (("place" : Str) = "deepest") := by decide +kernel
def rf (z : Str) (p d : Nat) : List (Str × V) := [("text", .str z), ("place", .int (p : Int)), ("deepest", .int (d : Int))]
theorem look_hd (a : Str) (v : V) (r : List (Str × V)) : ((a, v) :: r).lookup a = some v := by
  rw [List.lookup_cons, beq_self_eq_true]
theorem look_tl {a b : Str} (v : V) (r : List (Str × V)) (h : ¬ a = b) : ((b, v) :: r).lookup a = r.lookup a := by
  have e : (a == b) = false := beq_eq_false_iff_ne.mpr h
  rw [List.lookup_cons, e]
theorem rf_t (z : Str) (p d : Nat) : (rf z p d).lookup ("text" : Str) = some (.str z) := look_hd _ _ _
theorem rf_p (z : Str) (p d : Nat) : (rf z p d).lookup ("place" : Str) = some (.int (p : Int)) := by
  unfold rf
  rw [look_tl _ _ (Ne.symm rne1), look_hd]
theorem rf_d (z : Str) (p d : Nat) : (rf z p d).lookup ("deepest" : Str) = some (.int (d : Int)) := by
  unfold rf
  rw [look_tl _ _ (Ne.symm rne2), look_tl _ _ (Ne.symm rne3), look_hd]
theorem rf_no (z : Str) (p d : Nat) {m : Str} (h1 : ¬ m = "text") (h2 : ¬ m = "place") (h3 : ¬ m = "deepest") : (rf z p d).lookup m = none := by
  unfold rf
  rw [look_tl _ _ h1, look_tl _ _ h2, look_tl _ _ h3]
  rfl
theorem put_hd (a : Str) (v w : V) (r : List (Str × V)) : putF a v ((a, w) :: r) = (a, v) :: r := if_pos rfl
theorem put_tl {a b : Str} (v w : V) (r : List (Str × V)) (h : ¬ b = a) : putF a v ((b, w) :: r) = (b, w) :: putF a v r := if_neg h
theorem rf_putp (z : Str) (p d q : Nat) : putF "place" (.int (q : Int)) (rf z p d) = rf z q d := by
  unfold rf
  rw [put_tl _ _ _ rne1, put_hd]
theorem rf_putd (z : Str) (p d e : Nat) : putF "deepest" (.int (e : Int)) (rf z p d) = rf z p e := by
  unfold rf
  rw [put_tl _ _ _ rne2, put_tl _ _ _ rne3, put_hd]
theorem rf_new (z : Str) : putF "deepest" (.int 0) (putF "place" (.int 0) (putF "text" (.str z) [])) = rf z 0 0 := by
  show putF "deepest" (.int 0) (putF "place" (.int 0) [("text", .str z)]) = _
  rw [put_tl _ _ _ rne1]
  show putF "deepest" (.int 0) [("text", .str z), ("place", .int 0)] = _
  rw [put_tl _ _ _ rne2, put_tl _ _ _ rne3]
  rfl
structure RdA (C x : Addr) (cs : List Nat) (p d : Nat) (H : Hp) : Prop where
  ix : ∃ dx, H x = some (.ins C dx (rf (sL cs) p d))
  hp : p ≤ cs.length
  hl : cs.length ≤ 10000
theorem RdA.same {C x : Addr} {cs : List Nat} {p d : Nat} {H H' : Hp} (h : RdA C x cs p d H) (s : Same H H') : RdA C x cs p d H' := by
  obtain ⟨⟨dx, hx⟩, h2, h3⟩ := h
  exact ⟨⟨dx, s _ _ hx⟩, h2, h3⟩
/-- a step -/
def StV (K : PySem.W.Frag) (H : Hp) (v : V) (s : St1) : Prop := ∃ q, v = .ref q ∧ SqT K H q [.str s.kind, s.worth]
inductive StAll (K : PySem.W.Frag) (H : Hp) : List V → List St1 → Prop
  | nil : StAll K H [] []
  | cons {v : V} {s : St1} {vs : List V} {ss : List St1} : StV K H v s → StAll K H vs ss → StAll K H (v :: vs) (s :: ss)
theorem StV.tp {K : PySem.W.Frag} {H H' : Hp} {v : V} {s : St1} (e : Tp H H') (h : StV K H v s) : StV K H' v s := by
  obtain ⟨q, h1, h2⟩ := h
  exact ⟨q, h1, e.sqT h2⟩
theorem StAll.tp {K : PySem.W.Frag} {H H' : Hp} {vs : List V} {ss : List St1} (e : Tp H H') (h : StAll K H vs ss) : StAll K H' vs ss := by
  induction h with
  | nil => exact .nil
  | cons h1 _ ih => exact .cons (h1.tp e) ih
theorem StAll.app {K : PySem.W.Frag} {H : Hp} {vs ws : List V} {ss ts : List St1} (h : StAll K H vs ss) (h2 : StAll K H ws ts) : StAll K H (vs ++ ws) (ss ++ ts) := by
  induction h with
  | nil => exact h2
  | cons h1 _ ih => exact .cons h1 ih
theorem StAll.len {K : PySem.W.Frag} {H : Hp} {vs : List V} {ss : List St1} (h : StAll K H vs ss) : vs.length = ss.length := by
  induction h with
  | nil => rfl
  | cons _ _ ih => exact congrArg (· + 1) ih
theorem StAll.at {K : PySem.W.Frag} {H : Hp} {vs : List V} {ss : List St1} (h : StAll K H vs ss) : ∀ {i : Nat} {v : V}, vs[i]? = some v → ∃ s, ss[i]? = some s ∧ StV K H v s := by
  induction h with
  | nil => intro i v e; simp at e
  | cons h1 _ ih =>
    intro i v e
    cases i with
    | zero => cases e; exact ⟨_, rfl, h1⟩
    | succ i => exact ih e
theorem sgn1 (c : Nat) : (⟨#[c]⟩ : Str) = sL [c] := rfl
theorem fits16 {n : Nat} (h : n ≤ 16000) : n ≤ sizeLine := Nat.le_trans h (by decide)
def spREnd (C : Addr) : Sp := fun vs H Q _ => ∃ (x : Addr) (cs : List Nat) (p d : Nat), vs = [.ref x] ∧ RdA C x cs p d H ∧ Q (.bl (decide (p = cs.length))) H
def spRSees (C : Addr) : Sp := fun vs H Q _ => ∃ (x : Addr) (cs sg : List Nat) (p d : Nat), vs = [.ref x, .str (sL sg)] ∧ RdA C x cs p d H ∧ Q (.bl (seesB cs p sg)) H
def spRTake (C : Addr) : Sp := fun vs H Q _ => ∃ (x : Addr) (cs sg : List Nat) (p d c : Nat), vs = [.ref x, .str (sL sg)] ∧ RdA C x cs p d H ∧ cs[p]? = some c ∧ c ∈ sg ∧ ∀ H', RdA C x cs (p + 1) d H' → But x H H' → Q (.str (sL [c])) H'
def spRDig (C : Addr) : Sp := fun vs H Q _ => ∃ (x : Addr) (cs : List Nat) (p d m : Nat), vs = [.ref x, .int (m : Int)] ∧ RdA C x cs p d H ∧ m ≤ 40 ∧ ∀ H', RdA C x cs (p + (dgs cs p m).length) d H' → But x H H' → Q (.str (sL (dgs cs p m))) H'
def spRName (C : Addr) : Sp := fun vs H Q _ => ∃ (x : Addr) (cs : List Nat) (p d c : Nat), vs = [.ref x] ∧ RdA C x cs p d H ∧ cs[p]? = some c ∧ c ∈ CAPS ∧ ∀ H', RdA C x cs (p + 1 + (dgs cs (p + 1) 2).length) d H' → But x H H' → Q (.str (sL (c :: dgs cs (p + 1) 2))) H'
def spRPows (K : PySem.W.Frag) (C : Addr) : Sp := fun vs H Q _ => ∃ (x : Addr) (cs : List Nat) (p d p' : Nat) (ps : List St1), vs = [.ref x] ∧ RdA C x cs p d H ∧ Pw cs p ps p' ∧ ∀ (l : Addr) (us : List V) (H' : Hp), RdA C x cs p' d H' → But x H H' → H l = none → H' l = some (.lst us) → StAll K H' us ps → Q (.ref l) H'
inductive AtomR (cs : List Nat) : Nat → St1 → Nat → Prop
  | gen {p : Nat} : cs[p]? = some 120 → AtomR cs p .gen (p + 1)
  | nm {p c : Nat} : cs[p]? = some c → c ∈ CAPS → AtomR cs p (.nm (c :: dgs cs (p + 1) 2)) (p + 1 + (dgs cs (p + 1) 2).length)
def spRAtom (K : PySem.W.Frag) (C : Addr) : Sp := fun vs H Q _ => ∃ (x : Addr) (cs : List Nat) (p d p' : Nat) (s : St1), vs = [.ref x] ∧ RdA C x cs p d H ∧ AtomR cs p s p' ∧ ∀ (v : V) (H' : Hp), RdA C x cs p' d H' → But x H H' → StV K H' v s → Q v H'
theorem run_head {cs : List Nat} {p d : Nat} {H : List Bool} {S : List St1} {r : Nat × List St1 × Nat} (h : Run cs true p H S d r) :
    (cs[p]? = some 40 ∧ Run cs true (p + 1) (H ++ [false]) S (max d (H.length + 1)) r) ∨ (seesB cs p [40] = false ∧ ∃ s ps p2 p3, AtomR cs p s p2 ∧ p < p2 ∧ Pw cs p2 ps p3 ∧ Run cs false p3 H (S ++ s :: ps) d r) := by
  generalize hb : true = b at h
  cases h with
  | opn h1 h2 => exact .inl ⟨h1, h2⟩
  | gen h1 h2 h3 => exact .inr ⟨by rw [sees_some h1]; rfl, _, _, _, _, .gen h1, Nat.lt_succ_self _, h2, h3⟩
  | @nm _ _ _ c _ _ _ _ h1 h2 h3 h4 =>
    have := (caps_iff c).mp h2
    exact .inr ⟨by rw [sees_some h1]; exact decide_eq_false (fun z => by have := List.mem_singleton.mp z; omega), _, _, _, _, .nm h1 h2, by omega, h3, h4⟩
  | done => cases hb
  | again _ => cases hb
  | close _ _ _ => cases hb
theorem run_cl {cs : List Nat} {p d : Nat} {H : List Bool} {S : List St1} {r : Nat × List St1 × Nat} (h : Run cs false p H S d r) :
    (H = [] ∧ r = (p, S, d)) ∨ (∃ H0, H = H0 ++ [false] ∧ Run cs true p (H0 ++ [true]) S d r) ∨ ∃ H0 ps p', H = H0 ++ [true] ∧ cs[p]? = some 41 ∧ Pw cs (p + 1) ps p' ∧ Run cs false p' H0 (S ++ .pr :: ps) d r := by
  generalize hb : false = b at h
  cases h with
  | opn _ _ => cases hb
  | gen _ _ _ => cases hb
  | nm _ _ _ _ => cases hb
  | done => exact .inl ⟨rfl, rfl⟩
  | again h1 => exact .inr (.inl ⟨_, rfl, h1⟩)
  | close h1 h2 h3 => exact .inr (.inr ⟨_, _, _, rfl, h1, h2, h3⟩)
def spRExpr (K : PySem.W.Frag) (C : Addr) : Sp := fun vs H Q _ => ∃ (x : Addr) (cs : List Nat) (p d p' d' : Nat) (S : List St1), vs = [.ref x] ∧ RdA C x cs p d H ∧ Run cs true p [] [] d (p', S, d') ∧ ∀ (l : Addr) (us : List V) (H' : Hp), RdA C x cs p' d' H' → But x H H' → H l = none → H' l = some (.lst us) → StAll K H' us S → Q (.ref l) H'
/-- a definition, read behind H0 -/
def DfV (K : PySem.W.Frag) (H0 H : Hp) (v : V) (df : Df) : Prop := ∃ (q l : Addr) (us : List V), v = .ref q ∧ SqT K H q [.str (sL df.nm), .ref l, .str (sL df.tx)] ∧ H0 l = none ∧ H l = some (.lst us) ∧ StAll K H us df.ss
inductive DfAll (K : PySem.W.Frag) (H0 H : Hp) : List V → List Df → Prop
  | nil : DfAll K H0 H [] []
  | cons {v : V} {s : Df} {vs : List V} {ss : List Df} : DfV K H0 H v s → DfAll K H0 H vs ss → DfAll K H0 H (v :: vs) (s :: ss)
theorem DfV.keep {K : PySem.W.Frag} {H0 H H' : Hp} {v : V} {df : Df} (e : Tp H H') (k : ∀ l us, H0 l = none → H l = some (.lst us) → l ∈ (match v with | .ref _ => [l] | _ => []) → H' l = some (.lst us)) (h : DfV K H0 H v df) : DfV K H0 H' v df := by
  obtain ⟨q, l, us, rfl, h2, h3, h4, h5⟩ := h
  exact ⟨q, l, us, rfl, e.sqT h2, h3, k l us h3 h4 (List.mem_singleton.mpr rfl), h5.tp e⟩
theorem DfV.same {K : PySem.W.Frag} {H0 H H' : Hp} {v : V} {df : Df} (s : Same H H') (h : DfV K H0 H v df) : DfV K H0 H' v df := h.keep (Tp.same s) fun l us _ e _ => s _ _ e
theorem DfAll.same {K : PySem.W.Frag} {H0 H H' : Hp} {vs : List V} {ds : List Df} (s : Same H H') (h : DfAll K H0 H vs ds) : DfAll K H0 H' vs ds := by
  induction h with
  | nil => exact .nil
  | cons h1 _ ih => exact .cons (h1.same s) ih
theorem DfAll.app {K : PySem.W.Frag} {H0 H : Hp} {vs ws : List V} {ss ts : List Df} (h : DfAll K H0 H vs ss) (h2 : DfAll K H0 H ws ts) : DfAll K H0 H (vs ++ ws) (ss ++ ts) := by
  induction h with
  | nil => exact h2
  | cons h1 _ ih => exact .cons h1 ih
theorem DfAll.len {K : PySem.W.Frag} {H0 H : Hp} {vs : List V} {ss : List Df} (h : DfAll K H0 H vs ss) : vs.length = ss.length := by
  induction h with
  | nil => rfl
  | cons _ _ ih => exact congrArg (· + 1) ih
theorem DfAll.at {K : PySem.W.Frag} {H0 H : Hp} {vs : List V} {ss : List Df} (h : DfAll K H0 H vs ss) : ∀ {i : Nat} {v : V}, vs[i]? = some v → ∃ s, ss[i]? = some s ∧ DfV K H0 H v s := by
  induction h with
  | nil => intro i v e; simp at e
  | cons h1 _ ih =>
    intro i v e
    cases i with
    | zero => cases e; exact ⟨_, rfl, h1⟩
    | succ i => exact ih e
/-- nothing but the object at x has changed: definitions stay -/
theorem DfV.but {K : PySem.W.Frag} {H0 H H' : Hp} {v : V} {df : Df} {x C dx : Addr} {fs : List (Str × V)} (hx : H x = some (.ins C dx fs)) (e : But x H H') (h : DfV K H0 H v df) : DfV K H0 H' v df := by
  have tp : Tp H H' := fun b xs h => by
    rcases h with h | ⟨o, h⟩
    · exact .inl (e _ _ (ne_of h hx (by intro z; cases z)) h)
    · exact .inr ⟨o, e _ _ (ne_of h hx (by intro z; cases z)) h⟩
  exact h.keep tp fun l us _ el _ => e _ _ (ne_of el hx (by intro z; cases z)) el
theorem DfAll.but {K : PySem.W.Frag} {H0 H H' : Hp} {vs : List V} {ds : List Df} {x C dx : Addr} {fs : List (Str × V)} (hx : H x = some (.ins C dx fs)) (e : But x H H') (h : DfAll K H0 H vs ds) : DfAll K H0 H' vs ds := by
  induction h with
  | nil => exact .nil
  | cons h1 _ ih => exact .cons (h1.but hx e) ih
theorem tp_ins {H H' : Hp} {x C dx : Addr} {fs : List (Str × V)} (hx : H x = some (.ins C dx fs)) (e : But x H H') : Tp H H' := fun b xs h => by
  rcases h with h | ⟨o, h⟩
  · exact .inl (e _ _ (ne_of h hx (by intro z; cases z)) h)
  · exact .inr ⟨o, e _ _ (ne_of h hx (by intro z; cases z)) h⟩
theorem DfV.weak {K : PySem.W.Frag} {H0 H1 H : Hp} {v : V} {df : Df} (k : ∀ b, H0 b = none → H1 b = none) (h : DfV K H0 H v df) : DfV K H1 H v df := by
  obtain ⟨q, l, us, h1, h2, h3, h4, h5⟩ := h
  exact ⟨q, l, us, h1, h2, k _ h3, h4, h5⟩
theorem DfAll.weak {K : PySem.W.Frag} {H0 H1 H : Hp} {vs : List V} {ds : List Df} (k : ∀ b, H0 b = none → H1 b = none) (h : DfAll K H0 H vs ds) : DfAll K H1 H vs ds := by
  induction h with
  | nil => exact .nil
  | cons h1 _ ih => exact .cons (h1.weak k) ih
theorem DfV.set {K : PySem.W.Frag} {H0 H : Hp} {v : V} {df : Df} {l : Addr} {us ws : List V} (hl : H l = some (.lst us)) (h0 : H0 l ≠ none) (h : DfV K H0 H v df) : DfV K H0 (upd H l (.lst ws)) v df := by
  obtain ⟨q, l1, us1, h1, h2, h3, h4, h5⟩ := h
  have ne : l1 ≠ l := fun z => by rw [z] at h3; exact h0 h3
  exact ⟨q, l1, us1, h1, (Tp.but hl But.set).sqT h2, h3, by rw [upd_ne ne]; exact h4, h5.tp (Tp.but hl But.set)⟩
theorem DfAll.set {K : PySem.W.Frag} {H0 H : Hp} {vs : List V} {ds : List Df} {l : Addr} {us ws : List V} (hl : H l = some (.lst us)) (h0 : H0 l ≠ none) (h : DfAll K H0 H vs ds) : DfAll K H0 (upd H l (.lst ws)) vs ds := by
  induction h with
  | nil => exact .nil
  | cons h1 _ ih => exact .cons (h1.set hl h0) ih
def spRDef (K : PySem.W.Frag) (C : Addr) : Sp := fun vs H Q _ => ∃ (H0 : Hp) (x : Addr) (cs : List Nat) (p d p' d' : Nat) (df : Df), vs = [.ref x] ∧ RdA C x cs p d H ∧ DefR cs p d df p' d' ∧ (∀ b, H b = none → H0 b = none) ∧ ∀ (v : V) (H' : Hp), RdA C x cs p' d' H' → But x H H' → DfV K H0 H' v df → Q v H'
def spRFin (C : Addr) : Sp := fun vs H Q _ => ∃ (x : Addr) (cs : List Nat) (d : Nat), vs = [.ref x] ∧ RdA C x cs cs.length d H ∧ d ≤ 30 ∧ Q .non H
def spRInit (C : Addr) : Sp := fun vs H Q _ => ∃ (x dx : Addr) (cs : List Nat), vs = [.ref x, .str (sL cs)] ∧ H x = some (.ins C dx []) ∧ cs.length ≤ 10000 ∧ ∀ H', RdA C x cs 0 0 H' → But x H H' → Q .non H'
/-- what a source's text holds -/
inductive SrcT (cs : List Nat) : List Df → Prop
  | nil : cs = [] → SrcT cs []
  | cons {p d dE : Nat} {df : Df} {dfs : List Df} : DefR cs 0 0 df p d → Src cs p d dfs dE → dE ≤ 30 → SrcT cs (df :: dfs)
theorem srcT_rows {rs : List Row} (h : ∀ r ∈ rs, r.ok) : SrcT (rowsT rs) (rs.map Row.df) := by
  cases rs with
  | nil => exact .nil rfl
  | cons r rs =>
    obtain ⟨p, d, dE, h1, h2, h3⟩ := src_first h
    exact .cons h2 h3 h1
def spRS (K : PySem.W.Frag) : Sp := fun vs H Q _ => ∃ (cs : List Nat) (dfs : List Df), vs = [.str (sL cs)] ∧ cs.length ≤ 10000 ∧ SrcT cs dfs ∧ ∀ (l : Addr) (us : List V) (H' : Hp), Same H H' → H l = none → H' l = some (.lst us) → DfAll K H H' us dfs → Q (.ref l) H'
structure CstR (mg : Str → Option Value) : Prop where
  CAPITALS : ∃ t, mg "CAPITALS" = some (.str "ABCDEFGHIJKLMNOPQRSTUVWXYZ" t)
  DIGITS : ∃ t, mg "DIGITS" = some (.str "0123456789" t)
  FIRST_DIGITS : ∃ t, mg "FIRST_DIGITS" = some (.str "123456789" t)
  MAX_NAME_DIGITS : ∃ t, mg "MAX_NAME_DIGITS" = some (.int 2 t)
  MAX_POWER_DIGITS : ∃ t, mg "MAX_POWER_DIGITS" = some (.int 30 t)
  MAX_NESTING : ∃ t, mg "MAX_NESTING" = some (.int 30 t)
  MAX_DEFINITIONS : ∃ t, mg "MAX_DEFINITIONS" = some (.int 30 t)
section OPN
open PySem PySem.Spec PyProof.Rows
/-! ### ==, != by an own __eq__; repr(o) by an own __repr__ -/
/-- the kind of the other side, and its type -/
inductive OSide (H : Hp) : V → Value → Prop where
  | int (i : Int) : OSide H (.int i) (.type "int")
  | str (z : Str) : OSide H (.str z) (.type "str")
  | lst {l : Addr} {xs : List V} (h : H l = some (.lst xs)) : OSide H (.ref l) (.type "list")
  | ins {a C dx : Addr} {fs : List (Str × V)} (h : H a = some (.ins C dx fs)) : OSide H (.ref a) (.ref C)
theorem OSide.looks {X : Cx} {pins : List (Addr × Obj)} {σ : L2.St} {H : Hp} {s : Shared} {y : V} {u t : Value} (I : Inv X pins σ H s) (o : OSide H y t) (r : RelV y u) : PySem.W.Looks (model X.prog X.w) s.heap (typeOf u) t := by
  cases o with
  | int i =>
    obtain ⟨k, rfl⟩ := (show ∃ t, u = Value.int i t from r)
    exact PySem.W.Looks.of_pure rfl
  | str z =>
    obtain ⟨k, rfl⟩ := (show ∃ t, u = Value.str z t from r)
    exact PySem.W.Looks.of_pure rfl
  | lst h =>
    cases (show u = Value.ref _ from r)
    obtain ⟨its, rv, pl, hz⟩ := I.list (SqL.of (K := X.K) h)
    obtain ⟨o, e1, e2, _⟩ := pl.isList
    exact e2 ▸ (PySem.W.Looks.ld e1).andThen .now
  | ins h =>
    cases (show u = Value.ref _ from r)
    obtain ⟨mB, J', _⟩ := ins_get I.hok h
    obtain ⟨od', J', _⟩ := J'.look
    exact J'.type
def rEqO (K : PySem.W.Frag) (C : Addr) (sp : Sp) (E : XK) : R2 := fun x y H Q => ∃ (a dx : Addr) (fs : List (Str × V)) (t : Value), x = .ref a ∧ H a = some (.ins C dx fs) ∧ OSide H y t ∧ PySem.W.notFirst K C t = true ∧ sp [x, y] H (fun z H' => ∃ b : Bool, z = .bl b ∧ Q (.bl b) H') E
theorem op_eqO {X : Cx} {CX : CXT} {C g : Addr} {n : Nat} {fd : FuncData} {ps : List Str} {sp : Sp} {E : XK} (hs : PySem.W.findIn X.K (.ref C) "__eq__" = some (some (.ref g))) (hf : PySem.W.isFn X.K (.ref g) = true) (F : FnOk X.prog X.w X.K X.mg X.base CX n g fd ps sp) (hr : Room n X.A) (hb : Binds X.K fd ps []) (hx : Passes CX X E) :
    OpR X (compareOp .Eq) (rEqO X.K C sp E) := by
  intro pins s σ H x y v u Q I rx ry h
  obtain ⟨a, dx, fs, t, rfl, ha, o, hn, q⟩ := h
  cases (show v = Value.ref a from rx)
  obtain ⟨mA, J, _⟩ := ins_get I.hok ha
  obtain ⟨od, J, _⟩ := J.look
  obtain ⟨m, hF⟩ := I.fr
  have e : compareOp .Eq (.ref a) u = richCompare .Eq (.ref a) u := rfl
  rw [e]
  refine PySem.W.cmp_K (op := .Eq) (tb := t) hr.units0 hF I.ok.mod.kin J (o.looks I ry) hn hs hf ?_
  refine wpAny_mono (run_fn (us := [.ref a, u]) (vs := [.ref a, y]) (dvs := []) (ds := []) F hr hb .nil hx I (.cons rfl (.cons ry .nil)) q) (fun w s' z => ?_) fun _ _ x => x
  obtain ⟨z', H', I', rz, b, rfl, qz⟩ := z
  cases (show w = Value.bool b from rz)
  exact ⟨V.bl b, H', I', rfl, qz⟩
theorem ns_some_of {K : PySem.W.Frag} {h : Heap} {N : Addr} {mg : Str → Option Value} {n : Str} {v : Value} (X : K.In h) (G : h.Ns N mg) (e : PySem.W.nsIn K N n = some (some v)) : mg n = some v := by
  obtain ⟨o, es, ep, ho, hd, _, hf⟩ := G
  unfold PySem.W.nsIn at e
  split at e
  · rename_i c d es' n' sl q
    have := X _ _ q
    rw [ho] at this
    cases this
    cases hd
    split at e
    · rename_i en he
      cases e
      rw [← hf]
      unfold nsFind findBy
      rw [← Array.find?_toList, he]
      rfl
    · split at e <;> cases e
  · cases e
/-- what the written part says of such a class, for != -/
structure NeC (K : PySem.W.Frag) (C f : Addr) : Prop where
  cls : ∃ nm q N bs hdct sn sub ab col dd k0 k1 k2 k3 k5 newId, K.lookup C = some (excClassObj nm q C N bs [.type "object"] hdct sn sub ab col dd k0 k1 k2 k3 k5 newId) ∧ PySem.W.nsOkIn K N = true ∧ PySem.W.nsIn K N "__eq__" = some (some (.ref f)) ∧ PySem.W.nsIn K N "__ne__" = some none
  fn : ∃ o, K.lookup f = some o ∧ o.cls = .type "function"
def rNeO (C : Addr) (sp : Sp) (E : XK) : R2 := fun x y H Q => ∃ (a dx : Addr) (fs : List (Str × V)) (b dy : Addr) (gs : List (Str × V)), x = .ref a ∧ y = .ref b ∧ H a = some (.ins C dx fs) ∧ H b = some (.ins C dy gs) ∧ sp [x, y] H (fun z H' => ∃ b : Bool, z = .bl b ∧ Q (.bl (!b)) H') E
theorem op_neO {X : Cx} {CX : CXT} {C g : Addr} {n : Nat} {fd : FuncData} {ps : List Str} {sp : Sp} {E : XK} (N : NeC X.K C g) (F : FnOk X.prog X.w X.K X.mg X.base CX n g fd ps sp) (hr : Room (n + 1) X.A) (hb : Binds X.K fd ps []) (hx : Passes CX X E) :
    OpR X (compareOp .NotEq) (rNeO C sp E) := by
  intro pins s σ H x y v u Q I rx ry h
  obtain ⟨a, dx, fs, b, dy, gs, rfl, rfl, ha, hb', q⟩ := h
  cases (show v = Value.ref a from rx)
  cases (show u = Value.ref b from ry)
  obtain ⟨mA, J, _⟩ := ins_get I.hok ha
  obtain ⟨od, J, _⟩ := J.look
  obtain ⟨mB, J', _⟩ := ins_get I.hok hb'
  obtain ⟨od', J', _⟩ := J'.look
  obtain ⟨nm, qn, NN, bs, hdct, sn, sub, ab, col, dd, k0, k1, k2, k3, k5, newId, hC, hok, he, hne⟩ := N.cls
  obtain ⟨fo, hf1, hf2⟩ := N.fn
  have hns : s.heap.Ns NN (s.heap.nsMap NN) := .of_isNs (PySem.W.isNs_of_in I.kIn hok)
  have meq : s.heap.nsMap NN "__eq__" = some (.ref g) := ns_some_of I.kIn hns he
  have mne : s.heap.nsMap NN "__ne__" = none := PySem.W.nsMap_none_of_in I.kIn hok hne
  have XX : s.heap.OwnEqNoNe a C g "object" [.type "object"] := ⟨_, fo, nm, qn, NN, bs, hdct, sn, sub, ab, col, dd, k0, k1, k2, k3, k5, newId, _, _, J.at_, J.cls, I.kIn _ _ hC, hns, meq, I.kIn _ _ hf1, hf2, PySem.F.cmp_object.mro, PySem.F.cmp_object.eq.lookup, mne⟩
  have r2 : Vals [V.ref a, V.ref b] [Value.ref a, Value.ref b] := .cons rfl (.cons rfl .nil)
  have hl : ([Value.ref a, Value.ref b] ++ []).length = ps.length := by
    have z := F.len _ _ _ _ q
    rw [List.append_nil]
    exact z
  obtain ⟨hp, gn, dr, tk, os⟩ := s
  refine compareOp_ne_ownEq PySem.F.cmp_object XX J'.at_ J'.cls (by have := hr.units; omega) (wpAny_mono (Q := EP X pins σ fun z H' => ∃ b : Bool, z = .bl b ∧ Q (.bl (!b)) H') (E := X.xe) (wpAny_call (codeAny_mono (F.run X.A.in1 X.stack _ H ⟨[.ref a, .ref b], []⟩ [.ref a, .ref b] [.ref a, .ref b] _ E hr.in1 I.env0.in1 (by have z := hb _ [.ref a, .ref b] I.kIn hl; rw [List.append_nil] at z; exact z) r2 q) fun r s' hq => ?_)) (fun v s' hv => ?_) fun _ _ y => y)
  · cases r with
    | error e => exact hx pins σ H _ e s' I hq
    | ok fl =>
      cases fl with
      | ret u => exact I.after hq
      | next => exact False.elim hq
      | brk => exact False.elim hq
      | cont => exact False.elim hq
  · obtain ⟨z, H', I', rz, k, rfl, qz⟩ := hv
    cases (show v = Value.bool k from rz)
    exact ⟨k, rfl, V.bl (!k), H', I', rfl, qz⟩
def rReprO (C : Addr) (sp : Sp) (E : XK) : List V → Hp → VK → Prop := fun xs H Q => ∃ (a dx : Addr) (fs : List (Str × V)), xs = [V.ref a] ∧ H a = some (.ins C dx fs) ∧ sp [.ref a] H (fun z H' => ∃ i : Str, z = .str i ∧ Q (.str i) H') E
theorem call_reprO {X : Cx} {CX : CXT} {C g : Addr} {n : Nat} {fd : FuncData} {ps : List Str} {sp : Sp} {E : XK} (hs : PySem.W.findIn X.K (.ref C) "__repr__" = some (some (.ref g))) (hf : PySem.W.isFn X.K (.ref g) = true) (F : FnOk X.prog X.w X.K X.mg X.base CX n g fd ps sp) (hr : Room (n + 1) X.A) (hb : Binds X.K fd ps []) (hx : Passes CX X E) : CallR X (.builtin "repr") (rReprO C sp E) := by
  intro pins s σ H xs us Q I r h
  obtain ⟨a, dx, fs, rfl, e, q⟩ := h
  obtain ⟨u, rfl, ru⟩ := r.one
  cases (show u = Value.ref a from ru)
  obtain ⟨mA, O, _, _, _, _⟩ := ins_get I.hok e
  obtain ⟨od, J, _⟩ := O.look
  obtain ⟨m, hF⟩ := I.fr
  have r2 : Vals [V.ref a] [Value.ref a] := .cons rfl .nil
  have hl : ([Value.ref a] ++ []).length = ps.length := by
    have z := F.len _ _ _ _ q
    rw [List.append_nil]
    exact z
  refine PySem.W.repr_K hr.in1.units0 hF I.ok.mod.kin J hs hf (wpAny_mono (Q := EP X pins σ fun z H' => ∃ i : Str, z = .str i ∧ Q (.str i) H') (E := X.xe) (wpAny_call (codeAny_mono (F.run X.A.in1 X.stack s H ⟨[.ref a], []⟩ [.ref a] [.ref a] _ E hr.in1 I.env0.in1 (by have z := hb s [.ref a] I.kIn hl; rw [List.append_nil] at z; exact z) r2 q) fun r s' hq => ?_)) (fun v s' hv => ?_) fun _ _ y => y)
  · cases r with
    | error e => exact hx pins σ H s e s' I hq
    | ok fl =>
      cases fl with
      | ret u => exact I.after hq
      | next => exact False.elim hq
      | brk => exact False.elim hq
      | cont => exact False.elim hq
  · obtain ⟨z, H', I', rz, i, rfl, qz⟩ := hv
    obtain ⟨t, rfl⟩ := (show ∃ t, v = Value.str i t from rz)
    exact ⟨V.str i, H', I', ⟨_, rfl⟩, qz⟩
end OPN
/-! ### names of a program -/
def nmV (n : List Nat) : V := .str (sL n)
def nmK (n : List Nat) : L2.Key := Sum.inr (sL n)
theorem nmK_inj {a b : List Nat} (h : nmK a = nmK b) : a = b := sL_inj (Sum.inr.inj h)
theorem inV_nm (n : List Nat) (kn : List (List Nat)) : inV (nmV n) (kn.map nmV) = decide (n ∈ kn) := by
  unfold inV
  induction kn with
  | nil => rfl
  | cons a r ih =>
    rw [List.map_cons, List.any_cons, ih]
    by_cases e : a = n
    · have z : eqV (nmV a) (nmV n) = true := by rw [e]; simp [nmV, eqV]
      rw [z, decide_eq_true (List.mem_cons.mpr (.inl e.symm)), Bool.true_or]
    · have z : eqV (nmV a) (nmV n) = false := by
        simp only [nmV, eqV]
        exact decide_eq_false fun z => e (sL_inj z)
      rw [z, Bool.false_or]
      refine decide_eq_decide.mpr ⟨fun h => List.mem_cons_of_mem _ h, fun h => ?_⟩
      rcases List.mem_cons.mp h with h | h
      · exact absurd h.symm e
      · exact h
theorem flat_nms : ∀ kn : List (List Nat), (kn.map nmV).all flatV = true
  | [] => rfl
  | _ :: r => flat_nms r
def St1.isNm : St1 → Bool
  | .nm _ => true
  | _ => false
/-- a power's sign and number -/
def StOk : St1 → Prop
  | .pw s k => s ∈ PWRS ∧ 1 ≤ k ∧ k.natAbs < 2 ^ 100
  | _ => True
theorem kind_is (t : String) (ht : Str.ofString t = sL [120] ∨ Str.ofString t = Str.ofString "name" ∨ Str.ofString t = Str.ofString "pair") : ∀ s : St1, StOk s → decide (V.str s.kind = V.str (Str.ofString t)) = (match s with
    | .gen => decide (Str.ofString t = Str.ofString "x")
    | .nm _ => decide (Str.ofString t = Str.ofString "name")
    | .pr => decide (Str.ofString t = Str.ofString "pair")
    | .pw _ _ => false)
  | .gen, _ => decide_eq_decide.mpr ⟨fun z => (V.str.inj z).symm, fun z => by rw [z]; rfl⟩
  | .nm _, _ => decide_eq_decide.mpr ⟨fun z => (V.str.inj z).symm, fun z => by rw [z]; rfl⟩
  | .pr, _ => decide_eq_decide.mpr ⟨fun z => (V.str.inj z).symm, fun z => by rw [z]; rfl⟩
  | .pw s k, h => decide_eq_false fun z => by
    have z := V.str.inj z
    have hs := (pwrs_iff s).mp h.1
    have z : sL [s] = Str.ofString t := z
    rcases ht with e | e | e
    · rw [e] at z
      have := sL_inj z
      have : s = 120 := by injection this
      omega
    · rw [e] at z
      have this : (1 : Nat) = (Str.ofString "name").length := congrArg Str.length z
      exact absurd this (by decide +kernel)
    · rw [e] at z
      have this : (1 : Nat) = (Str.ofString "pair").length := congrArg Str.length z
      exact absurd this (by decide +kernel)
def OkSeq : List (List Nat) → List Df → Prop
  | _, [] => True
  | kn, df :: r => (∀ n, .nm n ∈ df.ss → n ∈ kn) ∧ df.nm ∉ kn ∧ OkSeq (kn ++ [df.nm]) r
def spChkN (K : PySem.W.Frag) : Sp := fun vs H Q _ => ∃ (H0 : Hp) (kd l : Addr) (kvs : List (L2.Key × V)) (kn : List (List Nat)) (us : List V) (dfs : List Df), vs = [.ref kd, .ref l] ∧ H kd = some (.dK kvs) ∧ kvs.map (·.1) = kn.map nmK ∧ H l = some (.lst us) ∧ DfAll K H0 H us dfs ∧ OkSeq kn dfs ∧ kn.length + dfs.length ≤ 30 ∧ (∀ df ∈ dfs, ∀ s ∈ df.ss, StOk s) ∧ ∀ H', Same H H' → Q .non H'
/-! ### what steps give -/
section
variable {α : Type}
/-- the stack behind the steps, its top first -/
def evS (g : α) (j : α → α → α) (pw : Nat → α → Int → α) (kn : List Nat → Option α) : List St1 → List α → Option (List α)
  | [], st => some st
  | .gen :: ss, st => evS g j pw kn ss (g :: st)
  | .nm n :: ss, st => match kn n with
    | some a => evS g j pw kn ss (a :: st)
    | none => none
  | .pr :: ss, b :: a :: st => evS g j pw kn ss (j a b :: st)
  | .pr :: _, [_] => none
  | .pr :: _, [] => none
  | .pw s k :: ss, a :: st => evS g j pw kn ss (pw s a k :: st)
  | .pw _ _ :: _, [] => none
def Ex.ev (g : α) (j : α → α → α) (pw : Nat → α → Int → α) (kn : List Nat → Option α) : Ex → Option α
  | .x => some g
  | .nm n => kn n
  | .up l r => (l.ev g j pw kn).bind fun a => (r.ev g j pw kn).map fun b => j a b
  | .pw b e k => (e.ev g j pw kn).map fun a => pw (pwS b) a (k : Int)
theorem evS_ex (g : α) (j : α → α → α) (pw : Nat → α → Int → α) (kn : List Nat → Option α) : ∀ (e : Ex) (v : α) (ss : List St1) (st : List α), e.ev g j pw kn = some v → evS g j pw kn (e.st ++ ss) st = evS g j pw kn ss (v :: st)
  | .x, v, ss, st, h => by
    have h : some g = some v := h
    cases h
    rfl
  | .nm n, v, ss, st, h => by
    have h : kn n = some v := h
    show (match kn n with | some a => evS g j pw kn ss (a :: st) | none => none) = _
    rw [h]
  | .up l r, v, ss, st, h => by
    have h : (l.ev g j pw kn).bind (fun a => (r.ev g j pw kn).map fun b => j a b) = some v := h
    cases el : l.ev g j pw kn with
    | none => rw [el] at h; cases h
    | some a =>
      rw [el] at h
      have h : (r.ev g j pw kn).map (fun b => j a b) = some v := h
      cases er : r.ev g j pw kn with
      | none => rw [er] at h; cases h
      | some b =>
        rw [er] at h
        cases h
        show evS g j pw kn ((l.st ++ (r.st ++ [.pr])) ++ ss) st = _
        rw [List.append_assoc, evS_ex g j pw kn l a _ st el, List.append_assoc, evS_ex g j pw kn r b _ _ er]
        rfl
  | .pw b e k, v, ss, st, h => by
    have h : (e.ev g j pw kn).map (fun a => pw (pwS b) a (k : Int)) = some v := h
    cases ee : e.ev g j pw kn with
    | none => rw [ee] at h; cases h
    | some a =>
      rw [ee] at h
      cases h
      show evS g j pw kn ((e.st ++ [.pw (pwS b) (k : Int)]) ++ ss) st = _
      rw [List.append_assoc, evS_ex g j pw kn e a _ st ee]
      rfl
/-- the names in an expression -/
def Ex.nms : Ex → List (List Nat)
  | .x => []
  | .nm n => [n]
  | .up l r => l.nms ++ r.nms
  | .pw _ e _ => e.nms
theorem Ex.ev_some (g : α) (j : α → α → α) (pw : Nat → α → Int → α) (kn : List Nat → Option α) : ∀ e : Ex, (∀ n ∈ e.nms, ∃ a, kn n = some a) → ∃ v, e.ev g j pw kn = some v
  | .x, _ => ⟨g, rfl⟩
  | .nm n, h => h n (List.mem_singleton.mpr rfl)
  | .up l r, h => by
    obtain ⟨a, ea⟩ := ev_some g j pw kn l fun n hn => h n (List.mem_append_left _ hn)
    obtain ⟨b, eb⟩ := ev_some g j pw kn r fun n hn => h n (List.mem_append_right _ hn)
    refine ⟨j a b, ?_⟩
    show (l.ev g j pw kn).bind (fun a => (r.ev g j pw kn).map fun b => j a b) = _
    rw [ea, eb]
    rfl
  | .pw b e k, h => by
    obtain ⟨a, ea⟩ := ev_some g j pw kn e h
    refine ⟨pw (pwS b) a (k : Int), ?_⟩
    show (e.ev g j pw kn).map (fun a => pw (pwS b) a (k : Int)) = _
    rw [ea]
    rfl
theorem Ex.st_nms : ∀ (e : Ex) (n : List Nat), .nm n ∈ e.st ↔ n ∈ e.nms
  | .x, n => by simp [Ex.st, Ex.nms]
  | .nm m, n => by simp [Ex.st, Ex.nms]
  | .up l r, n => by
    have h1 := st_nms l n
    have h2 := st_nms r n
    simp only [Ex.st, Ex.nms, List.mem_append, h1, h2, List.mem_singleton, reduceCtorEq, or_false]
  | .pw b e k, n => by
    have h1 := st_nms e n
    simp only [Ex.st, Ex.nms, List.mem_append, h1, List.mem_singleton, reduceCtorEq, or_false]
/-- values and what they stand for -/
inductive RAll (R : V → α → Prop) : List V → List α → Prop
  | nil : RAll R [] []
  | cons {v : V} {a : α} {vs : List V} {as : List α} : R v a → RAll R vs as → RAll R (v :: vs) (a :: as)
theorem RAll.imp {R R' : V → α → Prop} (k : ∀ v a, R v a → R' v a) {vs : List V} {as : List α} (h : RAll R vs as) : RAll R' vs as := by
  induction h with
  | nil => exact .nil
  | cons h1 _ ih => exact .cons (k _ _ h1) ih
theorem RAll.len {R : V → α → Prop} {vs : List V} {as : List α} (h : RAll R vs as) : vs.length = as.length := by
  induction h with
  | nil => rfl
  | cons _ _ ih => exact congrArg (· + 1) ih
def spJ (R : Nat → Hp → V → α → Prop) (j : α → α → α) (J : Nat) : List V → Hp → VK → Prop := fun vs H Q => ∃ (n : Nat) (v w : V) (a b : α), vs = [v, w] ∧ n < J ∧ R n H v a ∧ R n H w b ∧ ∀ u H', Same H H' → R (n + 1) H' u (j a b) → Q u H'
def spP (ok : St1 → Prop) (R : Nat → Hp → V → α → Prop) (pw : Nat → α → Int → α) (J : Nat) : List V → Hp → VK → Prop := fun vs H Q => ∃ (n s : Nat) (v : V) (k : Int) (a : α), vs = [.str (sL [s]), v, .int k] ∧ n < J ∧ ok (.pw s k) ∧ R n H v a ∧ ∀ u H', Same H H' → R (n + 1) H' u (pw s a k) → Q u H'
def spComp (P : Program) (w : World) (K : PySem.W.Frag) (mg : Str → Option Value) (base : Heap) (k : Nat) (ok : St1 → Prop) (R : Nat → Hp → V → α → Prop) (g : α) (j : α → α → α) (pw : Nat → α → Int → α) : Sp := fun vs H Q _ => ∃ (l kd fj fp : Addr) (gv : V) (us : List V) (ss : List St1) (kvs : List (L2.Key × V)) (kn : List Nat → Option α) (J : Nat) (a : α),
  vs = [.ref l, .ref kd, gv, .ref fj, .ref fp] ∧ H l = some (.lst us) ∧ StAll K H us ss ∧ (∀ s ∈ ss, ok s) ∧ H kd = some (.dK kvs) ∧ (∀ n b, kn n = some b → ∃ v, valV kvs (nmK n) = some v ∧ R 0 H v b) ∧ R 0 H gv g ∧ LamQ P w K mg base k fj (spJ R j J) H ∧ LamQ P w K mg base k fp (spP ok R pw J) H ∧ evS g j pw kn ss [] = some [a] ∧ ss.length ≤ J ∧ ss.length ≤ 10000 ∧
  ∀ v H', Same H H' → R ss.length H' v a → Q v H'
end
/-- whole numbers with a bound -/
def RI (B : Nat) : Nat → Hp → V → Int → Prop := fun n _ v a => v = .int a ∧ a.natAbs < 2 ^ (B + 101 * n)
theorem RI.up {B n : Nat} {H H' : Hp} {v : V} {a : Int} (h : RI B n H v a) : RI B (n + 1) H' v a := ⟨h.1, Nat.lt_of_lt_of_le h.2 (Nat.pow_le_pow_right (by decide) (by omega))⟩
theorem RI.to {B n m : Nat} {H H' : Hp} {v : V} {a : Int} (h : RI B n H v a) (hm : n ≤ m) : RI B m H' v a := ⟨h.1, Nat.lt_of_lt_of_le h.2 (Nat.pow_le_pow_right (by decide) (by omega))⟩
theorem ri_add {B n : Nat} {a b c : Int} (ha : a.natAbs < 2 ^ (B + 101 * n)) (hb : b.natAbs < 2 ^ (B + 101 * n)) (hc : c.natAbs ≤ a.natAbs + b.natAbs) : c.natAbs < 2 ^ (B + 101 * (n + 1)) := by
  have e : 2 ^ (B + 101 * n) * 2 = 2 ^ (B + 101 * n + 1) := (Nat.pow_succ ..).symm
  refine Nat.lt_of_lt_of_le (show c.natAbs < 2 ^ (B + 101 * n + 1) by omega) (Nat.pow_le_pow_right (by decide) (by omega))
theorem ri_mul {B n : Nat} {a k : Int} (ha : a.natAbs < 2 ^ (B + 101 * n)) (hk : k.natAbs < 2 ^ 100) : (a * k).natAbs < 2 ^ (B + 101 * (n + 1)) := by
  rw [Int.natAbs_mul]
  have h1 : a.natAbs * k.natAbs < 2 ^ (B + 101 * n) * 2 ^ 100 := Nat.mul_lt_mul'' ha hk
  rw [← Nat.pow_add] at h1
  exact Nat.lt_of_lt_of_le h1 (Nat.pow_le_pow_right (by decide) (by omega))
theorem ri_addk {B n : Nat} {a k c : Int} (ha : a.natAbs < 2 ^ (B + 101 * n)) (hk : k.natAbs < 2 ^ 100) (hc : c.natAbs ≤ a.natAbs + k.natAbs + 1) : c.natAbs < 2 ^ (B + 101 * (n + 1)) := by
  have p1 : 1 ≤ 2 ^ (B + 101 * n) := Nat.one_le_two_pow
  have e : 2 ^ (B + 101 * n + 101) = 2 ^ (B + 101 * n) * 2 ^ 101 := Nat.pow_add ..
  have e2 : (2 : Nat) ^ 101 = 2 ^ 100 * 2 := Nat.pow_succ ..
  have h2 : 2 ^ (B + 101 * n) + 2 ^ 100 ≤ 2 ^ (B + 101 * n) * 2 ^ 100 + 1 := by
    generalize 2 ^ (B + 101 * n) = x at *
    have : (1 : Nat) ≤ 2 ^ 100 := Nat.one_le_two_pow
    generalize (2 : Nat) ^ 100 = y at *
    obtain ⟨x, rfl⟩ : ∃ z, x = z + 1 := ⟨x - 1, by omega⟩
    obtain ⟨y, rfl⟩ : ∃ z, y = z + 1 := ⟨y - 1, by omega⟩
    have : (x + 1) * (y + 1) = x * y + x + y + 1 := by rw [Nat.add_mul, Nat.mul_add]; omega
    omega
  have h3 : 2 ^ (B + 101 * n) * 2 ^ 100 * 2 = 2 ^ (B + 101 * n + 101) := by rw [e, e2, Nat.mul_assoc]
  have h4 : 2 ≤ 2 ^ (B + 101 * n) * 2 ^ 100 := by
    have : (2 : Nat) ≤ 2 ^ 100 := by
      have := Nat.pow_le_pow_right (n := 2) (by decide) (show 1 ≤ 100 by decide)
      exact this
    exact Nat.le_trans this (Nat.le_mul_of_pos_left _ p1)
  rw [show B + 101 * (n + 1) = B + 101 * n + 101 by omega]
  omega
/-! ### a program's definitions -/
structure PD where
  df : Df
  sz : Int
  dp : Int
def lkD (ds : List PD) (n : List Nat) : Option PD := ds.find? fun e => decide (e.df.nm = n)
def szK (ds : List PD) : List (L2.Key × V) := ds.map fun e => (nmK e.df.nm, V.int e.sz)
def dpK (ds : List PD) : List (L2.Key × V) := ds.map fun e => (nmK e.df.nm, V.int e.dp)
theorem val_map {f : PD → V} (n : List Nat) : ∀ ds : List PD, valV (ds.map fun e => (nmK e.df.nm, f e)) (nmK n) = (lkD ds n).map f
  | [] => rfl
  | e :: ds => by
    unfold lkD
    rw [List.map_cons, List.find?_cons]
    by_cases z : e.df.nm = n
    · rw [valV_pos (by rw [z]), decide_eq_true z]
      rfl
    · rw [valV_neg (fun h => z (nmK_inj h)), decide_eq_false z]
      exact val_map n ds
theorem lk_none {ds : List PD} {n : List Nat} (h : n ∉ ds.map fun e => e.df.nm) : lkD ds n = none := by
  refine List.find?_eq_none.mpr fun e he z => h ?_
  exact List.mem_map.mpr ⟨e, he, of_decide_eq_true z⟩
theorem lk_some {ds : List PD} {n : List Nat} (h : n ∈ ds.map fun e => e.df.nm) : ∃ e, lkD ds n = some e := by
  cases e : lkD ds n with
  | some x => exact ⟨x, rfl⟩
  | none =>
    obtain ⟨x, hx, hn⟩ := List.mem_map.mp h
    have := List.find?_eq_none.mp e x hx
    exact absurd (decide_eq_true hn) this
theorem lk_mem {ds : List PD} {n : List Nat} {e : PD} (h : lkD ds n = some e) : e ∈ ds ∧ e.df.nm = n := ⟨List.mem_of_find?_eq_some h, of_decide_eq_true (List.find?_some (p := fun e : PD => decide (e.df.nm = n)) h)⟩
def sJ (a b : Int) : Int := a + b
def sP (_ : Nat) (a k : Int) : Int := a * k
def dJ (a b : Int) : Int := 1 + (if b > a then b else a)
def dP (_ : Nat) (a k : Int) : Int := a + k - 1
/-- adding definitions to known ones -/
inductive Inc : List PD → List Df → List PD → Prop
  | nil {ds : List PD} : Inc ds [] ds
  | cons {ds res : List PD} {df : Df} {dfs : List Df} {s d : Int} : (∀ x ∈ df.ss, StOk x) → df.ss.length ≤ 100 → (∀ n, .nm n ∈ df.ss → n ∈ ds.map fun e => e.df.nm) → df.nm ∉ (ds.map fun e => e.df.nm) → evS 1 sJ sP (fun n => (lkD ds n).map (·.sz)) df.ss [] = some [s] → evS 0 dJ dP (fun n => (lkD ds n).map (·.dp)) df.ss [] = some [d] → Inc (ds ++ [⟨df, s, d⟩]) dfs res → Inc ds (df :: dfs) res
theorem Inc.seq {ds res : List PD} {dfs : List Df} (h : Inc ds dfs res) : OkSeq (ds.map fun e => e.df.nm) dfs := by
  induction h with
  | nil => trivial
  | cons h1 h2 h3 h4 h5 h6 h7 ih =>
    refine ⟨h3, h4, ?_⟩
    rw [List.map_append] at ih
    exact ih
theorem Inc.stok {ds res : List PD} {dfs : List Df} (h : Inc ds dfs res) : ∀ df ∈ dfs, ∀ s ∈ df.ss, StOk s := by
  induction h with
  | nil => exact fun df hd => nomatch hd
  | cons h1 h2 h3 h4 h5 h6 h7 ih =>
    intro df hd
    rcases List.mem_cons.mp hd with rfl | hd
    · exact h1
    · exact ih df hd
theorem Inc.res {ds res : List PD} {dfs : List Df} (h : Inc ds dfs res) : ∃ es : List PD, res = ds ++ es ∧ es.map (·.df) = dfs := by
  induction h with
  | nil => exact ⟨[], by rw [List.append_nil], rfl⟩
  | @cons ds res df dfs s d h1 h2 h3 h4 h5 h6 h7 ih =>
    obtain ⟨es, e1, e2⟩ := ih
    exact ⟨⟨df, s, d⟩ :: es, by rw [e1, List.append_assoc]; rfl, by rw [List.map_cons, e2]⟩
/-! ### the class Program -/
structure PrT (K : PySem.W.Frag) (mg : Str → Option Value) (C : Addr) : Prop where
  cl : Cls K C
  n1 : NoAttr K C "texts"
  n2 : NoAttr K C "codes"
  n3 : NoAttr K C "sizes"
  n4 : NoAttr K C "depths"
  mgC : mg "Program" = some (.ref C)
theorem pne1 : ¬ (("texts" : Str) = "codes") := by decide +kernel
theorem pne2 : ¬ (("texts" : Str) = "sizes") := by decide +kernel
theorem pne3 : ¬ (("texts" : Str) = "depths") := by decide +kernel
theorem pne4 : ¬ (("codes" : Str) = "sizes") := by decide +kernel
theorem pne5 : ¬ (("codes" : Str) = "depths") := by decide +kernel
theorem pne6 : ¬ (("sizes" : Str) = "depths") := by decide +kernel
def prf (t c s d : Addr) : List (Str × V) := [("texts", .ref t), ("codes", .ref c), ("sizes", .ref s), ("depths", .ref d)]
theorem prf_t (t c s d : Addr) : (prf t c s d).lookup ("texts" : Str) = some (.ref t) := look_hd _ _ _
theorem prf_c (t c s d : Addr) : (prf t c s d).lookup ("codes" : Str) = some (.ref c) := by
  unfold prf
  rw [look_tl _ _ (Ne.symm pne1), look_hd]
theorem prf_s (t c s d : Addr) : (prf t c s d).lookup ("sizes" : Str) = some (.ref s) := by
  unfold prf
  rw [look_tl _ _ (Ne.symm pne2), look_tl _ _ (Ne.symm pne4), look_hd]
theorem prf_d (t c s d : Addr) : (prf t c s d).lookup ("depths" : Str) = some (.ref d) := by
  unfold prf
  rw [look_tl _ _ (Ne.symm pne3), look_tl _ _ (Ne.symm pne5), look_tl _ _ (Ne.symm pne6), look_hd]
theorem prf_no (t c s d : Addr) {m : Str} (h1 : ¬ m = "texts") (h2 : ¬ m = "codes") (h3 : ¬ m = "sizes") (h4 : ¬ m = "depths") : (prf t c s d).lookup m = none := by
  unfold prf
  rw [look_tl _ _ h1, look_tl _ _ h2, look_tl _ _ h3, look_tl _ _ h4]
  rfl
/-- the steps of each name; O: where they may stand -/
inductive CdAll (K : PySem.W.Frag) (O : Addr → Prop) (H : Hp) : List (L2.Key × V) → List PD → Prop
  | nil : CdAll K O H [] []
  | cons {l : Addr} {us : List V} {e : PD} {kvs : List (L2.Key × V)} {ds : List PD} : O l → H l = some (.lst us) → StAll K H us e.df.ss → CdAll K O H kvs ds → CdAll K O H ((nmK e.df.nm, .ref l) :: kvs) (e :: ds)
theorem CdAll.keys {K : PySem.W.Frag} {O : Addr → Prop} {H : Hp} {kvs : List (L2.Key × V)} {ds : List PD} (h : CdAll K O H kvs ds) : kvs.map (·.1) = (ds.map fun e => e.df.nm).map nmK := by
  induction h with
  | nil => rfl
  | cons _ _ _ _ ih => rw [List.map_cons, List.map_cons, List.map_cons, ih]
theorem CdAll.keep {K : PySem.W.Frag} {O O' : Addr → Prop} {H H' : Hp} {kvs : List (L2.Key × V)} {ds : List PD} (tp : Tp H H') (k : ∀ l us, O l → H l = some (.lst us) → O' l ∧ H' l = some (.lst us)) (h : CdAll K O H kvs ds) : CdAll K O' H' kvs ds := by
  induction h with
  | nil => exact .nil
  | cons h1 h2 h3 _ ih =>
    obtain ⟨k1, k2⟩ := k _ _ h1 h2
    exact .cons k1 k2 (h3.tp tp) ih
theorem CdAll.app {K : PySem.W.Frag} {O : Addr → Prop} {H : Hp} {kvs kws : List (L2.Key × V)} {ds es : List PD} (h : CdAll K O H kvs ds) (h2 : CdAll K O H kws es) : CdAll K O H (kvs ++ kws) (ds ++ es) := by
  induction h with
  | nil => exact h2
  | cons a b c _ ih => exact .cons a b c ih
theorem CdAll.len {K : PySem.W.Frag} {O : Addr → Prop} {H : Hp} {kvs : List (L2.Key × V)} {ds : List PD} (h : CdAll K O H kvs ds) : kvs.length = ds.length := by
  induction h with
  | nil => rfl
  | cons _ _ _ _ ih => exact congrArg (· + 1) ih
theorem CdAll.at {K : PySem.W.Frag} {O : Addr → Prop} {H : Hp} {n : List Nat} {kvs : List (L2.Key × V)} {ds : List PD} (h : CdAll K O H kvs ds) : ∀ e, lkD ds n = some e → ∃ l us, valV kvs (nmK n) = some (.ref l) ∧ O l ∧ H l = some (.lst us) ∧ StAll K H us e.df.ss := by
  induction h with
  | nil => exact fun e z => nomatch z
  | @cons l us e kvs ds h1 h2 h3 _ ih =>
    intro e' he
    unfold lkD at he
    rw [List.find?_cons] at he
    by_cases z : e.df.nm = n
    · rw [decide_eq_true z] at he
      cases he
      exact ⟨l, us, valV_pos (by rw [z]), h1, h2, h3⟩
    · rw [decide_eq_false z] at he
      obtain ⟨l', us', a1, a2⟩ := ih e' he
      exact ⟨l', us', (valV_neg (fun h => z (nmK_inj h))).trans a1, a2⟩
theorem CdAll.none {K : PySem.W.Frag} {O : Addr → Prop} {H : Hp} {n : List Nat} {kvs : List (L2.Key × V)} {ds : List PD} (h : CdAll K O H kvs ds) (hn : n ∉ ds.map fun e => e.df.nm) : valV kvs (nmK n) = Option.none := by
  induction h with
  | nil => rfl
  | cons _ _ _ _ ih =>
    rw [List.map_cons] at hn
    rw [valV_neg (fun z => hn (by rw [← nmK_inj z]; exact List.mem_cons_self))]
    exact ih fun z => hn (List.mem_cons_of_mem _ z)
/-- the object's own things -/
structure PrI (K : PySem.W.Frag) (O : Addr → Prop) (H : Hp) (C x dx t c s d : Addr) (kvs : List (L2.Key × V)) (ds : List PD) : Prop where
  hx : H x = some (.ins C dx (prf t c s d))
  ht : H t = some (.lst (ds.map fun e => V.str (sL e.df.tx)))
  hc : H c = some (.dK kvs)
  hs : H s = some (.dK (szK ds))
  hd : H d = some (.dK (dpK ds))
  cd : CdAll K (fun l => O l ∧ l ≠ t) H kvs ds
  cs : c ≠ s
  cd' : c ≠ d
  sd : s ≠ d
  ox : O x
  ot : O t
  oc : O c
  os : O s
  od : O d
/-- the object at x holds the definitions ds; O: what is its own -/
structure PrA (K : PySem.W.Frag) (O : Addr → Prop) (H : Hp) (C x : Addr) (ds : List PD) : Prop where
  ex : ∃ (dx t c s d : Addr) (kvs : List (L2.Key × V)), PrI K O H C x dx t c s d kvs ds
  len : ds.length ≤ 30
  bs : ∀ e ∈ ds, e.sz.natAbs < 2 ^ (10100 * ds.length + 1) ∧ e.dp.natAbs < 2 ^ (10100 * ds.length + 1) ∧ (∀ x ∈ e.df.ss, StOk x) ∧ e.df.ss.length ≤ 100
theorem PrI.keep {K : PySem.W.Frag} {O O' : Addr → Prop} {H H' : Hp} {C x dx t c s d : Addr} {kvs : List (L2.Key × V)} {ds : List PD} (h : PrI K O H C x dx t c s d kvs ds) (tp : Tp H H') (ho : ∀ b, O b → O' b) (k : ∀ b o, O b → H b = some o → (∀ ps, o ≠ .tbl ps) → H' b = some o) : PrI K O' H' C x dx t c s d kvs ds :=
  ⟨k _ _ h.ox h.hx (fun _ => nofun), k _ _ h.ot h.ht (fun _ => nofun), k _ _ h.oc h.hc (fun _ => nofun), k _ _ h.os h.hs (fun _ => nofun), k _ _ h.od h.hd (fun _ => nofun), h.cd.keep tp (fun l us a b => ⟨⟨ho _ a.1, a.2⟩, k _ _ a.1 b (fun _ => nofun)⟩), h.cs, h.cd', h.sd, ho _ h.ox, ho _ h.ot, ho _ h.oc, ho _ h.os, ho _ h.od⟩
theorem PrA.keep {K : PySem.W.Frag} {O O' : Addr → Prop} {H H' : Hp} {C x : Addr} {ds : List PD} (h : PrA K O H C x ds) (tp : Tp H H') (ho : ∀ b, O b → O' b) (k : ∀ b o, O b → H b = some o → (∀ ps, o ≠ .tbl ps) → H' b = some o) : PrA K O' H' C x ds := by
  obtain ⟨⟨dx, t, c, s, d, kvs, h1⟩, hl, hb⟩ := h
  exact ⟨⟨dx, t, c, s, d, kvs, h1.keep tp ho k⟩, hl, hb⟩
theorem PrA.same {K : PySem.W.Frag} {O : Addr → Prop} {H H' : Hp} {C x : Addr} {ds : List PD} (h : PrA K O H C x ds) (k : Same H H') : PrA K O H' C x ds := h.keep (Tp.same k) (fun _ z => z) fun b o _ e _ => k b o e
theorem PrA.extN {K : PySem.W.Frag} {O : Addr → Prop} {H H' : Hp} {C x : Addr} {ds : List PD} (h : PrA K O H C x ds) (k : LamX.ExtN H H') : PrA K O H' C x ds := h.keep (Tp.extN k) (fun _ z => z) fun b o _ e n => k b o e n
/-- what it has is there -/
theorem PrA.there {K : PySem.W.Frag} {O : Addr → Prop} {H : Hp} {C x : Addr} {ds : List PD} (h : PrA K O H C x ds) : PrA K (fun b => O b ∧ H b ≠ none) H C x ds := by
  obtain ⟨⟨dx, t, c, s, d, kvs, h1⟩, hl, hb⟩ := h
  refine ⟨⟨dx, t, c, s, d, kvs, h1.hx, h1.ht, h1.hc, h1.hs, h1.hd, h1.cd.keep (Tp.refl _) (fun l us a b => ⟨⟨⟨a.1, by rw [b]; exact fun z => nomatch z⟩, a.2⟩, b⟩), h1.cs, h1.cd', h1.sd, ⟨h1.ox, ?_⟩, ⟨h1.ot, ?_⟩, ⟨h1.oc, ?_⟩, ⟨h1.os, ?_⟩, ⟨h1.od, ?_⟩⟩, hl, hb⟩
  · rw [h1.hx]; exact fun z => nomatch z
  · rw [h1.ht]; exact fun z => nomatch z
  · rw [h1.hc]; exact fun z => nomatch z
  · rw [h1.hs]; exact fun z => nomatch z
  · rw [h1.hd]; exact fun z => nomatch z
/-- a whole number of each definition's, computed with two lambdas that the def makes -/
def spCSz (T : List (Addr × Str)) (K : PySem.W.Frag) (g : Int) (j : Int → Int → Int) (pw : Nat → Int → Int → Int) : Sp := fun vs H Q _ => ∃ (l kd : Addr) (us : List V) (ss : List St1) (kvs : List (L2.Key × V)) (kn : List Nat → Option Int) (B : Nat) (a : Int),
  vs = [.ref l, .ref kd] ∧ LamX.Tabs T H ∧ H l = some (.lst us) ∧ StAll K H us ss ∧ (∀ s ∈ ss, StOk s) ∧ H kd = some (.dK kvs) ∧ (∀ n b, kn n = some b → valV kvs (nmK n) = some (.int b) ∧ b.natAbs < 2 ^ B) ∧ 1 ≤ B ∧ B ≤ 400000 ∧ evS g j pw kn ss [] = some [a] ∧ ss.length ≤ 100 ∧
  ∀ H', LamX.ExtN H H' → LamX.Tabs T H' → a.natAbs < 2 ^ (B + 101 * ss.length) → Q (.int a) H'
/-- what is not O's stays, tables apart -/
def FrO (O : Addr → Prop) (H H' : Hp) : Prop := ∀ b o, ¬ O b → H b = some o → (∀ ps, o ≠ .tbl ps) → H' b = some o
theorem tabs_setKp {T : List (Addr × Str)} {H H' : Hp} {D : Addr} {xs : List (L2.Key × V)} (t : LamX.Tabs T H) (hD : H D = some (.dK xs)) (e : ∀ b o, b ≠ D → H b = some o → H' b = some o) : LamX.Tabs T H' := fun p hp => by
  obtain ⟨ps, h1, h2, h3⟩ := t p hp
  refine ⟨ps, e _ _ (fun z => by rw [z, hD] at h1; cases h1) h1, h2, fun pos cv ec => ?_⟩
  obtain ⟨c, rfl, hc⟩ := h3 pos cv ec
  exact ⟨c, rfl, e _ _ (fun z => by rw [z, hD] at hc; cases hc) hc⟩
theorem tp_dk {H H' : Hp} {t : Addr} {kvs : List (L2.Key × V)} (ht : H t = some (.dK kvs)) (e : But t H H') : Tp H H' := fun b xs h => by
  rcases h with h | ⟨o, h⟩
  · exact .inl (e _ _ (ne_of h ht (by intro z; cases z)) h)
  · exact .inr ⟨o, e _ _ (ne_of h ht (by intro z; cases z)) h⟩
theorem szK_put {ds : List PD} {df : Df} {s d : Int} (h : df.nm ∉ ds.map fun e => e.df.nm) : putK (szK ds) (nmK df.nm) (.int s) = szK (ds ++ [⟨df, s, d⟩]) := by
  unfold szK
  rw [putK_new _ (by rw [val_map, lk_none h]; rfl), List.map_append]
  rfl
theorem dpK_put {ds : List PD} {df : Df} {s d : Int} (h : df.nm ∉ ds.map fun e => e.df.nm) : putK (dpK ds) (nmK df.nm) (.int d) = dpK (ds ++ [⟨df, s, d⟩]) := by
  unfold dpK
  rw [putK_new _ (by rw [val_map, lk_none h]; rfl), List.map_append]
  rfl
theorem szK_val {ds : List PD} {n : List Nat} {b : Int} (h : (lkD ds n).map (·.sz) = some b) : valV (szK ds) (nmK n) = some (.int b) := by
  unfold szK
  rw [val_map]
  cases e : lkD ds n with
  | none => rw [e] at h; cases h
  | some x => rw [e] at h; cases h; rfl
theorem dpK_val {ds : List PD} {n : List Nat} {b : Int} (h : (lkD ds n).map (·.dp) = some b) : valV (dpK ds) (nmK n) = some (.int b) := by
  unfold dpK
  rw [val_map]
  cases e : lkD ds n with
  | none => rw [e] at h; cases h
  | some x => rw [e] at h; cases h; rfl
def spPInc (T : List (Addr × Str)) (K : PySem.W.Frag) (C : Addr) : Sp := fun vs H Q _ => ∃ (O : Addr → Prop) (Hs : Hp) (x l : Addr) (us : List V) (ds res : List PD) (dfs : List Df), vs = [.ref x, .ref l] ∧ PrA K O H C x ds ∧ LamX.Tabs T H ∧ H l = some (.lst us) ∧ ¬ O l ∧ DfAll K Hs H us dfs ∧ (∀ b, O b → Hs b ≠ none) ∧ Inc ds dfs res ∧ ds.length + dfs.length ≤ 30 ∧
  ∀ H', PrA K (fun b => O b ∨ Hs b = none) H' C x res → LamX.Tabs T H' → FrO O H H' → Tp H H' → Q .non H'
def spPInit (T : List (Addr × Str)) (K : PySem.W.Frag) (C : Addr) : Sp := fun vs H Q _ => ∃ (x dx : Addr) (cs : List Nat) (dfs : List Df) (res : List PD), vs = [.ref x, .str (sL cs)] ∧ H x = some (.ins C dx []) ∧ LamX.Tabs T H ∧ cs.length ≤ 10000 ∧ SrcT cs dfs ∧ Inc [] dfs res ∧ dfs.length ≤ 30 ∧
  ∀ H', PrA K (fun b => b = x ∨ H b = none) H' C x res → LamX.Tabs T H' → FrO (fun b => b = x) H H' → Tp H H' → Q .non H'
def spPLen (K : PySem.W.Frag) (C : Addr) : Sp := fun vs H Q _ => ∃ (O : Addr → Prop) (x : Addr) (ds : List PD), vs = [.ref x] ∧ PrA K O H C x ds ∧ Q (.int (ds.length : Nat)) H
def spPNms (K : PySem.W.Frag) (C : Addr) : Sp := fun vs H Q _ => ∃ (O : Addr → Prop) (x : Addr) (ds : List PD), vs = [.ref x] ∧ PrA K O H C x ds ∧ ∀ l H', Same H H' → H l = none → H' l = some (.lst ((ds.map fun e => e.df.nm).map nmV)) → Q (.ref l) H'
/-- the definitions' texts, joined -/
def joinT (ds : List PD) : Str := Txt.join (Str.ofString ";") (ds.map fun e => sL e.df.tx)
def spPSrc (K : PySem.W.Frag) (C : Addr) : Sp := fun vs H Q _ => ∃ (O : Addr → Prop) (x : Addr) (ds : List PD), vs = [.ref x] ∧ PrA K O H C x ds ∧ (∀ e ∈ ds, e.df.tx.length ≤ 10000) ∧ ∀ H', Same H H' → Q (.str (joinT ds)) H'
structure PrE (K : PySem.W.Frag) (C fq : Addr) : Prop where
  ha : PySem.W.findIn K (.ref C) "__class__" = some (some (.builtin "object.__class__"))
  hn : PySem.W.specialIn K (.builtin "object.__class__") "__get__" = some (some (.builtin "getset_descriptor.__get__"))
  ht : PySem.W.takesIn K (.builtin "object.__class__") = some true
  hm : PySem.W.mroIn K C (.type "object") = some true
  kC : PySem.W.kitOne K (.ref C) (.ref C) = some true
  kI : PySem.W.kitOne K (.type "int") (.ref C) = some false
  kS : PySem.W.kitOne K (.type "str") (.ref C) = some false
  nI : PySem.W.notFirst K C (.type "int") = true
  nS : PySem.W.notFirst K C (.type "str") = true
  nC : PySem.W.notFirst K C (.ref C) = true
  q : PySem.W.findIn K (.ref C) "__eq__" = some (some (.ref fq))
  f : PySem.W.isFn K (.ref fq) = true
  N : NeC K C fq
def txD (ds : List PD) : PyData := .list (ds.map fun e => PyData.str (sL e.df.tx))
def spPEq (K : PySem.W.Frag) (C : Addr) : Sp := fun vs H Q _ => ∃ (O : Addr → Prop) (x : Addr) (ds : List PD) (y : V), vs = [.ref x, y] ∧ PrA K O H C x ds ∧
  ((∃ (O' : Addr → Prop) (z : Addr) (es : List PD), y = .ref z ∧ PrA K O' H C z es ∧ SeqAt.shaped (txD ds) = true ∧ SeqAt.shaped (txD es) = true ∧ ∀ H', Same H H' → Q (.bl (PyData.eqv (txD ds) (txD es))) H') ∨ (∃ t, TyX K H y t ∧ PySem.W.kitOne K t (.ref C) = some false ∧ Q (.bl false) H))
/-! ### the law's own programs -/
def spDrawW : Sp := fun vs H Q _ => ∃ (r : Addr) (n : Int) (c : Addr), vs = [.ref r, .int n] ∧ RngC H r c ∧ 0 < n ∧ n < 1152921504606846976 ∧ ∀ (v : Int) (H' : Hp), 0 ≤ v → v < n → RngC H' r c → But r H H' → Q (.int v) H'
/-- an expression as the law tells it -/
def ExV (K : PySem.W.Frag) (H : Hp) : V → Ex → Prop
  | v, .x => ∃ q, v = .ref q ∧ SqT K H q [.str "x"]
  | v, .nm n => ∃ q, v = .ref q ∧ SqT K H q [.str "name", nmV n]
  | v, .up l r => ∃ q vl vr, v = .ref q ∧ SqT K H q [.str "upon", vl, vr] ∧ ExV K H vl l ∧ ExV K H vr r
  | v, .pw b e k => ∃ q ve, v = .ref q ∧ SqT K H q [.str (if b = true then "right" else "left"), ve, .int (k : Int)] ∧ ExV K H ve e
theorem ExV.tp {K : PySem.W.Frag} {H H' : Hp} (t : Tp H H') : ∀ {e : Ex} {v : V}, ExV K H v e → ExV K H' v e
  | .x, v, ⟨q, h1, h2⟩ => ⟨q, h1, t.sqT h2⟩
  | .nm n, v, ⟨q, h1, h2⟩ => ⟨q, h1, t.sqT h2⟩
  | .up l r, v, ⟨q, vl, vr, h1, h2, h3, h4⟩ => ⟨q, vl, vr, h1, t.sqT h2, ExV.tp t h3, ExV.tp t h4⟩
  | .pw b e k, v, ⟨q, ve, h1, h2, h3⟩ => ⟨q, ve, h1, t.sqT h2, ExV.tp t h3⟩
def Ex.dep : Ex → Nat
  | .x => 0
  | .nm _ => 0
  | .up l r => 1 + max l.dep r.dep
  | .pw _ e _ => 1 + e.dep
/-- a power in an expression -/
inductive Ex.pwIn : Ex → Bool → Nat → Prop
  | here {e : Ex} {b : Bool} {k : Nat} : Ex.pwIn (.pw b e k) b k
  | pw {e : Ex} {b c : Bool} {k j : Nat} : Ex.pwIn e b k → Ex.pwIn (.pw c e j) b k
  | left {l r : Ex} {b : Bool} {k : Nat} : Ex.pwIn l b k → Ex.pwIn (.up l r) b k
  | right {l r : Ex} {b : Bool} {k : Nat} : Ex.pwIn r b k → Ex.pwIn (.up l r) b k
/-- a name as the law draws it -/
def NmA (n : List Nat) : Prop := ∃ c ds, n = c :: ds ∧ (c = 65 ∨ c = 66 ∨ c = 90) ∧ (∀ d ∈ ds, d ∈ DIGS) ∧ ds.length ≤ 2
theorem NmA.ok {n : List Nat} (h : NmA n) : OkNm n := by
  obtain ⟨c, ds, e, hc, hd, hl⟩ := h
  refine ⟨c, ds, e, (caps_iff c).mpr ?_, hd, hl⟩
  rcases hc with rfl | rfl | rfl <;> omega
theorem NmA.len {n : List Nat} (h : NmA n) : n.length ≤ 3 := by
  obtain ⟨c, ds, rfl, _, _, hl⟩ := h
  rw [List.length_cons]
  omega
def spLNm (K : PySem.W.Frag) : Sp := fun vs H Q _ => ∃ r c : Addr, vs = [.ref r] ∧ RngC H r c ∧ ∀ (n : List Nat) (H' : Hp), NmA n → RngC H' r c → But r H H' → Q (nmV n) H'
def spLNu (K : PySem.W.Frag) : Sp := fun vs H Q _ => ∃ r c : Addr, vs = [.ref r] ∧ RngC H r c ∧ ∀ (k : Nat) (H' : Hp), 1 ≤ k → k < 10 ^ 30 → RngC H' r c → But r H H' → Q (.int (k : Int)) H'
def spLEx (K : PySem.W.Frag) (n : Nat) : Sp := fun vs H Q _ => ∃ (r c nl : Addr) (deep : Int) (sm : Bool) (nms : List (List Nat)), vs = [.ref r, .ref nl, .int deep, .bl sm] ∧ RngC H r c ∧ H nl = some (.lst (nms.map nmV)) ∧ nl ≠ r ∧ deep < n ∧ 1 ≤ n ∧ n ≤ 10 ∧ nms.length ≤ 100 ∧ (∀ m ∈ nms, NmA m) ∧
  ∀ (v : V) (e : Ex) (H' : Hp), ExV K H' v e → e.ok → (∀ m ∈ e.nms, m ∈ nms) → e.dep < n → e.txt.length + 2 ≤ 40 * 2 ^ (n - 1) → (sm = true → ∀ b k, Ex.pwIn e b k → k ≤ 4) → RngC H' r c → But r H H' → Q v H'


def spLTx (K : PySem.W.Frag) (n : Nat) : Sp := fun vs H Q _ => ∃ (v : V) (e : Ex), vs = [v] ∧ ExV K H v e ∧ e.ok ∧ e.dep < n ∧ e.txt.length ≤ 10000 ∧ ∀ H', Same H H' → Q (.str (sL e.txt)) H'
/-- a row: a name and its expression -/
def RwV (K : PySem.W.Frag) (H : Hp) (v : V) (r : Row) : Prop := ∃ q ve, v = .ref q ∧ SqT K H q [nmV r.nm, ve] ∧ ExV K H ve r.e
inductive RwAll (K : PySem.W.Frag) (H : Hp) : List V → List Row → Prop
  | nil : RwAll K H [] []
  | cons {v : V} {s : Row} {vs : List V} {ss : List Row} : RwV K H v s → RwAll K H vs ss → RwAll K H (v :: vs) (s :: ss)
theorem RwV.tp {K : PySem.W.Frag} {H H' : Hp} {v : V} {s : Row} (e : Tp H H') (h : RwV K H v s) : RwV K H' v s := by
  obtain ⟨q, ve, h1, h2, h3⟩ := h
  exact ⟨q, ve, h1, e.sqT h2, h3.tp e⟩
theorem RwAll.tp {K : PySem.W.Frag} {H H' : Hp} {vs : List V} {ss : List Row} (e : Tp H H') (h : RwAll K H vs ss) : RwAll K H' vs ss := by
  induction h with
  | nil => exact .nil
  | cons h1 _ ih => exact .cons (h1.tp e) ih
theorem RwAll.app {K : PySem.W.Frag} {H : Hp} {vs ws : List V} {ss ts : List Row} (h : RwAll K H vs ss) (h2 : RwAll K H ws ts) : RwAll K H (vs ++ ws) (ss ++ ts) := by
  induction h with
  | nil => exact h2
  | cons h1 _ ih => exact .cons h1 ih
theorem RwAll.len {K : PySem.W.Frag} {H : Hp} {vs : List V} {ss : List Row} (h : RwAll K H vs ss) : vs.length = ss.length := by
  induction h with
  | nil => rfl
  | cons _ _ ih => exact congrArg (· + 1) ih
theorem RwAll.at {K : PySem.W.Frag} {H : Hp} {vs : List V} {ss : List Row} (h : RwAll K H vs ss) : ∀ {i : Nat} {v : V}, vs[i]? = some v → ∃ s, ss[i]? = some s ∧ RwV K H v s := by
  induction h with
  | nil => intro i v e; simp at e
  | cons h1 _ ih =>
    intro i v e
    cases i with
    | zero => cases e; exact ⟨_, rfl, h1⟩
    | succ i => exact ih e
/-- rows that the law makes -/
inductive RowsOk : List (List Nat) → List Row → Prop
  | nil {kn : List (List Nat)} : RowsOk kn []
  | cons {kn : List (List Nat)} {r : Row} {rs : List Row} : NmA r.nm → r.nm ∉ kn → r.e.ok → (∀ m ∈ r.e.nms, m ∈ kn) → r.e.txt.length < 60 → r.e.dep ≤ 9 → RowsOk (kn ++ [r.nm]) rs → RowsOk kn (r :: rs)
theorem RowsOk.snoc {kn : List (List Nat)} {rs : List Row} {r : Row} (h : RowsOk kn rs) (h1 : NmA r.nm) (h2 : r.nm ∉ kn ++ rs.map Row.nm) (h3 : r.e.ok) (h4 : ∀ m ∈ r.e.nms, m ∈ kn ++ rs.map Row.nm) (h5 : r.e.txt.length < 60) (h6 : r.e.dep ≤ 9) : RowsOk kn (rs ++ [r]) := by
  induction h with
  | nil =>
    rw [List.map_nil, List.append_nil] at h2 h4
    exact .cons h1 h2 h3 h4 h5 h6 .nil
  | cons a b c d e f _ ih =>
    refine .cons a b c d e f (ih ?_ ?_)
    · rw [List.append_assoc]
      exact h2
    · rw [List.append_assoc]
      exact h4
theorem Ex.nest_dep : ∀ e : Ex, e.nest ≤ e.dep
  | .x => Nat.le_refl _
  | .nm _ => Nat.le_refl _
  | .up l r => by
    have h1 := nest_dep l
    have h2 := nest_dep r
    show 1 + max l.nest r.nest ≤ 1 + max l.dep r.dep
    omega
  | .pw _ e _ => by
    have h1 := nest_dep e
    show e.nest ≤ 1 + e.dep
    omega
theorem Ex.st_len : ∀ {e : Ex}, e.ok → e.st.length ≤ e.txt.length
  | .x, _ => Nat.le_refl _
  | .nm n, h => by
    obtain ⟨c, ds, rfl, _⟩ := (show OkNm n from h)
    show 1 ≤ (c :: ds).length
    rw [List.length_cons]
    omega
  | .up l r, h => by
    have h1 := st_len h.1
    have h2 := st_len h.2
    show (l.st ++ (r.st ++ [St1.pr])).length ≤ (40 :: (l.txt ++ (r.txt ++ [41]))).length
    simp only [List.length_append, List.length_cons, List.length_nil]
    omega
  | .pw b e k, h => by
    have h1 := st_len h.1
    show (e.st ++ [St1.pw (pwS b) (k : Int)]).length ≤ (e.txt ++ (pwS b :: natD k)).length
    simp only [List.length_append, List.length_cons, List.length_nil]
    omega
theorem Ex.st_ok : ∀ {e : Ex}, e.ok → ∀ s ∈ e.st, StOk s
  | .x, _, s, hs => by rw [List.mem_singleton.mp hs]; trivial
  | .nm n, _, s, hs => by rw [List.mem_singleton.mp hs]; trivial
  | .up l r, h, s, hs => by
    rcases List.mem_append.mp hs with hs | hs
    · exact st_ok h.1 s hs
    · rcases List.mem_append.mp hs with hs | hs
      · exact st_ok h.2 s hs
      · rw [List.mem_singleton.mp hs]; trivial
  | .pw b e k, h, s, hs => by
    rcases List.mem_append.mp hs with hs | hs
    · exact st_ok h.1 s hs
    · rw [List.mem_singleton.mp hs]
      obtain ⟨_, k1, k2⟩ := (show e.ok ∧ 1 ≤ k ∧ k < 10 ^ 30 from h)
      refine ⟨pwS_in b, by omega, ?_⟩
      rw [Int.natAbs_natCast]
      exact Nat.lt_trans k2 (by decide)
/-- what the rows give -/
def rowsD : List PD → List Row → List PD
  | ds, [] => ds
  | ds, r :: rs => rowsD (ds ++ [⟨r.df, (r.e.ev 1 sJ sP fun n => (lkD ds n).map (·.sz)).getD 0, (r.e.ev 0 dJ dP fun n => (lkD ds n).map (·.dp)).getD 0⟩]) rs
theorem inc_rows {kn : List (List Nat)} {rs : List Row} (h : RowsOk kn rs) : ∀ ds : List PD, (ds.map fun e => e.df.nm) = kn → Inc ds (rs.map Row.df) (rowsD ds rs) := by
  induction h with
  | nil => exact fun ds _ => .nil
  | @cons kn r rs a b c d e f _ ih =>
    intro ds hk
    have known : ∀ n ∈ r.e.nms, ∃ z, lkD ds n = some z := fun n hn => lk_some (by rw [hk]; exact d n hn)
    obtain ⟨v1, e1⟩ := Ex.ev_some (1 : Int) sJ sP (fun n => (lkD ds n).map (·.sz)) r.e fun n hn => by
      obtain ⟨z, hz⟩ := known n hn
      exact ⟨z.sz, by rw [hz]; rfl⟩
    obtain ⟨v2, e2⟩ := Ex.ev_some (0 : Int) dJ dP (fun n => (lkD ds n).map (·.dp)) r.e fun n hn => by
      obtain ⟨z, hz⟩ := known n hn
      exact ⟨z.dp, by rw [hz]; rfl⟩
    have s1 := evS_ex (1 : Int) sJ sP (fun n => (lkD ds n).map (·.sz)) r.e v1 [] [] e1
    have s2 := evS_ex (0 : Int) dJ dP (fun n => (lkD ds n).map (·.dp)) r.e v2 [] [] e2
    rw [List.append_nil] at s1 s2
    have sl := Ex.st_len c
    show Inc ds (r.df :: rs.map Row.df) (rowsD (ds ++ [⟨r.df, (r.e.ev 1 sJ sP fun n => (lkD ds n).map (·.sz)).getD 0, (r.e.ev 0 dJ dP fun n => (lkD ds n).map (·.dp)).getD 0⟩]) rs)
    rw [e1, e2]
    refine .cons (Ex.st_ok c) (by show r.e.st.length ≤ 100; omega) (fun n hn => by rw [hk]; exact d n ((Ex.st_nms r.e n).mp hn)) (by rw [hk]; exact b) s1 s2 (ih _ ?_)
    rw [List.map_append, hk]
    rfl
theorem RowsOk.ok {kn : List (List Nat)} {rs : List Row} (h : RowsOk kn rs) : ∀ r ∈ rs, r.ok := by
  induction h with
  | nil => exact fun r hr => nomatch hr
  | cons a b c d e f _ ih =>
    intro r hr
    rcases List.mem_cons.mp hr with rfl | hr
    · exact ⟨a.ok, c, Nat.le_trans (Ex.nest_dep _) (by omega)⟩
    · exact ih r hr
theorem RowsOk.txl {kn : List (List Nat)} {rs : List Row} (h : RowsOk kn rs) : ∀ r ∈ rs, r.txt.length ≤ 63 := by
  induction h with
  | nil => exact fun r hr => nomatch hr
  | @cons kn r0 rs a b c d e f _ ih =>
    intro r hr
    rcases List.mem_cons.mp hr with rfl | hr
    · have := a.len
      show (r.nm ++ (61 :: r.e.txt)).length ≤ 63
      rw [List.length_append, List.length_cons]
      omega
    · exact ih r hr
theorem RowsOk.dpl {kn : List (List Nat)} {rs : List Row} (h : RowsOk kn rs) : ∀ r ∈ rs, r.e.dep ≤ 9 := by
  induction h with
  | nil => exact fun r hr => nomatch hr
  | @cons kn r0 rs a b c d e f _ ih =>
    intro r hr
    rcases List.mem_cons.mp hr with rfl | hr
    · exact f
    · exact ih r hr
theorem rowsD_df : ∀ (rs : List Row) (ds : List PD), (rowsD ds rs).map (·.df) = ds.map (·.df) ++ rs.map Row.df
  | [], ds => by
    show ds.map (·.df) = _
    rw [List.map_nil, List.append_nil]
  | r :: rs, ds => by
    show (rowsD (ds ++ [_]) rs).map (·.df) = _
    rw [rowsD_df rs, List.map_append, List.append_assoc]
    rfl
theorem rowsT_len {rs : List Row} (h : ∀ r ∈ rs, r.txt.length ≤ 63) : (rowsT rs).length ≤ 64 * rs.length := by
  have tl : ∀ rs : List Row, (∀ r ∈ rs, r.txt.length ≤ 63) → (tailT rs).length ≤ 64 * rs.length := fun rs => by
    induction rs with
    | nil => exact fun _ => Nat.zero_le _
    | cons r rs ih =>
      intro h
      have h1 := h r List.mem_cons_self
      have h2 := ih fun x hx => h x (List.mem_cons_of_mem _ hx)
      show (59 :: (r.txt ++ tailT rs)).length ≤ 64 * (rs.length + 1)
      rw [List.length_cons, List.length_append]
      omega
  cases rs with
  | nil => exact Nat.zero_le _
  | cons r rs =>
    have h1 := h r List.mem_cons_self
    have h2 := tl rs fun x hx => h x (List.mem_cons_of_mem _ hx)
    show (r.txt ++ tailT rs).length ≤ 64 * (rs.length + 1)
    rw [List.length_append]
    omega
def spLDf (K : PySem.W.Frag) : Sp := fun vs H Q _ => ∃ (r c : Addr) (many : Nat) (sm : Bool), vs = [.ref r, .int (many : Int), .bl sm] ∧ RngC H r c ∧ many ≤ 20 ∧ ∀ (l : Addr) (us : List V) (rs : List Row) (H' : Hp), RowsOk [] rs → rs.length ≤ many → (sm = true → ∀ w ∈ rs, ∀ b k, Ex.pwIn w.e b k → k ≤ 4) → (∀ w ∈ rs, w.e.dep ≤ 3) → H' l = some (.lst us) → RwAll K H' us rs → l ≠ r → l ≠ c → H l = none → RngC H' r c → But r H H' → Q (.ref l) H'
def spLSt (K : PySem.W.Frag) : Sp := fun vs H Q _ => ∃ (l : Addr) (us : List V) (rs : List Row), vs = [.ref l] ∧ H l = some (.lst us) ∧ RwAll K H us rs ∧ RowsOk [] rs ∧ rs.length ≤ 40 ∧ ∀ H', Same H H' → Q (.str (sL (rowsT rs))) H'
section OPN
open PySem PySem.Spec PyProof.Rows PySem.W
/-! ### != of an object with an own __eq__ and no own __ne__, any other side -/
section
variable {prog : Program} {w : World} {A : Around} {E : Value → Shared → Prop} {h : Heap} {g : Array GenState} {d : Drawn} {t : Nat} {os : OsState} {C x f : Addr} {B : String} {bm : List Value} {b : Value}
theorem objNe_v (X : h.OwnEqNoNe x C f B bm) (hu : A.units < cLine) {Q : Fin → Shared → Prop}
    (hcall : wpAny (model prog w) A (call (.ref f) [.ref x, b]) (fun v s' => ∃ b, v = .bool b ∧ Q (.done (.ret (.bool (!b)))) s') E ⟨h, g, d, t, os⟩) :
    wpAny (model prog w) A (Builtin.«object.__ne__» ⟨[.ref x, b], []⟩) Q E ⟨h, g, d, t, os⟩ := by
  unfold Builtin.«object.__ne__»
  repeat (first
    | with_reducible refine wpAny_cRoomFor hu ?_
    | (refine wpAny_bind (m := callSpecialIfBound? (.ref x) (Str.ofString "__eq__") [b])
        (wpAny_callSpecialIfBound?_own X.ownEq (wpAny_mono hcall (fun r s' hr => by
          obtain ⟨b, rfl, hq⟩ := hr
          repeat (first | exact hq | exact wpAny_pure hq | exact wpAny_truthy_bool hq | (refine wpAny_bind (m := truthy (.bool _)) (wpAny_truthy_bool ?_)) | wp_step)) fun _ _ e => e)))
    | wp_step)
theorem tryNe_v (FB : CmpFacts B bm) (X : h.OwnEqNoNe x C f B bm) (hu : A.units + 1 < cLine) {Q : Option Value → Shared → Prop}
    (hcall : wpAny (model prog w) A.in1 (call (.ref f) [.ref x, b]) (fun v s' => ∃ b, v = .bool b ∧ Q (some (.bool (!b))) s') E ⟨h, g, d, t, os⟩) :
    wpAny (model prog w) A (tryCompare (.ref x) "__ne__" b) Q E ⟨h, g, d, t, os⟩ := by
  obtain ⟨o, of, nm, q, N, bs, hdct, sn, sub, ab, col, dd, k0, k1, k2, k3, k5, newId, mN, yv, hx, hc, hC, hn, _, _, _, _, _, hne⟩ := id X
  simp only [tryCompare]
  refine wpAny_bind (wpAny_callSpecialIfBound?_inst hx hc hC hn hne FB.mro FB.ne (wpAny_call (codeAny_call_builtin FB.ne.plain F.cmpEntry_ne
    (wpAny_check_slot_inst F.cmpKind_ne F.cmpSplit_ne (F.cmpArgs_ne _ _) FB.hasObject hx hc hC
      (objNe_v (A := A.in1) X hu (wpAny_mono hcall (fun v s' hv => ?_) fun _ _ e => e))))))
  obtain ⟨b, rfl, hq⟩ := hv
  first | exact ⟨b, rfl, wpAny_pure hq⟩ | exact ⟨b, rfl, wpAny_pure (wpAny_pure hq)⟩ | exact ⟨b, rfl, hq⟩
end
def rNeV (K : PySem.W.Frag) (C : Addr) (sp : Sp) (E : XK) : R2 := fun x y H Q => ∃ (a dx : Addr) (fs : List (Str × V)) (t : Value), x = .ref a ∧ H a = some (.ins C dx fs) ∧ OSide H y t ∧ PySem.W.notFirst K C t = true ∧ sp [x, y] H (fun z H' => ∃ b : Bool, z = .bl b ∧ Q (.bl (!b)) H') E
theorem op_neV {X : Cx} {CX : CXT} {C g : Addr} {n : Nat} {fd : FuncData} {ps : List Str} {sp : Sp} {E : XK} (N : NeC X.K C g) (F : FnOk X.prog X.w X.K X.mg X.base CX n g fd ps sp) (hr : Room (n + 1) X.A) (hb : Binds X.K fd ps []) (hx : Passes CX X E) :
    OpR X (compareOp .NotEq) (rNeV X.K C sp E) := by
  intro pins s σ H x y v u Q I rx ry h
  obtain ⟨a, dx, fs, t, rfl, ha, o, hnf, q⟩ := h
  cases (show v = Value.ref a from rx)
  obtain ⟨mA, J, _⟩ := ins_get I.hok ha
  obtain ⟨od, J, _⟩ := J.look
  have hlook := o.looks I ry
  obtain ⟨nm, qn, NN, bs, hdct, sn, sub, ab, col, dd, k0, k1, k2, k3, k5, newId, hC, hok, he, hne⟩ := N.cls
  obtain ⟨fo, hf1, hf2⟩ := N.fn
  have hns : s.heap.Ns NN (s.heap.nsMap NN) := .of_isNs (PySem.W.isNs_of_in I.kIn hok)
  have meq : s.heap.nsMap NN "__eq__" = some (.ref g) := ns_some_of I.kIn hns he
  have mne : s.heap.nsMap NN "__ne__" = none := PySem.W.nsMap_none_of_in I.kIn hok hne
  have XX : s.heap.OwnEqNoNe a C g "object" [.type "object"] := ⟨_, fo, nm, qn, NN, bs, hdct, sn, sub, ab, col, dd, k0, k1, k2, k3, k5, newId, _, _, J.at_, J.cls, I.kIn _ _ hC, hns, meq, I.kIn _ _ hf1, hf2, PySem.F.cmp_object.mro, PySem.F.cmp_object.eq.lookup, mne⟩
  have r2 : Vals [V.ref a, y] [Value.ref a, u] := .cons rfl (.cons ry .nil)
  have hl : ([Value.ref a, u] ++ []).length = ps.length := by
    have z := F.len _ _ _ _ q
    rw [List.append_nil]
    exact z
  have X1 := I.kIn
  have hu : X.A.units + 1 < cLine := by have := hr.units; omega
  have hcall : wpAny (model X.prog X.w) X.A.in1 (call (.ref g) [.ref a, u]) (fun v s' => ∃ b, v = .bool b ∧ EP X pins σ Q (.bool (!b)) s') X.xe s := by
    refine wpAny_mono (Q := EP X pins σ fun z H' => ∃ b : Bool, z = .bl b ∧ Q (.bl (!b)) H') (E := X.xe) (wpAny_call (codeAny_mono (F.run X.A.in1 X.stack _ H ⟨[.ref a, u], []⟩ [.ref a, u] [.ref a, y] _ E hr.in1 I.env0.in1 (by have z := hb _ [.ref a, u] I.kIn hl; rw [List.append_nil] at z; exact z) r2 q) fun r s' hq => ?_)) (fun v s' hv => ?_) fun _ _ y => y
    · cases r with
      | error e => exact hx pins σ H _ e s' I hq
      | ok fl =>
        cases fl with
        | ret u => exact I.after hq
        | next => exact False.elim hq
        | brk => exact False.elim hq
        | cont => exact False.elim hq
    · obtain ⟨z, H', I', rz, k, rfl, qz⟩ := hv
      cases (show v = Value.bool k from rz)
      exact ⟨k, rfl, V.bl (!k), H', I', rfl, qz⟩
  have one : wpAny (model X.prog X.w) X.A (tryCompare (.ref a) "__ne__" u) (fun r s' => ∃ v, r = some v ∧ EP X pins σ Q v s') X.xe s := by
    obtain ⟨hp, gn, dr, tk, os⟩ := s
    refine tryNe_v PySem.F.cmp_object XX hu (wpAny_mono hcall (fun v s' hv => ?_) fun _ _ e => e)
    obtain ⟨k, rfl, hq⟩ := hv
    exact ⟨k, rfl, _, rfl, hq⟩
  show wpAny _ _ (compareOp .NotEq (.ref a) u) _ _ _
  unfold compareOp
  unfold richCompare
  simp only [oneThing_ref]
  refine wpAny_holding (wpAny_bind (wpAny_cRoomFor (Nat.lt_of_succ_lt hu) ?_))
  rw [cmpInfo_NotEq]
  dsimp only
  refine wpAny_bind (J.type.here (wpAny_bind (hlook.here ?_)))
  split
  · rename_i q
    have e : subIn X.K t (.ref C) = some false := by
      rcases Bool.or_eq_true_iff.mp hnf with e | e
      · rw [beq_iff_eq.mp e] at q; simp at q
      · exact beq_iff_eq.mp e
    refine wpAny_bind ((looks_subIn X1 e).here ?_)
    simp only [Bool.false_eq_true, if_false]
    refine wpAny_bind (wpAny_mono one (fun r s' z => ?_) fun _ _ e => e)
    obtain ⟨v, rfl, hq⟩ := z
    exact wpAny_pure hq
  · refine wpAny_bind (wpAny_pure ?_)
    simp only [Bool.false_eq_true, if_false]
    refine wpAny_bind (wpAny_mono one (fun r s' z => ?_) fun _ _ e => e)
    obtain ⟨v, rfl, hq⟩ := z
    exact wpAny_pure hq
end OPN
/-! ### the law of programs: texts as data -/
def Asc (l : List Nat) : Prop := ∀ c ∈ l, c < 128
theorem Asc.app {a b : List Nat} (h1 : Asc a) (h2 : Asc b) : Asc (a ++ b) := fun c hc => (List.mem_append.mp hc).elim (h1 c) (h2 c)
theorem Asc.cons {a : Nat} {b : List Nat} (h1 : a < 128) (h2 : Asc b) : Asc (a :: b) := fun c hc => by
  rcases List.mem_cons.mp hc with rfl | hc
  · exact h1
  · exact h2 c hc
theorem asc_nil : Asc [] := fun _ z => nomatch z
theorem asc_digs {l : List Nat} (h : ∀ d ∈ l, d ∈ DIGS) : Asc l := fun c hc => by
  have := (digs_iff c).mp (h c hc)
  omega
theorem OkNm.asc {n : List Nat} (h : OkNm n) : Asc n := by
  obtain ⟨c, ds, rfl, hc, hd, _⟩ := h
  have := (caps_iff c).mp hc
  exact .cons (by omega) (asc_digs hd)
theorem Ex.asc : ∀ {e : Ex}, e.ok → Asc e.txt
  | .x, _ => .cons (by decide) asc_nil
  | .nm n, h => OkNm.asc h
  | .up l r, h => .cons (by decide) ((Ex.asc h.1).app ((Ex.asc h.2).app (.cons (by decide) asc_nil)))
  | .pw b e k, h => (Ex.asc h.1).app (.cons (by cases b <;> decide) (asc_digs (natD_digits k)))
theorem Row.asc {r : Row} (h : r.ok) : Asc r.txt := h.1.asc.app (.cons (by decide) (Ex.asc h.2.1))
theorem tail_asc : ∀ {rs : List Row}, (∀ r ∈ rs, r.ok) → Asc (tailT rs)
  | [], _ => asc_nil
  | r :: rs, h => .cons (by decide) ((Row.asc (h r List.mem_cons_self)).app (tail_asc fun x hx => h x (List.mem_cons_of_mem _ hx)))
theorem rows_asc {rs : List Row} (h : ∀ r ∈ rs, r.ok) : Asc (rowsT rs) := by
  cases rs with
  | nil => exact asc_nil
  | cons r rs => exact (Row.asc (h r List.mem_cons_self)).app (tail_asc fun x hx => h x (List.mem_cons_of_mem _ hx))
theorem asc_ok {l : List Nat} (h : Asc l) : PyData.canLay0 (.str (sL l)) = true := by
  show ((l.toArray).all fun c => decide (c < 0x110000)) = true
  rw [List.all_toArray]
  refine List.all_eq_true.mpr fun c hc => decide_eq_true ?_
  have := h c hc
  omega
theorem asc_all {ls : List (List Nat)} (h : ∀ l ∈ ls, Asc l) : PyData.canLayAll0 (ls.map fun l => PyData.str (sL l)) = true := by
  induction ls with
  | nil => rfl
  | cons l ls ih =>
    show (PyData.canLay0 (.str (sL l)) && PyData.canLayAll0 (ls.map fun l => PyData.str (sL l))) = true
    rw [asc_ok (h l List.mem_cons_self), ih fun x hx => h x (List.mem_cons_of_mem _ hx)]
    rfl
def strsD (ls : List (List Nat)) : PyData := .list (ls.map fun l => PyData.str (sL l))
theorem strs_depth (ls : List (List Nat)) : (strsD ls).depth ≤ 2 := by
  have e : PyData.depthAll (ls.map fun l => PyData.str (sL l)) ≤ 1 := by
    induction ls with
    | nil => exact Nat.zero_le _
    | cons l ls ih =>
      show max (PyData.depth (.str (sL l))) (PyData.depthAll (ls.map fun l => PyData.str (sL l))) ≤ 1
      have e3 : PyData.depth (.str (sL l)) ≤ 1 := by first | exact Nat.le_refl _ | exact Nat.zero_le _
      omega
  show PyData.depthAll (ls.map fun l => PyData.str (sL l)) + 1 ≤ 2
  omega
theorem strs_shaped {ls : List (List Nat)} (h : ∀ l ∈ ls, Asc l) : SeqAt.shaped (strsD ls) = true := by
  have e1 : (strsD ls).canLay0 = true := asc_all h
  have e2 := strs_depth ls
  unfold SeqAt.shaped
  rw [e1, decide_eq_true (by omega)]
  rfl
theorem strs_wide {ls : List (List Nat)} (h : ls.length ≤ 1000) : wide (strsD ls) = true := by
  have e : wideAll (ls.map fun l => PyData.str (sL l)) = true := by
    clear h
    induction ls with
    | nil => rfl
    | cons l ls ih =>
      show (wide (.str (sL l)) && wideAll (ls.map fun l => PyData.str (sL l))) = true
      rw [ih]
      rfl
  show (decide ((ls.map fun l => PyData.str (sL l)).length ≤ 1000) && wideAll (ls.map fun l => PyData.str (sL l))) = true
  rw [e, List.length_map, decide_eq_true h]
  rfl
theorem strs_dp {K : PySem.W.Frag} {H : Hp} {t : Addr} {ls : List (List Nat)} (h : SqL K H t (ls.map nmV)) : Dp K H (.ref t) (strsD ls) := by
  refine Dp.lst h ?_
  clear h
  induction ls with
  | nil => exact .nil
  | cons e ds ih => exact .cons (.str _) ih
/-- the three that the law compares -/
def triD (z : List Nat) (ls : List (List Nat)) (n : Int) : PyData := .list [.str (sL z), strsD ls, .int n]
theorem tri_shaped {z : List Nat} {ls : List (List Nat)} (h0 : Asc z) (h : ∀ l ∈ ls, Asc l) (n : Int) : SeqAt.shaped (triD z ls n) = true := by
  have e1 : (triD z ls n).canLay0 = (PyData.canLay0 (.str (sL z)) && ((strsD ls).canLay0 && (PyData.canLay0 (.int n) && true))) := rfl
  have e2 : (triD z ls n).depth = max (PyData.depth (.str (sL z))) (max (strsD ls).depth (max (PyData.depth (.int n)) 0)) + 1 := rfl
  have e3 : PyData.depth (.str (sL z)) ≤ 1 := by first | exact Nat.le_refl _ | exact Nat.zero_le _
  have e4 := strs_depth ls
  have e5 : PyData.depth (.int n) ≤ 1 := by first | exact Nat.le_refl _ | exact Nat.zero_le _
  unfold SeqAt.shaped
  rw [e1, asc_ok h0, SeqAt.canLay_of_shaped (strs_shaped h), decide_eq_true (by omega)]
  rfl
theorem tri_depth (z : List Nat) (ls : List (List Nat)) (n : Int) : (triD z ls n).depth < 14 := by
  have e2 : (triD z ls n).depth = max (PyData.depth (.str (sL z))) (max (strsD ls).depth (max (PyData.depth (.int n)) 0)) + 1 := rfl
  have e3 : PyData.depth (.str (sL z)) ≤ 1 := by first | exact Nat.le_refl _ | exact Nat.zero_le _
  have e4 := strs_depth ls
  have e5 : PyData.depth (.int n) ≤ 1 := by first | exact Nat.le_refl _ | exact Nat.zero_le _
  omega
theorem tri_wide {z : List Nat} {ls : List (List Nat)} (h : ls.length ≤ 1000) (n : Int) : wide (triD z ls n) = true := by
  show (decide (3 ≤ 1000) && (wide (.str (sL z)) && (wide (strsD ls) && (wide (.int n) && true)))) = true
  rw [strs_wide h]
  rfl
theorem tri_dp {K : PySem.W.Frag} {H : Hp} {t l : Addr} {z : List Nat} {ls : List (List Nat)} {n : Int} (h : SqL K H t [.str (sL z), .ref l, .int n]) (hl : SqL K H l (ls.map nmV)) : Dp K H (.ref t) (triD z ls n) := Dp.lst h (.cons (.str _) (.cons (strs_dp hl) (.cons (.int _) .nil)))
theorem txD_strs (ds : List PD) : txD ds = strsD (ds.map fun e => e.df.tx) := by
  unfold txD strsD
  rw [List.map_map]
  rfl
/-- the texts of what rows give -/
theorem rowsD_tx (rs : List Row) : (rowsD [] rs).map (fun e => e.df.tx) = rs.map Row.txt := by
  have e := congrArg (List.map fun d : Df => d.tx) (rowsD_df rs [])
  rw [List.map_map] at e
  rw [show (rowsD [] rs).map (fun e => e.df.tx) = (rowsD [] rs).map ((fun d : Df => d.tx) ∘ fun e => e.df) from rfl, e, List.map_nil, List.nil_append, List.map_map]
  rfl
theorem rowsD_nm (rs : List Row) : (rowsD [] rs).map (fun e => e.df.nm) = rs.map Row.nm := by
  have e := congrArg (List.map fun d : Df => d.nm) (rowsD_df rs [])
  rw [List.map_map] at e
  rw [show (rowsD [] rs).map (fun e => e.df.nm) = (rowsD [] rs).map ((fun d : Df => d.nm) ∘ fun e => e.df) from rfl, e, List.map_nil, List.nil_append, List.map_map]
  rfl
theorem rowsD_len (rs : List Row) : (rowsD [] rs).length = rs.length := by
  have e := congrArg List.length (rowsD_tx rs)
  rw [List.length_map, List.length_map] at e
  exact e
theorem join_rows : ∀ rs : List Row, Txt.join (Str.ofString ";") (rs.map fun w => sL w.txt) = sL (rowsT rs) := by
  have hS : Str.ofString ";" = sL [59] := by decide +kernel
  have hJ : ∀ (r : Row) (rs : List Row), Str.join (Str.ofString ";") ((r :: rs).map fun w => sL w.txt) = sL (r.txt ++ tailT rs) := by
    intro r rs
    induction rs generalizing r with
    | nil =>
      show sL r.txt = sL (r.txt ++ [])
      rw [List.append_nil]
    | cons r2 rs ih =>
      show sL r.txt ++ Str.ofString ";" ++ Str.join (Str.ofString ";") ((r2 :: rs).map fun w => sL w.txt) = sL (r.txt ++ (59 :: (r2.txt ++ tailT rs)))
      rw [ih r2, hS, sL_app, sL_app, List.append_assoc]
      rfl
  intro rs
  rw [TL.join_eq]
  cases rs with
  | nil => decide +kernel
  | cons r rs => exact hJ r rs
theorem joinT_rows (rs : List Row) : joinT (rowsD [] rs) = sL (rowsT rs) := by
  rw [← join_rows]
  unfold joinT
  rw [show ((rowsD [] rs).map fun e => sL e.df.tx) = ((rowsD [] rs).map fun e => e.df.tx).map sL by rw [List.map_map]; rfl, rowsD_tx, List.map_map]
  rfl
/-- the fixed other program -/
def qRows : List Row := [⟨[81, 57], .up .x .x⟩, ⟨[81, 56], .x⟩]
theorem q_ok : ∀ r ∈ qRows, r.ok := fun r hr => by
  have c81 : (81 : Nat) ∈ CAPS := (caps_iff 81).mpr (by omega)
  rcases List.mem_cons.mp hr with rfl | hr
  · exact ⟨⟨81, [57], rfl, c81, fun d hd => by rw [List.mem_singleton.mp hd]; exact (digs_iff 57).mpr (by omega), by decide⟩, ⟨trivial, trivial⟩, by decide⟩
  · rw [List.mem_singleton.mp hr]
    exact ⟨⟨81, [56], rfl, c81, fun d hd => by rw [List.mem_singleton.mp hd]; exact (digs_iff 56).mpr (by omega), by decide⟩, trivial, by decide⟩
theorem q_txt : sL (rowsT qRows) = ("Q9=(xx);Q8=x" : Str) := by decide +kernel
theorem q_inc : ∃ res, Inc [] (qRows.map Row.df) res ∧ res.map (fun e => e.df.tx) = qRows.map Row.txt := by
  refine ⟨[⟨Row.df ⟨[81, 57], .up .x .x⟩, 2, 1⟩, ⟨Row.df ⟨[81, 56], .x⟩, 1, 0⟩], ?_, rfl⟩
  refine .cons (Ex.st_ok (e := .up .x .x) ⟨trivial, trivial⟩) (by decide) (fun n hn => ?_) (fun z => nomatch z) rfl rfl ?_
  · exact absurd ((Ex.st_nms (.up .x .x) n).mp hn) (fun z => nomatch z)
  refine .cons (Ex.st_ok (e := .x) trivial) (by decide) (fun n hn => ?_) (by decide) rfl rfl .nil
  exact absurd ((Ex.st_nms .x n).mp hn) (fun z => nomatch z)
theorem eqv_q {rs : List Row} (h : ∀ r ∈ rs, NmA r.nm) : PyData.eqv (strsD (rs.map Row.txt)) (strsD (qRows.map Row.txt)) = false := by
  cases rs with
  | nil => rfl
  | cons r rs =>
    obtain ⟨c, ds, hn, hc, _⟩ := h r List.mem_cons_self
    show (((sL r.txt) == sL (Row.txt ⟨[81, 57], .up .x .x⟩)) && PyData.eqvAll _ _) = false
    have e : ((sL r.txt) == sL (Row.txt ⟨[81, 57], .up .x .x⟩)) = false := by
      refine beq_eq_false_iff_ne.mpr fun z => ?_
      have z := sL_inj z
      rw [show r.txt = r.nm ++ (61 :: r.e.txt) from rfl, hn] at z
      have z : c = 81 := (List.cons.inj z).1
      omega
    rw [e]
    rfl
theorem strs_eqv {ls : List (List Nat)} (h : ∀ l ∈ ls, Asc l) : PyData.eqv (strsD ls) (strsD ls) = true := SeqAt.eqv_refl _ (SeqAt.canLay_of_shaped (strs_shaped h))
/-- making a program -/
theorem init_law {T : List (Addr × Str)} {K : PySem.W.Frag} {C : Addr} {H : Hp} {x dx : Addr} {cs : List Nat} {dfs : List Df} {res : List PD} {Q : VK} {E : XK} (tab : LamX.Tabs T H) (nx : H x = none) (ndx : H dx = none) (nex : dx ≠ x) (hl : cs.length ≤ 10000) (hS : SrcT cs dfs) (hI : Inc [] dfs res) (hn : dfs.length ≤ 30)
    (q : ∀ H', LamX.ExtN H H' → LamX.Tabs T H' → PrA K (fun b => H b = none) H' C x res → Q .non H') : spPInit T K C [.ref x, .str (sL cs)] (upd (upd H dx (.own x)) x (.ins C dx [])) Q E := by
  have sx : Same H (upd (upd H dx (.own x)) x (.ins C dx [])) := (Same.new ndx (.own x)).trans (Same.new (by rw [upd_ne nex.symm]; exact nx) _)
  refine ⟨x, dx, cs, dfs, res, rfl, upd_same, tabs_same sx tab, hl, hS, hI, hn, fun H' P' T' f' tp' => ?_⟩
  refine q H' (fun b o e nt => f' b o (fun z => by rw [z, nx] at e; cases e) (sx _ _ e) nt) T' (P'.keep (Tp.refl _) (fun b hb => ?_) fun b o _ e _ => e)
  rcases hb with rfl | hb
  · exact nx
  · cases z : H b with
    | none => rfl
    | some o => rw [sx _ _ z] at hb; cases hb
def spLawTs (K : PySem.W.Frag) (Ps : List Addr) : Sp := fun vs H Q _ => ∃ (a : Addr) (ns : List Int), vs = [.ref a] ∧ SqL K H a (ns.map V.int) ∧ (∀ P ∈ Ps, H P = some (.tbl #[])) ∧ ∀ H', Q (.bl true) H'
/-- what the law of programs holds while it asks -/
structure Fr56 (T : List (Addr × Str)) (K : PySem.W.Frag) (C r cc x e nl : Addr) (rs : List Row) (H : Hp) : Prop where
  R : RngC H r cc
  T : LamX.Tabs T H
  P : ∃ O, PrA K O H C x (rowsD [] rs)
  E : H e = some (.lst [.str (sL (rowsT rs)), .ref nl, .int (rs.length : Int)])
  N : H nl = some (.lst ((rs.map Row.nm).map nmV))
theorem Fr56.ext {T : List (Addr × Str)} {K : PySem.W.Frag} {C r cc x e nl : Addr} {rs : List Row} {H H' : Hp} (F : Fr56 T K C r cc x e nl rs H) (s : LamX.ExtN H H') (t : LamX.Tabs T H') : Fr56 T K C r cc x e nl rs H' := by
  obtain ⟨O, P⟩ := F.P
  exact ⟨F.R.extN s, t, ⟨O, P.extN s⟩, s _ _ F.E (fun _ => nofun), s _ _ F.N (fun _ => nofun)⟩
theorem Fr56.same {T : List (Addr × Str)} {K : PySem.W.Frag} {C r cc x e nl : Addr} {rs : List Row} {H H' : Hp} (F : Fr56 T K C r cc x e nl rs H) (s : Same H H') : Fr56 T K C r cc x e nl rs H' := F.ext (LamX.ExtN.of s) (tabs_same s F.T)
theorem PrA.ins {K : PySem.W.Frag} {O : Addr → Prop} {H : Hp} {C x : Addr} {ds : List PD} (h : PrA K O H C x ds) : ∃ dx t c s d, H x = some (.ins C dx (prf t c s d)) := by
  obtain ⟨dx, t, c, s, d, kvs, hI⟩ := h.ex
  exact ⟨dx, t, c, s, d, hI.hx⟩
/-! ### tables at hand -/
def nts (r : List Nat) : List V := r.map fun (k : Nat) => V.int (k : Int)
theorem nts_len (r : List Nat) : (nts r).length = r.length := by unfold nts; rw [List.length_map]
theorem nts_get {r : List Nat} {i : Nat} (h : i < r.length) : (nts r)[i]? = some (V.int ((r.getD i 0 : Nat) : Int)) := by
  unfold nts
  rw [List.getElem?_map, List.getElem?_eq_getElem h, List.getD_eq_getElem?_getD, List.getElem?_eq_getElem h]
  rfl
theorem atI_nat {α : Type} {xs : List α} {j : Nat} {v : α} (h : xs[j]? = some v) : atI xs (j : Int) = some v := by
  obtain ⟨hj, _⟩ := List.getElem?_eq_some_iff.mp h
  unfold atI ixN
  rw [if_pos (by omega), if_pos (by omega)]
  exact h
theorem ixN_nat {n j : Nat} (h : j < n) : ixN n (j : Int) = some j := by
  unfold ixN
  rw [if_pos (by omega), if_pos (by omega)]
  rfl
/-- rows, correct from the place e on -/
structure RowsAt (H : Hp) (ra : Addr) (as : List Addr) (T : List (List Nat)) (e : Nat) : Prop where
  l : H ra = some (.lst (as.map V.ref))
  n : as.length = T.length
  r : ∀ i a, e ≤ i → as[i]? = some a → H a = some (.lst (nts (T.getD i [])))
theorem RowsAt.same {H H' : Hp} {ra : Addr} {as : List Addr} {T : List (List Nat)} {e : Nat} (h : RowsAt H ra as T e) (s : Same H H') : RowsAt H' ra as T e := ⟨s _ _ h.l, h.n, fun i a h1 h2 => s _ _ (h.r i a h1 h2)⟩
def spEntry : Sp := fun vs H Q _ => ∃ (a : Addr) (r : List Nat) (b : Nat), vs = [.ref a, .int (b : Int)] ∧ H a = some (.lst (nts r)) ∧ 0 < r.length ∧ 1 ≤ b ∧ Q (.int ((ent r b : Nat) : Int)) H
theorem ent_at {r : List Nat} {b : Nat} (h : 0 < r.length) (hb : 1 ≤ b) : atI (nts r) (((b : Int) - 1) % ((nts r).length : Int)) = some (V.int ((ent r b : Nat) : Int)) := by
  have e : ((b : Int) - 1) % ((nts r).length : Int) = (((b - 1) % r.length : Nat) : Int) := by
    rw [nts_len, show (b : Int) - 1 = ((b - 1 : Nat) : Int) by omega]
    exact (Int.natCast_emod _ _).symm
  rw [e]
  exact atI_nat (nts_get (Nat.mod_lt _ h))
def spRows : Sp := fun vs H Q _ => ∃ (N : Nat) (T : List (List Nat)), vs = [.int (N : Int)] ∧ Good N T ∧ N ≤ 512 ∧ ∀ (ra : Addr) (as : List Addr) (H' : Hp), Same H H' → H ra = none → RowsAt H' ra as T 0 → Q (.ref ra) H'
theorem flat_one {α : Type} (x : α) : ∀ n : Nat, (List.replicate n [x]).flatten = List.replicate n x
  | 0 => rfl
  | n + 1 => by rw [List.replicate_succ, List.flatten_cons, flat_one x n, List.replicate_succ]; rfl
theorem rgV_nts (N : Nat) : rgV 1 ((N : Int) + 1) = nts (List.range' 1 N) := by
  unfold rgV nts
  rw [show ((N : Int) + 1 - 1).toNat = N by omega, List.range'_eq_map_range, List.map_map]
  refine List.map_congr_left fun i _ => ?_
  show V.int (1 + (i : Int)) = V.int (((1 + i : Nat)) : Int)
  rw [Int.natCast_add]
  rfl
theorem take_nts {r : List Nat} {j : Nat} (h : j < r.length) : nts (r.take (j + 1)) = nts (r.take j) ++ [V.int ((r.getD j 0 : Nat) : Int)] := by
  unfold nts
  rw [List.take_add_one, List.getElem?_eq_getElem h, List.map_append, List.getD_eq_getElem?_getD, List.getElem?_eq_getElem h]
  rfl
theorem RowsAt.but {H H' : Hp} {p ra : Addr} {as : List Addr} {T : List (List Nat)} {e : Nat} (h : RowsAt H ra as T e) (s : But p H H') (hp : H p = none) : RowsAt H' ra as T e :=
  ⟨s _ _ (ne_of_none h.l hp) h.l, h.n, fun i a h1 h2 => s _ _ (ne_of_none (h.r i a h1 h2) hp) (h.r i a h1 h2)⟩
theorem RowsAt.set {H : Hp} {ra rl : Addr} {as : List Addr} {T : List (List Nat)} {e j : Nat} (h : RowsAt H ra as T e) (he : e = j + 1) (hj : j < T.length) (hl : H rl = some (.lst (nts (T.getD j [])))) (hne : rl ≠ ra) (hn : ∀ i a, e ≤ i → as[i]? = some a → a ≠ ra) :
    RowsAt (upd H ra (.lst ((as.map V.ref).set j (.ref rl)))) ra (as.set j rl) T j := by
  refine ⟨by rw [upd_same, List.map_set], by rw [List.length_set]; exact h.n, fun i a h1 h2 => ?_⟩
  rcases Nat.eq_or_lt_of_le h1 with rfl | h3
  · rw [List.getElem?_set_self (by rw [h.n]; exact hj)] at h2
    cases h2
    rw [upd_ne hne]
    exact hl
  · rw [List.getElem?_set_ne (by omega)] at h2
    rw [upd_ne (hn i a (by omega) h2)]
    exact h.r i a (by omega) h2
theorem nts_refs {r : List Nat} {as : List Addr} (h : 0 < as.length) : ¬ nts r = as.map V.ref := fun z => by
  cases as with
  | nil => exact absurd h (by decide)
  | cons a as =>
    cases r with
    | nil => cases z
    | cons b r =>
      have z : V.int (b : Int) :: nts r = V.ref a :: as.map V.ref := z
      cases z
theorem RowsAt.ne {H : Hp} {ra : Addr} {as : List Addr} {T : List (List Nat)} {e : Nat} (h : RowsAt H ra as T e) (h0 : 0 < T.length) {i : Nat} {a : Addr} (h1 : e ≤ i) (h2 : as[i]? = some a) : a ≠ ra := fun z => by
  have w := h.r i a h1 h2
  rw [z, h.l] at w
  injection w with w
  injection w with w
  exact nts_refs (by rw [h.n]; exact h0) w.symm
/-! ### the class Table -/
structure TabT (K : PySem.W.Frag) (mg : Str → Option Value) (C : Addr) : Prop where
  cl : Cls K C
  n1 : NoAttr K C "size"
  n2 : NoAttr K C "rows"
  mgC : mg "Table" = some (.ref C)
theorem tne1 : ¬ (("size" : Str) = "rows") := by decide +kernel
def tbf (n : Int) (ra : Addr) : List (Str × V) := putF "rows" (.ref ra) (putF "size" (.int n) [])
theorem tbf_r (n : Int) (ra : Addr) : (tbf n ra).lookup ("rows" : Str) = some (.ref ra) := by
  unfold tbf
  rw [lookup_putF, if_pos rfl]
theorem tbf_s (n : Int) (ra : Addr) : (tbf n ra).lookup ("size" : Str) = some (.int n) := by
  unfold tbf
  rw [lookup_putF, if_neg tne1, lookup_putF, if_pos rfl]
theorem tbf_no (n : Int) (ra : Addr) {m : Str} (h1 : ¬ m = "rows") (h2 : ¬ m = "size") : (tbf n ra).lookup m = none := by
  unfold tbf
  rw [lookup_putF, if_neg h1, lookup_putF, if_neg h2]
  rfl
def tbs : Nat → List (List Nat)
  | 0 => tb0
  | 1 => tb1
  | 2 => tb2
  | 3 => tb3
  | 4 => tb4
  | 5 => tb5
  | 6 => tb6
  | 7 => tb7
  | 8 => tb8
  | _ => tb9
theorem good_tbs {n : Nat} (h : n ≤ 9) : Good (2 ^ n) (tbs n) := by
  match n, h with
  | 0, _ => exact good_of tb0_ok
  | 1, _ => exact good_of tb1_ok
  | 2, _ => exact good_of tb2_ok
  | 3, _ => exact good_of tb3_ok
  | 4, _ => exact good_of tb4_ok
  | 5, _ => exact good_of tb5_ok
  | 6, _ => exact good_of tb6_ok
  | 7, _ => exact good_of tb7_ok
  | 8, _ => exact good_of tb8_ok
  | 9, _ => exact good_of tb9_ok
  | n + 10, h => exact absurd h (by omega)
theorem pow_le512 {n : Nat} (h : n ≤ 9) : 2 ^ n ≤ 512 := Nat.pow_le_pow_right (by decide) h
def TabA (H : Hp) (C x : Addr) (n : Nat) : Prop := ∃ (dx ra : Addr) (as : List Addr), H x = some (.ins C dx (tbf n ra)) ∧ RowsAt H ra as (tbs n) 0
theorem TabA.same {H H' : Hp} {C x : Addr} {n : Nat} (h : TabA H C x n) (s : Same H H') : TabA H' C x n := by
  obtain ⟨dx, ra, as, h1, h2⟩ := h
  exact ⟨dx, ra, as, s _ _ h1, h2.same s⟩
def spTInit (C CS : Addr) : Sp := fun vs H Q E => ∃ (H0 : Hp) (x dx : Addr) (n : Int), vs = [.ref x, .int n] ∧ Same H0 H ∧ H0 x = none ∧ H x = some (.ins C dx []) ∧ (∀ m : Nat, n = (m : Int) → m ≤ 9 → ∀ H', Same H0 H' → TabA H' C x m → Q .non H') ∧ (¬ (0 ≤ n ∧ n ≤ 9) → E (.ref CS) none H)
def spTLen (C : Addr) : Sp := fun vs H Q _ => ∃ (x : Addr) (n : Nat), vs = [.ref x] ∧ TabA H C x n ∧ n ≤ 9 ∧ Q (.int ((2 ^ n : Nat) : Int)) H
def spTChk (C CE : Addr) : Sp := fun vs H Q E => ∃ (x : Addr) (n : Nat) (a : Int), vs = [.ref x, .int a] ∧ TabA H C x n ∧ n ≤ 9 ∧ (1 ≤ a → a ≤ ((2 ^ n : Nat) : Int) → Q .non H) ∧ (¬ (1 ≤ a ∧ a ≤ ((2 ^ n : Nat) : Int)) → E (.ref CE) none H)
def spTApp (C CE : Addr) : Sp := fun vs H Q E => ∃ (x : Addr) (n : Nat) (a b : Int), vs = [.ref x, .int a, .int b] ∧ TabA H C x n ∧ n ≤ 9 ∧ (∀ a' b' : Nat, a = (a' : Int) → b = (b' : Int) → 1 ≤ a' → a' ≤ 2 ^ n → 1 ≤ b' → b' ≤ 2 ^ n → Q (.int ((opT (tbs n) a' b' : Nat) : Int)) H) ∧
  (¬ ((1 ≤ a ∧ a ≤ ((2 ^ n : Nat) : Int)) ∧ 1 ≤ b ∧ b ≤ ((2 ^ n : Nat) : Int)) → E (.ref CE) none H)
theorem dec_t {p : Prop} [Decidable p] {b : Bool} (h : decide p = b) (hb : b = true) : p := of_decide_eq_true (h.trans hb)
theorem not_dec {p : Prop} [Decidable p] (c : (!decide p) = true) : ¬ p := fun z => by rw [decide_eq_true z] at c; cases c
theorem yes_dec {p : Prop} [Decidable p] (c : ¬ (!decide p) = true) : p := by
  by_cases z : p
  · exact z
  · rw [decide_eq_false z] at c
    exact absurd rfl c
theorem RowsAt.ins {H : Hp} {ra x C dx : Addr} {as : List Addr} {T : List (List Nat)} {fs : List (Str × V)} {o : HO} (h : RowsAt H ra as T 0) (hx : H x = some (.ins C dx fs)) : RowsAt (upd H x o) ra as T 0 := by
  refine ⟨by rw [upd_ne (fun z => by rw [← z, h.l] at hx; cases hx)]; exact h.l, h.n, fun i a h1 h2 => ?_⟩
  have w := h.r i a h1 h2
  rw [upd_ne (fun z => by rw [← z, w] at hx; cases hx)]
  exact w
theorem TabA.rng {H H' : Hp} {C x r c : Addr} {n : Nat} (h : TabA H C x n) (R : RngC H r c) (b : But r H H') : TabA H' C x n := by
  obtain ⟨dx, ra, as, h1, h2⟩ := h
  obtain ⟨ns, i, b0, s, hr, _⟩ := R
  have hl := h2.l
  refine ⟨dx, ra, as, b _ _ (fun z => by rw [z, hr] at h1; cases h1) h1, b _ _ (fun z => ?_) h2.l, h2.n, fun i a k1 k2 => ?_⟩
  · rw [z, hr] at hl
    injection hl with hl
    injection hl with hl
    cases as with
    | nil => cases hl
    | cons a as =>
      cases as with
      | nil => cases hl
      | cons a' as =>
        have hl : [V.ref c, V.int i, V.int b0, V.int s] = V.ref a :: V.ref a' :: as.map V.ref := hl
        cases hl
  · have w := h2.r i a k1 k2
    refine b _ _ (fun z => ?_) w
    rw [z, hr] at w
    injection w with w
    injection w with w
    cases hrow : (tbs n).getD i [] with
    | nil => rw [hrow] at w; cases w
    | cons y ys =>
      rw [hrow] at w
      have w : [V.ref c, V.int _, V.int b0, V.int s] = V.int (y : Int) :: nts ys := w
      cases w
/-! ### the law's own rows: at the place of each element its row -/
structure RowsB (H : Hp) (ra : Addr) (as : List Addr) (T : List (List Nat)) (e : Nat) : Prop where
  l : H ra = some (.lst (as.map V.ref))
  n : as.length = T.length + 1
  r : ∀ i a, e < i → as[i]? = some a → H a = some (.lst (nts (T.getD (i - 1) [])))
theorem RowsB.same {H H' : Hp} {ra : Addr} {as : List Addr} {T : List (List Nat)} {e : Nat} (h : RowsB H ra as T e) (s : Same H H') : RowsB H' ra as T e := ⟨s _ _ h.l, h.n, fun i a h1 h2 => s _ _ (h.r i a h1 h2)⟩
theorem RowsB.but {H H' : Hp} {p ra : Addr} {as : List Addr} {T : List (List Nat)} {e : Nat} (h : RowsB H ra as T e) (s : But p H H') (hp : H p = none) : RowsB H' ra as T e :=
  ⟨s _ _ (ne_of_none h.l hp) h.l, h.n, fun i a h1 h2 => s _ _ (ne_of_none (h.r i a h1 h2) hp) (h.r i a h1 h2)⟩
theorem RowsB.ne {H : Hp} {ra : Addr} {as : List Addr} {T : List (List Nat)} {e : Nat} (h : RowsB H ra as T e) {i : Nat} {a : Addr} (h1 : e < i) (h2 : as[i]? = some a) : a ≠ ra := fun z => by
  have w := h.r i a h1 h2
  rw [z, h.l] at w
  injection w with w
  injection w with w
  exact nts_refs (by rw [h.n]; omega) w.symm
theorem RowsB.set {H : Hp} {ra rl : Addr} {as : List Addr} {T : List (List Nat)} {e : Nat} (h : RowsB H ra as T e) (h0 : 1 ≤ e) (he : e ≤ T.length) (hl : H rl = some (.lst (nts (T.getD (e - 1) [])))) (hne : rl ≠ ra) :
    RowsB (upd H ra (.lst ((as.map V.ref).set e (.ref rl)))) ra (as.set e rl) T (e - 1) := by
  refine ⟨by rw [upd_same, List.map_set], by rw [List.length_set]; exact h.n, fun i a h1 h2 => ?_⟩
  by_cases c : e = i
  · subst c
    rw [List.getElem?_set_self (by rw [h.n]; omega)] at h2
    cases h2
    rw [upd_ne hne]
    exact hl
  · rw [List.getElem?_set_ne c] at h2
    rw [upd_ne (h.ne (by omega) h2)]
    exact h.r i a (by omega) h2
theorem nts_four {c : Addr} {x y z : V} {r : List Nat} : ¬ [V.ref c, x, y, z] = nts r := fun w => by
  cases r with
  | nil => cases w
  | cons b r =>
    have w : [V.ref c, x, y, z] = V.int (b : Int) :: nts r := w
    cases w
theorem refs_four {c : Addr} {x y z : Int} {as : List Addr} : ¬ [V.ref c, V.int x, V.int y, V.int z] = as.map V.ref := fun w => by
  match as, w with
  | [], w => cases w
  | [_], w => cases w
  | a :: b :: as, w =>
    have w : [V.ref c, V.int x, V.int y, V.int z] = V.ref a :: V.ref b :: as.map V.ref := w
    cases w
theorem RowsB.rng {H H' : Hp} {ra r c : Addr} {as : List Addr} {T : List (List Nat)} {e : Nat} (h : RowsB H ra as T e) (R : RngC H r c) (b : But r H H') : RowsB H' ra as T e := by
  obtain ⟨ns, i, b0, s, hr, _⟩ := R
  refine ⟨b _ _ (fun z => ?_) h.l, h.n, fun i a k1 k2 => b _ _ (fun z => ?_) (h.r i a k1 k2)⟩
  · have w := h.l
    rw [z, hr] at w
    injection w with w
    injection w with w
    exact refs_four w
  · have w := h.r i a k1 k2
    rw [z, hr] at w
    injection w with w
    injection w with w
    exact nts_four w
def spShort : Sp := fun vs H Q _ => ∃ n : Nat, vs = [.int (n : Int)] ∧ n ≤ 9 ∧ ∀ (ra : Addr) (as : List Addr) (H' : Hp), Same H H' → H ra = none → RowsB H' ra as (tbs n) 0 → Q (.ref ra) H'
def spProd : Sp := fun vs H Q _ => ∃ (ra : Addr) (as : List Addr) (n a b : Nat), vs = [.ref ra, .int (a : Int), .int (b : Int)] ∧ RowsB H ra as (tbs n) 0 ∧ n ≤ 9 ∧ 1 ≤ a ∧ a ≤ 2 ^ n ∧ 1 ≤ b ∧ Q (.int ((opT (tbs n) a b : Nat) : Int)) H
theorem row_ne {N a : Nat} {T : List (List Nat)} (g : Good N T) (h1 : 1 ≤ a) (h2 : a ≤ N) : 0 < (T.getD (a - 1) []).length := by
  by_cases c : a < N
  · exact (g.row a h1 c).ne
  · have e : a = N := by omega
    rw [e, g.top, List.length_range']
    exact g.pos
/-- the composed element -/
def cmp (N : Nat) (T : List (List Nat)) (a b : Nat) : Nat := if opT T a (opT T b 1) = 1 then N else opT T a (opT T b 1) - 1
theorem one_of {N : Nat} {T : List (List Nat)} (g : Good N T) {b : Nat} (h1 : 1 ≤ b) (h2 : b ≤ N) : 1 ≤ opT T b 1 ∧ opT T b 1 ≤ N := lv_rng g h1 h2 (by omega) g.pos
theorem cmp_rng {N : Nat} {T : List (List Nat)} (g : Good N T) {a b : Nat} (a1 : 1 ≤ a) (a2 : a ≤ N) (b1 : 1 ≤ b) (b2 : b ≤ N) : 1 ≤ cmp N T a b ∧ cmp N T a b ≤ N := by
  have o := one_of g b1 b2
  have s := lv_rng g a1 a2 o.1 o.2
  have p := g.pos
  unfold cmp
  split <;> omega
theorem cmp_acts {N : Nat} {T : List (List Nat)} (g : Good N T) {a b : Nat} (a1 : 1 ≤ a) (a2 : a ≤ N) (b1 : 1 ≤ b) (b2 : b ≤ N) : ∀ d, 1 ≤ d → d ≤ N → opT T (cmp N T a b) d = opT T a (opT T b d) := by
  have o := one_of g b1 b2
  have s := lv_rng g a1 a2 o.1 o.2
  have p := g.pos
  by_cases c : opT T a (opT T b 1) = 1
  · have ea : a = N := by
      rcases Nat.eq_or_lt_of_le a2 with h | h
      · exact h
      · have := lv_gt (b := opT T b 1) g a1 h
        omega
    subst ea
    rw [lv_top g o.1 o.2] at c
    have eb : b = a := by
      rcases Nat.eq_or_lt_of_le b2 with h | h
      · exact h
      · have := lv_gt (b := 1) g b1 h
        omega
    subst eb
    intro d d1 d2
    unfold cmp
    rw [lv_top g (Nat.le_refl 1) p, lv_top g (Nat.le_refl 1) p, if_pos rfl, lv_top g d1 d2, lv_top g d1 d2]
  · have ec : cmp N T a b = opT T a (opT T b 1) - 1 := if_neg c
    have hc1 : 1 ≤ cmp N T a b := by omega
    have hc2 : cmp N T a b < N := by omega
    have hs : cmp N T a b + 1 = opT T a (opT T b 1) := by omega
    intro d d1
    induction d with
    | zero => omega
    | succ d ih =>
      intro d2
      rcases Nat.eq_zero_or_pos d with rfl | d0
      · rw [Nat.zero_add, lv_one g hc1 hc2, hs]
      · have r := lv_rng g b1 b2 d0 (by omega)
        rw [lv_suc g hc1 hc2 d0, ih d0 (by omega), hs, ← lv_dist g a1 a2 r.1 r.2 o.1 o.2]
        rcases Nat.eq_or_lt_of_le b2 with h | h
        · rw [h, lv_top g d0 (by omega), lv_top g (Nat.le_refl 1) p, lv_top g d1 d2, lv_one g d0 (by omega)]
        · rw [lv_one g b1 h, ← lv_suc g b1 h d0]
def spTCmp (C CE : Addr) : Sp := fun vs H Q E => ∃ (x : Addr) (n : Nat) (a b : Int), vs = [.ref x, .int a, .int b] ∧ TabA H C x n ∧ n ≤ 9 ∧ (∀ a' b' : Nat, a = (a' : Int) → b = (b' : Int) → 1 ≤ a' → a' ≤ 2 ^ n → 1 ≤ b' → b' ≤ 2 ^ n → Q (.int ((cmp (2 ^ n) (tbs n) a' b' : Nat) : Int)) H) ∧
  (¬ ((1 ≤ a ∧ a ≤ ((2 ^ n : Nat) : Int)) ∧ 1 ≤ b ∧ b ≤ ((2 ^ n : Nat) : Int)) → E (.ref CE) none H)
theorem TabA.extN {H H' : Hp} {C x : Addr} {n : Nat} (e : LamX.ExtN H H') (h : TabA H C x n) : TabA H' C x n := by
  obtain ⟨dx, ra, as, h1, h2⟩ := h
  exact ⟨dx, ra, as, e _ _ h1 (fun _ => by intro y; cases y), e _ _ h2.l (fun _ => by intro y; cases y), h2.n, fun i a k1 k2 => e _ _ (h2.r i a k1 k2) (fun _ => by intro y; cases y)⟩
theorem RowsB.extN {H H' : Hp} {ra : Addr} {as : List Addr} {T : List (List Nat)} {k : Nat} (e : LamX.ExtN H H') (h : RowsB H ra as T k) : RowsB H' ra as T k :=
  ⟨e _ _ h.l (fun _ => by intro y; cases y), h.n, fun i a k1 k2 => e _ _ (h.r i a k1 k2) (fun _ => by intro y; cases y)⟩
/-- what stays while the law runs -/
structure Fr43 (Cp Pt : Addr) (q : Str) (r c x : Addr) (n : Nat) (rb : Addr) (bs : List Addr) (H : Hp) : Prop where
  R : RngC H r c
  t : LamX.Tabs [(Pt, q)] H
  A : TabA H Cp x n
  B : RowsB H rb bs (tbs n) 0
theorem Fr43.same {Cp Pt r c x rb : Addr} {q : Str} {n : Nat} {bs : List Addr} {H H' : Hp} (h : Fr43 Cp Pt q r c x n rb bs H) (s : Same H H') : Fr43 Cp Pt q r c x n rb bs H' := ⟨h.R.same s, tabs_same s h.t, h.A.same s, h.B.same s⟩
theorem Fr43.but {Cp Pt r c x rb : Addr} {q : Str} {n : Nat} {bs : List Addr} {H H' : Hp} (h : Fr43 Cp Pt q r c x n rb bs H) (R : RngC H' r c) (b : But r H H') : Fr43 Cp Pt q r c x n rb bs H' := ⟨R, h.R.tabs b h.t, h.A.rng h.R b, h.B.rng h.R b⟩
theorem Fr43.extN {Cp Pt r c x rb : Addr} {q : Str} {n : Nat} {bs : List Addr} {H H' : Hp} (h : Fr43 Cp Pt q r c x n rb bs H) (e : LamX.ExtN H H') (t : LamX.Tabs [(Pt, q)] H') : Fr43 Cp Pt q r c x n rb bs H' := ⟨h.R.extN e, t, h.A.extN e, h.B.extN e⟩
/-! ### the law's full rows, and values of terms -/
def fro (T : List (List Nat)) (i j : Nat) : List Nat := (List.range' 1 j).map (opT T i)
theorem fro_len (T : List (List Nat)) (i j : Nat) : (fro T i j).length = j := by unfold fro; rw [List.length_map, List.length_range']
theorem fro_suc (T : List (List Nat)) (i j : Nat) : fro T i (j + 1) = fro T i j ++ [opT T i (j + 1)] := by
  unfold fro
  rw [List.range'_concat, List.map_append, Nat.one_mul, Nat.add_comm 1 j]
  rfl
theorem fro_get {T : List (List Nat)} {i N j : Nat} (h1 : 1 ≤ j) (h2 : j ≤ N) : (nts (fro T i N))[j - 1]? = some (V.int ((opT T i j : Nat) : Int)) := by
  rw [nts_get (by rw [fro_len]; omega)]
  unfold fro
  rw [List.getD_eq_getElem?_getD, List.getElem?_map, List.getElem?_range' (by omega)]
  show some (V.int ((opT T i (1 + 1 * (j - 1)) : Nat) : Int)) = _
  rw [show 1 + 1 * (j - 1) = j by omega]
structure RowsF (H : Hp) (ra : Addr) (as : List Addr) (T : List (List Nat)) (N e : Nat) : Prop where
  l : H ra = some (.lst (as.map V.ref))
  n : as.length = N + 1
  r : ∀ i a, e < i → as[i]? = some a → H a = some (.lst (nts (fro T i N)))
theorem RowsF.same {H H' : Hp} {ra : Addr} {as : List Addr} {T : List (List Nat)} {N e : Nat} (h : RowsF H ra as T N e) (s : Same H H') : RowsF H' ra as T N e := ⟨s _ _ h.l, h.n, fun i a h1 h2 => s _ _ (h.r i a h1 h2)⟩
theorem RowsF.but {H H' : Hp} {p ra : Addr} {as : List Addr} {T : List (List Nat)} {N e : Nat} (h : RowsF H ra as T N e) (s : But p H H') (hp : ∀ i a, e < i → as[i]? = some a → a ≠ p) (hr : ra ≠ p) : RowsF H' ra as T N e :=
  ⟨s _ _ hr h.l, h.n, fun i a h1 h2 => s _ _ (hp i a h1 h2) (h.r i a h1 h2)⟩
theorem RowsF.ne {H : Hp} {ra : Addr} {as : List Addr} {T : List (List Nat)} {N e : Nat} (h : RowsF H ra as T N e) {i : Nat} {a : Addr} (h1 : e < i) (h2 : as[i]? = some a) : a ≠ ra := fun z => by
  have w := h.r i a h1 h2
  rw [z, h.l] at w
  injection w with w
  injection w with w
  exact nts_refs (by rw [h.n]; omega) w.symm
theorem RowsF.rng {H H' : Hp} {ra r c : Addr} {as : List Addr} {T : List (List Nat)} {N e : Nat} (h : RowsF H ra as T N e) (R : RngC H r c) (b : But r H H') : RowsF H' ra as T N e := by
  obtain ⟨ns, i, b0, s, hr, _⟩ := R
  refine h.but b (fun i a k1 k2 z => ?_) (fun z => ?_)
  · have w := h.r i a k1 k2
    rw [z, hr] at w
    injection w with w
    injection w with w
    exact nts_four w
  · have w := h.l
    rw [z, hr] at w
    injection w with w
    injection w with w
    exact refs_four w
theorem RowsF.extN {H H' : Hp} {ra : Addr} {as : List Addr} {T : List (List Nat)} {N k : Nat} (e : LamX.ExtN H H') (h : RowsF H ra as T N k) : RowsF H' ra as T N k :=
  ⟨e _ _ h.l (fun _ => by intro y; cases y), h.n, fun i a k1 k2 => e _ _ (h.r i a k1 k2) (fun _ => by intro y; cases y)⟩
def spFull : Sp := fun vs H Q _ => ∃ n : Nat, vs = [.int (n : Int)] ∧ n ≤ 9 ∧ ∀ (ra : Addr) (as : List Addr) (H' : Hp), Same H H' → H ra = none → RowsF H' ra as (tbs n) (2 ^ n) 0 → Q (.ref ra) H'
def Tree.vl (T : List (List Nat)) : Tree → Nat
  | .L => 1
  | .N l r => opT T (l.vl T) (r.vl T)
theorem vl_rng {N : Nat} {T : List (List Nat)} (g : Good N T) : ∀ t : Tree, 1 ≤ t.vl T ∧ t.vl T ≤ N
  | .L => ⟨Nat.le_refl _, g.pos⟩
  | .N l r => lv_rng g (vl_rng g l).1 (vl_rng g l).2 (vl_rng g r).1 (vl_rng g r).2
def spLV (K : PySem.W.Frag) (k : Nat) : Sp := fun vs H Q _ => ∃ (ra : Addr) (as : List Addr) (n : Nat) (v : V) (t : Tree), vs = [.ref ra, v] ∧ RowsF H ra as (tbs n) (2 ^ n) 0 ∧ n ≤ 9 ∧ TA K H v t ∧ t.dp < k ∧ k ≤ 40 ∧ ∀ H', Same H H' → Q (.int ((t.vl (tbs n) : Nat) : Int)) H'
def spTVal (K : PySem.W.Frag) (C : Addr) (k : Nat) : Sp := fun vs H Q _ => ∃ (x : Addr) (n : Nat) (v : V) (t : Tree), vs = [.ref x, v] ∧ TabA H C x n ∧ n ≤ 9 ∧ TA K H v t ∧ t.dp < k ∧ k ≤ 40 ∧ ∀ H', Same H H' → Q (.int ((t.vl (tbs n) : Nat) : Int)) H'
def spTEv (K : PySem.W.Frag) (C CI : Addr) : Sp := fun vs H Q E => ∃ (x : Addr) (n : Nat) (v : V) (d : PyData), vs = [.ref x, v] ∧ TabA H C x n ∧ n ≤ 9 ∧ NT K H v d ∧ ndD d ≤ 1000 ∧ (∀ t : Tree, d = t.d → t.sz ≤ 12 → t.dp ≤ 6 → ∀ H', Same H H' → Q (.int ((t.vl (tbs n) : Nat) : Int)) H') ∧ (okd d = false → ∀ H', Same H H' → E (.ref CI) none H')
structure Fr45 (Cp Pt : Addr) (q : Str) (r c x : Addr) (n : Nat) (rb : Addr) (bs : List Addr) (H : Hp) : Prop where
  R : RngC H r c
  t : LamX.Tabs [(Pt, q)] H
  A : TabA H Cp x n
  B : RowsF H rb bs (tbs n) (2 ^ n) 0
theorem Fr45.same {Cp Pt r c x rb : Addr} {q : Str} {n : Nat} {bs : List Addr} {H H' : Hp} (h : Fr45 Cp Pt q r c x n rb bs H) (s : Same H H') : Fr45 Cp Pt q r c x n rb bs H' := ⟨h.R.same s, tabs_same s h.t, h.A.same s, h.B.same s⟩
theorem Fr45.but {Cp Pt r c x rb : Addr} {q : Str} {n : Nat} {bs : List Addr} {H H' : Hp} (h : Fr45 Cp Pt q r c x n rb bs H) (R : RngC H' r c) (b : But r H H') : Fr45 Cp Pt q r c x n rb bs H' := ⟨R, h.R.tabs b h.t, h.A.rng h.R b, h.B.rng h.R b⟩
theorem Fr45.extN {Cp Pt r c x rb : Addr} {q : Str} {n : Nat} {bs : List Addr} {H H' : Hp} (h : Fr45 Cp Pt q r c x n rb bs H) (e : LamX.ExtN H H') (t : LamX.Tabs [(Pt, q)] H') : Fr45 Cp Pt q r c x n rb bs H' := ⟨h.R.extN e, t, h.A.extN e, h.B.extN e⟩
theorem iD_shaped (k : Int) : SeqAt.shaped (.int k) = true := rfl
section OPL
open PySem.Spec PyProof.Rows
/-! ### a lambda whose only parameter has a written int for default, and is not read -/
structure LamSD (N : List Str) (sc scope : Scope) : Prop where
  kind : scope.kind = .function
  co : scope.isCoroutine = false
  gen : scope.isGenerator = false
  own : ∀ y ∈ scope.names, y.2 ≠ .cell ∧ (y.2 = .local → y.1 ∉ N)
  free : ∀ y ∈ scope.names, y.2 = .free → sc.names.lookup y.1 = some .cell ∨ sc.names.lookup y.1 = some .free
def lamSDB (N : List Str) (sc scope : Scope) : Bool :=
  decide (scope.kind = .function) && !scope.isCoroutine && !scope.isGenerator && scope.names.all fun y => !decide (y.2 = .cell) && (!decide (y.2 = .local) || !decide (y.1 ∈ N)) && (!decide (y.2 = .free) || decide (sc.names.lookup y.1 = some .cell) || decide (sc.names.lookup y.1 = some .free))
theorem lamSD_by {N : List Str} {sc scope : Scope} (h : lamSDB N sc scope = true) : LamSD N sc scope := by
  unfold lamSDB at h
  simp only [Bool.and_eq_true, Bool.or_eq_true, Bool.not_eq_true', decide_eq_true_eq, decide_eq_false_iff_not, List.all_eq_true] at h
  obtain ⟨⟨⟨h1, h2⟩, h3⟩, h4⟩ := h
  refine ⟨h1, h2, h3, fun y hy => ⟨(h4 y hy).1.1, fun e => ?_⟩, fun y hy e => ?_⟩
  · rcases (h4 y hy).1.2 with z | z
    · exact absurd e z
    · exact z
  · rcases (h4 y hy).2 with (z | z) | z
    · exact absurd e z
    · exact .inl z
    · exact .inr z
theorem LamSD.has {X : Cx} {N : List Str} {scope : Scope} (L : LamSD N X.env.scope scope) (ok : X.Ok) : ∀ y ∈ scope.names, y.2 = .free → ∃ c, X.env.cells.lookup y.1 = some c := fun y hy e => by
  rcases L.free y hy e with k | k
  · exact ok.has _ (.inl k)
  · exact ok.has _ (.inr k)
section
variable {X : Cx} {pins : List (Addr × Obj)} {σ : L2.St} {H HZ : Hp} {s s1 : Shared}
theorem lam_startD {A : Around} {outer : List Env} {E : XK} {scope : Scope} {f c' : Addr} {h₁ : Heap} {tk : Nat} {mb : Str → Option Value} (I : Inv X pins σ H s) (L : LamSD X.N X.env.scope scope) (e0 : Env0 X.prog X.w X.K X.mg X.base A outer s1 HZ) (hd : A.handled = none)
    (un : Un (frs X.stack) [] H HZ s.heap s1.heap) (hns : h₁.Ns s1.heap.objs.size mb) (kp : ∀ b o, s1.heap.get? b = some o → h₁.get? b = some o) :
    Inv (LamX.lamCx X A outer s1 HZ E scope f c') [] σ HZ { s1 with heap := h₁, toks := tk } := by
  have hfree := L.has I.ok
  have cm : ∀ {y c}, (cloFrom X.env.cells scope.names []).lookup y = some c → X.env.cells.lookup y = some c := fun {y c} e => by
    rcases cloFrom_mem (PySem.mem_of_lookup e) with hm | ⟨h1, h2⟩
    · cases hm
    · obtain ⟨c1, hc⟩ := hfree _ h1 rfl
      have hc : X.env.cells.lookup y = some c1 := hc
      have e2 : c = c1 := by
        rw [h2, hc] <;> rfl
      rw [e2]
      exact hc
  have look : ∀ {y}, scope.names.lookup y = some .free → ∃ c, (cloFrom X.env.cells scope.names []).lookup y = some c := fun {y} hl => by
    have hy : (y, NameKind.free) ∈ scope.names := PySem.mem_of_lookup hl
    exact mem_lookup (cloFrom_has (cells := X.env.cells) (acc := []) hy)
  have cellK : ∀ {c : Addr} {v : Option Value}, H c = none → s.heap.IsCell c v → h₁.IsCell c v := fun {c v} n ⟨o, ho, hd⟩ => by
    obtain ⟨sl, q⟩ := un.any ho n (by simp)
    exact ⟨_, kp _ _ q, hd⟩
  have noA : ∀ b : Addr, b ∉ (LamX.lamCx X A outer s1 HZ E scope f c').ex := fun b z => absurd (show b ∈ ([] : List Addr) from z) (by simp)
  refine ⟨⟨e0.mod, L.kind, rfl, rfl, Nat.le_refl _, fun y z c e1 e2 => I.ok.inj y z c (cm e1) (cm e2), fun y hy => ?_, fun y c z _ => ?_, fun _ => hd, Around.frames_deeper e0.frames, .inr ⟨rfl, rfl⟩, fun b z => absurd z (noA b), e0.bs, e0.bsz, fun b _ _ => noA b,
      fun b z => absurd z (noA b), e0.funs, e0.frf⟩,
    rfl, e0.bare, Un.kept kp, ⟨_, hns, fun i y v e1 e2 e3 => ?_⟩, fun y c e => ?_, e0.hok.fresh (Nat.le_refl _), fun y c e => ?_, fun q hq => absurd (show q ∈ ([] : List (Addr × Obj)) ++ [] from hq) (by simp), e0.hok.kept kp, I.len⟩
  · have hy : scope.names.lookup y = some .cell ∨ scope.names.lookup y = some .free := hy
    rcases hy with hy | hy
    · exact absurd rfl (L.own _ (PySem.mem_of_lookup hy)).1
    · exact look hy
  · have z : false = true := z
    cases z
  · have e3 : Vis scope y := e3
    have e1' : X.N[i]? = some y := e1
    rcases e3 with k | k | k
    · exact absurd (List.mem_of_getElem? e1') ((L.own _ (PySem.mem_of_lookup k)).2 rfl)
    · exact absurd rfl (L.own _ (PySem.mem_of_lookup k)).1
    · obtain ⟨m, hn, hl⟩ := I.loc
      have hvis : Vis X.env.scope y := (L.free _ (PySem.mem_of_lookup k) rfl).elim (fun k => .inr (.inl k)) (fun k => .inr (.inr k))
      obtain ⟨w', r, q⟩ := hl i y v e1 e2 hvis
      obtain ⟨c2, h2⟩ := look k
      refine ⟨w', r, .inr ⟨.inr k, c2, h2, ?_⟩⟩
      have c1 := cm h2
      rcases q with ⟨k', _⟩ | ⟨_, c3, e', z⟩
      · have k' : X.env.scope.names.lookup y = some .local := k'
        rcases L.free _ (PySem.mem_of_lookup k) rfl with k2 | k2 <;> rw [show X.env.scope.names.lookup y = _ from k2] at k' <;> cases k'
      · rw [c1] at e'
        cases e'
        exact cellK (I.freeC y _ c1) z
  · obtain ⟨w', z⟩ := I.cell y c (cm e)
    exact ⟨w', cellK (I.freeC y c (cm e)) z⟩
  · obtain ⟨v, o, ho, hd⟩ := I.cell y c (cm e)
    exact un.free c o ho (I.freeC y c (cm e)) (by simp)
theorem lam_makeD {T : List (Addr × Str)} {c P : Addr} {params : Arguments} {body : Expr} {scope : Scope} {pos pz : Pos} {z : Int} {jz : Nat} {Q : Value → Shared → Prop} (I : Inv X pins σ H s) (TB : LamX.TabB X.base X.mg c P) (hcode : X.env.code = .ref c)
    (hm : (P, X.env.qual ++ "<lambda>") ∈ T) (hu : ∀ p ∈ T, p.1 = P → p.2 = X.env.qual ++ "<lambda>") (hT : LamX.Tabs T H) (hd1 : params.defaults = [.Constant (.int z) jz pz]) (hk0 : params.kw_defaults = []) (hfree : ∀ y ∈ scope.names, y.2 = .free → ∃ c, X.env.cells.lookup y.1 = some c)
    (h : ∀ (f c' T0 : Addr) (u doc pm ctv : Value) (H1 : Hp) (s' : Shared), Inv X pins σ H1 s' → LamX.ExtN H H1 → LamX.Tabs T H1 →
      s'.heap.get? f = some (PySem.W.kdv_obj "<lambda>" (X.env.qual ++ "<lambda>") params (.expr body) scope (cloFrom X.env.cells scope.names []) (.ref T0) doc pm c' ctv) → H1 f = none → f ∉ frs X.stack → s'.heap.get? T0 = some (PySem.W.kdv_tup [u]) → H1 T0 = none → T0 ∉ frs X.stack → H1 c' = some (LamX.CodeO c' (X.env.qual ++ "<lambda>")) → Q (.ref f) s') :
    wpAny (model X.prog X.w) X.A (eval (.Lambda params body scope pos) X.env) Q X.xe s := by
  refine PySem.W.kdv_lam (by rw [hd1]; rfl) hk0 ?_
  rw [hd1]
  refine PySem.W.kdv_all1 (thn (pe_int.run pins s σ H (fun v H' => v = .int z ∧ H' = H) I ⟨rfl, rfl⟩) fun u s0 ⟨v, H0, I0, r0, ev, eH⟩ => PySem.W.kdv_all0 ?_)
  subst ev eH
  rw [makeFunction_eq]
  simp only [List.zip_nil_right, List.filterMap_nil, List.isEmpty_nil, if_true, pure_bind, List.isEmpty_cons, Bool.false_eq_true, if_false]
  refine wpAny_bind (wpAny_newTextTuple ?_)
  obtain ⟨ps, hP, ht, ha⟩ := hT _ hm
  have I2 : Inv X pins σ H0 { s0 with heap := s0.heap.push (PySem.W.kdv_tup [u]) } := I0.kept (t' := s0.toks) fun b o e => Heap.get?_push_of_some _ e
  have hT0 : (s0.heap.push (PySem.W.kdv_tup [u])).get? s0.heap.objs.size = some (PySem.W.kdv_tup [u]) := Heap.get?_push_size _ rfl
  have hT0n : H0 s0.heap.objs.size = none := I0.hok.fresh (Nat.le_refl _)
  have bP : (s0.heap.push (PySem.W.kdv_tup [u])).BuiltinsAt X.mg P := TB.bm.keeps I2.bk
  have hP' : (s0.heap.push (PySem.W.kdv_tup [u])).get? P = some { cls := .none, data := .fields ps } := I2.hok P _ hP
  have nofr : ∀ f, s0.heap.objs.size ≤ f → f ∉ frs X.stack := fun f hf z => by
    rcases List.mem_cons.mp (I0.stkSub _ z) with e | e
    · have h1 := I0.lt
      rw [← e] at h1
      exact Nat.lt_irrefl _ (Nat.lt_of_lt_of_le h1 hf)
    · exact I0.nofs hf e
  have sz2 : s0.heap.objs.size ≤ (s0.heap.push (PySem.W.kdv_tup [u])).objs.size := by rw [Heap.size_push]; omega
  have ltT : s0.heap.objs.size < (s0.heap.push (PySem.W.kdv_tup [u])).objs.size := by rw [Heap.size_push]; omega
  have nTP : s0.heap.objs.size ≠ P := fun z => by
    rw [← z, hT0n] at hP
    cases hP
  cases hc : codeAmong pos ps.toList with
  | none =>
    refine PySem.W.kdv_makeTail (s := { s0 with heap := s0.heap.push (PySem.W.kdv_tup [u]) }) (mg := X.mg) (c := c) (P := P) (ps := ps) (closure_ok hfree) I2.ok.glob (I2.mod.glob.keeps I2.bk) hcode (TB.code.keeps I2.bk) hP' ht hc TB.gP bP fun c' ctv doc h' tk hx hge hlt hrec htb => ?_
    obtain ⟨c2, oc, vs, t, e2, hoc, hd, hv⟩ := hrec
    cases e2
    have hsz : (s0.heap.push (PySem.W.kdv_tup [u])).objs.size ≤ h'.objs.size := Nat.le_trans hge (Nat.le_of_lt hlt)
    have nC : H0 c' = none := I2.hok.fresh hge
    have I1 := LamX.inv_table (t' := tk) (more := #[rawInt pos.line, rawInt pos.col, .ref c']) (h' := h'.push (PySem.W.kdv_obj "<lambda>" (X.env.qual ++ "<lambda>") params (.expr body) scope (cloFrom X.env.cells scope.names []) (.ref s0.heap.objs.size) doc ((X.mg "__name__").getD .none) c' ctv)) I2 hP
      (fun b o hb e => Heap.get?_push_of_some _ (hx b o hb e)) (Heap.get?_push_of_some _ htb) hge ⟨oc, vs, t, Heap.get?_push_of_some _ hoc, hd, hv⟩
    have hE : LamX.ExtN H0 (upd (upd H0 P (.tbl (ps ++ #[rawInt pos.line, rawInt pos.col, .ref c']))) c' (LamX.CodeO c' (X.env.qual ++ "<lambda>"))) := fun b o e n => by
      rw [upd_ne (ne_of_none e nC), upd_ne (fun z => n ps (Option.some.inj (e.symm.trans (by rw [z]; exact hP))))]
      exact e
    have eL : (ps ++ #[rawInt pos.line, rawInt pos.col, .ref c']).toList = ps.toList ++ [rawInt pos.line, rawInt pos.col, .ref c'] := by simp
    have nTc : s0.heap.objs.size ≠ c' := Nat.ne_of_lt (Nat.lt_of_lt_of_le ltT hge)
    refine h h'.objs.size c' s0.heap.objs.size u doc ((X.mg "__name__").getD .none) ctv _ _ I1 hE (fun p hp => ?_) (Heap.get?_push_size _ rfl) ?_ (nofr _ (Nat.le_trans sz2 hsz)) (Heap.get?_push_of_some _ (hx _ _ nTP hT0)) ?_ (nofr _ (Nat.le_refl _)) upd_same
    · by_cases hb : p.1 = P
      · rw [hu p hp hb, hb]
        refine ⟨_, by rw [upd_ne (ne_of_none hP nC), upd_same], by rw [eL]; exact PySem.TriplesOk_snoc _ _ _ _ ht, fun p' cv hcv => ?_⟩
        rw [eL] at hcv
        rcases LamX.among_app _ ht hcv with z | z
        · obtain ⟨c0, e1, e2⟩ := ha p' cv z
          exact ⟨c0, e1, hE _ _ e2 LamX.codeO_ne⟩
        · exact ⟨c', z, upd_same⟩
      · obtain ⟨ps', a1, a2, a3⟩ := hT p hp
        refine ⟨ps', by rw [upd_ne (ne_of_none a1 nC), upd_ne hb]; exact a1, a2, fun p' cv hcv => ?_⟩
        obtain ⟨c0, e1, e2⟩ := a3 p' cv hcv
        exact ⟨c0, e1, hE _ _ e2 LamX.codeO_ne⟩
    · have n1 : h'.objs.size ≠ c' := Nat.ne_of_gt hlt
      have n2 : h'.objs.size ≠ P := Nat.ne_of_gt (Nat.lt_of_lt_of_le (Heap.lt_size hP') hsz)
      rw [upd_ne n1, upd_ne n2]
      exact I2.hok.fresh hsz
    · rw [upd_ne nTc, upd_ne nTP]
      exact hT0n
  | some cv =>
    obtain ⟨c', e, hco⟩ := ha pos cv hc
    subst e
    refine PySem.W.kdv_makeTailHit (s := { s0 with heap := s0.heap.push (PySem.W.kdv_tup [u]) }) (mg := X.mg) (c := c) (P := P) (ps := ps) (closure_ok hfree) I2.ok.glob (I2.mod.glob.keeps I2.bk) hcode (TB.code.keeps I2.bk) hP' ht hc bP fun ctv doc h' tk hx hsz => ?_
    have I1 : Inv X pins σ H0 { s0 with heap := h'.push (PySem.W.kdv_obj "<lambda>" (X.env.qual ++ "<lambda>") params (.expr body) scope (cloFrom X.env.cells scope.names []) (.ref s0.heap.objs.size) doc ((X.mg "__name__").getD .none) c' ctv), toks := tk } := I2.kept fun b o e => Heap.get?_push_of_some _ (hx b o e)
    exact h h'.objs.size c' s0.heap.objs.size u doc ((X.mg "__name__").getD .none) ctv H0 _ I1 (LamX.ExtN.refl H0) hT (Heap.get?_push_size _ rfl) (I2.hok.fresh hsz) (nofr _ (Nat.le_trans sz2 hsz)) (Heap.get?_push_of_some _ (hx _ _ hT0)) hT0n (nofr _ (Nat.le_refl _)) hco
theorem pe_actD {CXg : CXT} {Eg : XK} {Ng : List Str} {qg : Str} {sg : Scope} {g f c T0 : Addr} {u doc cdg pm ctv : Value} {params : Arguments} {body : Expr} {scope : Scope} {k i : Nat} {a a0 : Str} {pn : List (Addr × Obj)} {xe : Value → Shared → Prop} {W : WX} {E : L2.St → XK} {tb : XK → TE} {p1 p2 : Pos}
    (I : Inv X pins σ H s) (L : LamSD X.N X.env.scope scope) (hf : s.heap.get? f = some (PySem.W.kdv_obj "<lambda>" (X.env.qual ++ "<lambda>") params (.expr body) scope (cloFrom X.env.cells scope.names []) (.ref T0) doc pm c ctv)) (hfn : H f = none) (hfr : f ∉ frs X.stack)
    (hT0 : s.heap.get? T0 = some (PySem.W.kdv_tup [u])) (hTn : H T0 = none) (hTr : T0 ∉ frs X.stack) (hl0 : scope.names.lookup a0 = some .local)
    (hbind : ∀ (q : Str) (cl : List (Str × Addr)) (dV doc pm cv ctv : Value), ∃ k, bindArgs (PySem.W.kdv_fn "<lambda>" q params (.expr body) scope cl dV doc pm cv ctv) ⟨[], []⟩ = seqItems? dV >>= k ∧ ∀ u, k (some #[u]) = pure [(a0, u)])
    (tk : L2N.Takes ((cxOf CXg X.prog X.w X.K X.mg X.base Ng qg sg g cdg X.A X.stack s H Eg).tr pn xe) W) (hW : ∀ cls d σ2 H2, E σ2 cls d H2 → W cls d σ2 H2) (hr : Room (k + 1) (X.A.deeper (envOfC qg sg s.heap.objs.size g cdg)))
    (hbody : ∀ (A : Around) (outer : List Env) (s : Shared) (H : Hp) (E : XK), Room k (A.deeper (LamX.lamEnv X scope s.heap.objs.size f c)) → PE (lamCxN X A outer s H E scope f c) body (tb E))
    (hN : Ng[i]? = some a) (hv : Vis sg a) (hd : (a == ("__debug__" : Str)) = false := by decide) (hcd : (a == ("__classdict__" : Str)) = false := by decide) :
    PE ((cxOf CXg X.prog X.w X.K X.mg X.base Ng qg sg g cdg X.A X.stack s H Eg).tr pn xe) (.Call (.Name a p1) [] [] p2) (fun σZ HZ Q => σZ[i]? = some (some (.ref f)) ∧ HZ c = some (LamX.CodeO c (X.env.qual ++ "<lambda>")) ∧ tb (E σZ) σ HZ Q) := by
  refine ⟨fun pz sz σz Hz Q Iz ⟨hs, hc, y⟩ => ?_⟩
  refine wpAny_Call_Name_kw (thn ((pe_var (pos := p1) (i := i) hN hv hd hcd).run pz sz σz Hz (fun v H1 => v = .ref f ∧ H1 = Hz) Iz ⟨.ref f, hs, rfl, rfl⟩) fun u' s1 ⟨v, H1, I1, r1, ev, eH⟩ => ?_)
  subst ev eH
  cases (show u' = Value.ref f from r1)
  have of1 := I1.base.keep f _ hf hfn hfr (fun z => nomatch (show f ∈ ([] : List Addr) from z))
  have oT1 := I1.base.keep T0 _ hT0 hTn hTr (fun z => nomatch (show T0 ∈ ([] : List Addr) from z))
  refine PySem.W.callWith_F0 ⟨_, _, _, _, of1⟩ ?_
  obtain ⟨⟨oc, vs, t, hoc, hdc, hvc⟩, _, _⟩ := I1.hok c _ hc
  have run : codeAny (model X.prog X.w) (X.A.deeper (envOfC qg sg s.heap.objs.size g cdg)) (.call (.ref f) ⟨[], []⟩) (CR (L2N.CX X.prog X.w) (envOfC qg sg s.heap.objs.size g cdg :: X.stack) X.prog X.w H1 s1 Q (E σz)) s1 := by
    obtain ⟨kk, hb1, hb2⟩ := hbind (X.env.qual ++ "<lambda>") (cloFrom X.env.cells scope.names []) (.ref T0) doc pm (.ref c) ctv
    have hB : BindsTo s1 (PySem.W.kdv_fn "<lambda>" (X.env.qual ++ "<lambda>") params (.expr body) scope (cloFrom X.env.cells scope.names []) (.ref T0) doc pm (.ref c) ctv) ⟨[], []⟩ [(a0, u)] := BindsTo.of_defaults rfl oT1 rfl hb1 (hb2 u)
    refine PySem.W.kla_callFunE hr.depth of1 rfl L.co L.gen rfl ⟨c, oc, vs, t, rfl, hoc, hdc, hvc⟩ (hB _ _ _ _ ?_)
    refine wpAny_newFunctionEnv (fun y hy => (L.own y hy).1) (fun y hy => by rw [List.mem_singleton.mp hy]; exact hl0) (fun g1 hns hsb => ⟨I1.nolimit.fresh _ hsb, ?_⟩) L.kind
    have kp : ∀ b o, s1.heap.get? b = some o → g1.get? b = some o := fun b o e => hsb.extBut b o (Nat.ne_of_lt (Heap.lt_size e)) (Heap.get?_push_of_some _ e)
    have J := lam_startD (E := E σz) (f := f) (c' := c) (tk := s1.toks + ([(a0, u)] : List (Str × Value)).length) I L I1.env0 hr.hd I1.base hns kp
    refine PySem.W.kla_codeExpr (wpAny_mono ((hbody _ _ s1 H1 (E σz) (hr.deeper _)).run [] _ _ H1 Q (J.wish _) y) (fun v s3 ⟨w3, H3, J3, rv, q⟩ => ⟨w3, H3, J3.os, J3.bare, J3.base, J3.hok, rv, q⟩) fun e s3 z => z)
  refine wpAny_call (codeAny_mono run fun rs s2 hq => ?_)
  cases rs with
  | error e => exact tk e s2 (L2N.XE.of_call I1 (fun cls d H' h => hW cls d σz H' h) hq)
  | ok fl =>
    cases fl with
    | ret u => exact I1.after hq
    | next => exact False.elim hq
    | brk => exact False.elim hq
    | cont => exact False.elim hq
end
theorem pe_lamD {X : Cx} {T : List (Addr × Str)} {TT : (XK → Hp → VK → Prop) → Hp → VK → Prop} {x a a0 : Str} {g c P : Addr} {k : Nat} {pg : Arguments} {bg : List Stmt} {sg : Scope} {dV kV doc pm cdv ct oc : Value} {an od : Option Addr} {osl : Array (Option Value)} {Ng : List Str}
    {params : Arguments} {body : Expr} {scope : Scope} {t : XK → TE} {p lpos pos pz : Pos} {z : Int} {jz : Nat} (hg : Gl X x) (hm : X.mg x = some (.ref g)) (hk : PySem.W.keepIn X.K (.ref g) = true)
    (lk : X.K.lookup g = some ⟨oc, od, .func (PySem.W.fnOf x x pg bg sg dV kV doc pm an cdv ct), osl⟩) (hcg : PySem.W.codeIn X.K cdv x = true) (hb : Binds X.K (PySem.W.fnOf x x pg bg sg dV kV doc pm an cdv ct) [a] []) (Sg : FnScope Ng [a] sg) (hNg : Ng[0]? = some a) (hva : Vis sg a)
    (hG : GivesN X Ng x sg g cdv bg a (X.env.qual ++ "<lambda>") TT) (TB : LamX.TabB X.base X.mg c P) (hcode : X.env.code = .ref c) (hmT : (P, X.env.qual ++ "<lambda>") ∈ T) (hu : ∀ p ∈ T, p.1 = P → p.2 = X.env.qual ++ "<lambda>") (hr : Room (k + 2) X.A) (k40 : 40 ≤ k + 1) (L : LamSD X.N X.env.scope scope) (hd1 : params.defaults = [.Constant (.int z) jz pz]) (hk0 : params.kw_defaults = []) (hl0 : scope.names.lookup a0 = some .local)
    (hbind : ∀ (q : Str) (cl : List (Str × Addr)) (dV doc pm cv ctv : Value), ∃ k, bindArgs (PySem.W.kdv_fn "<lambda>" q params (.expr body) scope cl dV doc pm cv ctv) ⟨[], []⟩ = seqItems? dV >>= k ∧ ∀ u, k (some #[u]) = pure [(a0, u)])
    (hbody : ∀ (A : Around) (outer : List Env) (s : Shared) (H : Hp) (E : XK) (f c2 : Addr), Room k (A.deeper (LamX.lamEnv X scope s.heap.objs.size f c2)) → PE (lamCxN X A outer s H E scope f c2) body (t E))
    (hdb : (x == ("__debug__" : Str)) = false := by decide) (hd : (a == ("__debug__" : Str)) = false := by decide) (hcd : (a == ("__classdict__" : Str)) = false := by decide) :
    PE X (.Call (.Name x p) [.Lambda params body scope lpos] [] pos) (LamX.tLam T TT t) := by
  refine ⟨fun pins s σ H Q I ⟨hT, y⟩ => ?_⟩
  refine wpAny_Call_Name_kw (ld_glob I hg hm (PySem.W.callWith_K (h₀ := X.base) I.ok.mod.kin hk ?_ (by rfl) (by rfl)) hdb)
  show wpAny _ _ (spliced ((false, eval (.Lambda params body scope lpos) X.env) :: backTo pos (starEach [] X.env))) _ _ s
  refine Calls.spliced_cons (lam_makeD I TB hcode hmT hu hT hd1 hk0 (L.has I.ok) fun f c2 T0 u doc2 pm2 ctv H1 s1 I1 eN T1 hf hfn hfr hT0 hTn hTr hco => Calls.spliced_nil ⟨I1.kIn, ?_⟩)
  have run : codeAny (model X.prog X.w) X.A (.call (.ref g) ⟨[.ref f], []⟩) (CR CX0 X.stack X.prog X.w H1 s1 Q E0) s1 := by
    refine LamX.run_ofS (N := Ng) (ps := [a]) (us := [.ref f]) (vs := [.ref f]) lk hcg Sg hr I1.env0 (hb s1 [.ref f] I1.kIn rfl) (.cons rfl .nil) rfl fun hr2 => ?_
    obtain ⟨t2, ht2, hq2⟩ := hG _ f c2 s1 H1 Q (fun E H' Q' => t E σ H' Q') hr2 k40 (fun W pn xe E p1 p2 tk hW => pe_actD (i := 0) I1 L hf hfn hfr hT0 hTn hTr hl0 hbind tk hW hr2 (fun A outer s H E hr3 => hbody A outer s H E f c2 hr3) hNg hva hd hcd) hco (y H1 eN T1)
    exact ⟨t2, ht2.nox, hq2⟩
  refine wpAny_call (codeAny_mono run fun rs s2 hq => ?_)
  cases rs with
  | error e => exact (show False from hq).elim
  | ok fl =>
    cases fl with
    | ret u => exact I1.after hq
    | next => exact False.elim hq
    | brk => exact False.elim hq
    | cont => exact False.elim hq
end OPL
section OPL
open PySem.Spec PyProof.Rows
/-! ### the same, where the parameter's name is a slot of the law's own: the lambda does not see that slot -/
structure LamSE (N : List Str) (sc scope : Scope) (i0 : Nat) (a0 : Str) : Prop where
  kind : scope.kind = .function
  co : scope.isCoroutine = false
  gen : scope.isGenerator = false
  nd : N.Nodup
  at_ : N[i0]? = some a0
  own : ∀ y ∈ scope.names, y.2 ≠ .cell ∧ (y.2 = .local → y.1 = a0)
  free : ∀ y ∈ scope.names, y.2 = .free → sc.names.lookup y.1 = some .cell ∨ sc.names.lookup y.1 = some .free
def lamSEB (N : List Str) (sc scope : Scope) (i0 : Nat) (a0 : Str) : Bool :=
  decide (scope.kind = .function) && !scope.isCoroutine && !scope.isGenerator && decide (N[i0]? = some a0) && scope.names.all fun y => !decide (y.2 = .cell) && (!decide (y.2 = .local) || decide (y.1 = a0)) && (!decide (y.2 = .free) || decide (sc.names.lookup y.1 = some .cell) || decide (sc.names.lookup y.1 = some .free))
theorem lamSE_by {N : List Str} {sc scope : Scope} {i0 : Nat} {a0 : Str} (nd : N.Nodup) (h : lamSEB N sc scope i0 a0 = true) : LamSE N sc scope i0 a0 := by
  unfold lamSEB at h
  simp only [Bool.and_eq_true, Bool.or_eq_true, Bool.not_eq_true', decide_eq_true_eq, decide_eq_false_iff_not, List.all_eq_true] at h
  obtain ⟨⟨⟨⟨h1, h2⟩, h3⟩, h5⟩, h4⟩ := h
  refine ⟨h1, h2, h3, nd, h5, fun y hy => ⟨(h4 y hy).1.1, fun e => ?_⟩, fun y hy e => ?_⟩
  · rcases (h4 y hy).1.2 with z | z
    · exact absurd e z
    · exact z
  · rcases (h4 y hy).2 with (z | z) | z
    · exact absurd e z
    · exact .inl z
    · exact .inr z
theorem LamSE.has {X : Cx} {N : List Str} {scope : Scope} {i0 : Nat} {a0 : Str} (L : LamSE N X.env.scope scope i0 a0) (ok : X.Ok) : ∀ y ∈ scope.names, y.2 = .free → ∃ c, X.env.cells.lookup y.1 = some c := fun y hy e => by
  rcases L.free y hy e with k | k
  · exact ok.has _ (.inl k)
  · exact ok.has _ (.inr k)
theorem nd_at {N : List Str} (nd : N.Nodup) {i j : Nat} {y : Str} (h1 : N[i]? = some y) (h2 : N[j]? = some y) : i = j := by
  obtain ⟨a1, b1⟩ := List.getElem?_eq_some_iff.mp h1
  obtain ⟨a2, b2⟩ := List.getElem?_eq_some_iff.mp h2
  rcases Nat.lt_trichotomy i j with h | h | h
  · exact absurd (b1.trans b2.symm) (List.pairwise_iff_getElem.mp nd i j a1 a2 h)
  · exact h
  · exact absurd (b2.trans b1.symm) (List.pairwise_iff_getElem.mp nd j i a2 a1 h)
section
variable {X : Cx} {pins : List (Addr × Obj)} {σ : L2.St} {H HZ : Hp} {s s1 : Shared}
theorem lam_startE {A : Around} {outer : List Env} {E : XK} {scope : Scope} {f c' : Addr} {h₁ : Heap} {tk : Nat} {mb : Str → Option Value} {i0 : Nat} {a0 : Str} (I : Inv X pins σ H s) (L : LamSE X.N X.env.scope scope i0 a0) (e0 : Env0 X.prog X.w X.K X.mg X.base A outer s1 HZ) (hd : A.handled = none)
    (un : Un (frs X.stack) [] H HZ s.heap s1.heap) (hns : h₁.Ns s1.heap.objs.size mb) (kp : ∀ b o, s1.heap.get? b = some o → h₁.get? b = some o) :
    Inv (LamX.lamCx X A outer s1 HZ E scope f c') [] (σ.set i0 none) HZ { s1 with heap := h₁, toks := tk } := by
  have hfree := L.has I.ok
  have cm : ∀ {y c}, (cloFrom X.env.cells scope.names []).lookup y = some c → X.env.cells.lookup y = some c := fun {y c} e => by
    rcases cloFrom_mem (PySem.mem_of_lookup e) with hm | ⟨h1, h2⟩
    · cases hm
    · obtain ⟨c1, hc⟩ := hfree _ h1 rfl
      have hc : X.env.cells.lookup y = some c1 := hc
      have e2 : c = c1 := by
        rw [h2, hc] <;> rfl
      rw [e2]
      exact hc
  have look : ∀ {y}, scope.names.lookup y = some .free → ∃ c, (cloFrom X.env.cells scope.names []).lookup y = some c := fun {y} hl => by
    have hy : (y, NameKind.free) ∈ scope.names := PySem.mem_of_lookup hl
    exact mem_lookup (cloFrom_has (cells := X.env.cells) (acc := []) hy)
  have cellK : ∀ {c : Addr} {v : Option Value}, H c = none → s.heap.IsCell c v → h₁.IsCell c v := fun {c v} n ⟨o, ho, hd⟩ => by
    obtain ⟨sl, q⟩ := un.any ho n (by simp)
    exact ⟨_, kp _ _ q, hd⟩
  have noA : ∀ b : Addr, b ∉ (LamX.lamCx X A outer s1 HZ E scope f c').ex := fun b z => absurd (show b ∈ ([] : List Addr) from z) (by simp)
  refine ⟨⟨e0.mod, L.kind, rfl, rfl, Nat.le_refl _, fun y z c e1 e2 => I.ok.inj y z c (cm e1) (cm e2), fun y hy => ?_, fun y c z _ => ?_, fun _ => hd, Around.frames_deeper e0.frames, .inr ⟨rfl, rfl⟩, fun b z => absurd z (noA b), e0.bs, e0.bsz, fun b _ _ => noA b,
      fun b z => absurd z (noA b), e0.funs, e0.frf⟩,
    rfl, e0.bare, Un.kept kp, ⟨_, hns, fun i y v e1 e2 e3 => ?_⟩, fun y c e => ?_, e0.hok.fresh (Nat.le_refl _), fun y c e => ?_, fun q hq => absurd (show q ∈ ([] : List (Addr × Obj)) ++ [] from hq) (by simp), e0.hok.kept kp, (by rw [List.length_set]; exact I.len)⟩
  · have hy : scope.names.lookup y = some .cell ∨ scope.names.lookup y = some .free := hy
    rcases hy with hy | hy
    · exact absurd rfl (L.own _ (PySem.mem_of_lookup hy)).1
    · exact look hy
  · have z : false = true := z
    cases z
  · have e3 : Vis scope y := e3
    have e1' : X.N[i]? = some y := e1
    have ni : i ≠ i0 := fun z => by
      subst z
      rw [List.getElem?_set] at e2
      split at e2 <;> (try split at e2) <;> first | cases e2 | (rename_i z _; exact z rfl) | (rename_i z; exact z rfl)
    have e2 : σ[i]? = some (some v) := by
      rw [List.getElem?_set_ne (Ne.symm ni)] at e2
      exact e2
    rcases e3 with k | k | k
    · have ea : y = a0 := (L.own _ (PySem.mem_of_lookup k)).2 rfl
      exact absurd (nd_at L.nd (ea ▸ e1') L.at_) ni
    · exact absurd rfl (L.own _ (PySem.mem_of_lookup k)).1
    · obtain ⟨m, hn, hl⟩ := I.loc
      have hvis : Vis X.env.scope y := (L.free _ (PySem.mem_of_lookup k) rfl).elim (fun k => .inr (.inl k)) (fun k => .inr (.inr k))
      obtain ⟨w', r, q⟩ := hl i y v e1 e2 hvis
      obtain ⟨c2, h2⟩ := look k
      refine ⟨w', r, .inr ⟨.inr k, c2, h2, ?_⟩⟩
      have c1 := cm h2
      rcases q with ⟨k', _⟩ | ⟨_, c3, e', z⟩
      · have k' : X.env.scope.names.lookup y = some .local := k'
        rcases L.free _ (PySem.mem_of_lookup k) rfl with k2 | k2 <;> rw [show X.env.scope.names.lookup y = _ from k2] at k' <;> cases k'
      · rw [c1] at e'
        cases e'
        exact cellK (I.freeC y _ c1) z
  · obtain ⟨w', z⟩ := I.cell y c (cm e)
    exact ⟨w', cellK (I.freeC y c (cm e)) z⟩
  · obtain ⟨v, o, ho, hd⟩ := I.cell y c (cm e)
    exact un.free c o ho (I.freeC y c (cm e)) (by simp)
theorem pe_actE {CXg : CXT} {Eg : XK} {Ng : List Str} {qg : Str} {sg : Scope} {g f c T0 : Addr} {u doc cdg pm ctv : Value} {params : Arguments} {body : Expr} {scope : Scope} {k i i0 : Nat} {a a0 : Str} {pn : List (Addr × Obj)} {xe : Value → Shared → Prop} {W : WX} {E : L2.St → XK} {tb : XK → TE} {p1 p2 : Pos}
    (I : Inv X pins σ H s) (L : LamSE X.N X.env.scope scope i0 a0) (hf : s.heap.get? f = some (PySem.W.kdv_obj "<lambda>" (X.env.qual ++ "<lambda>") params (.expr body) scope (cloFrom X.env.cells scope.names []) (.ref T0) doc pm c ctv)) (hfn : H f = none) (hfr : f ∉ frs X.stack)
    (hT0 : s.heap.get? T0 = some (PySem.W.kdv_tup [u])) (hTn : H T0 = none) (hTr : T0 ∉ frs X.stack) (hl0 : scope.names.lookup a0 = some .local)
    (hbind : ∀ (q : Str) (cl : List (Str × Addr)) (dV doc pm cv ctv : Value), ∃ k, bindArgs (PySem.W.kdv_fn "<lambda>" q params (.expr body) scope cl dV doc pm cv ctv) ⟨[], []⟩ = seqItems? dV >>= k ∧ ∀ u, k (some #[u]) = pure [(a0, u)])
    (tk : L2N.Takes ((cxOf CXg X.prog X.w X.K X.mg X.base Ng qg sg g cdg X.A X.stack s H Eg).tr pn xe) W) (hW : ∀ cls d σ2 H2, E σ2 cls d H2 → W cls d σ2 H2) (hr : Room (k + 1) (X.A.deeper (envOfC qg sg s.heap.objs.size g cdg)))
    (hbody : ∀ (A : Around) (outer : List Env) (s : Shared) (H : Hp) (E : XK), Room k (A.deeper (LamX.lamEnv X scope s.heap.objs.size f c)) → PE (lamCxN X A outer s H E scope f c) body (tb E))
    (hN : Ng[i]? = some a) (hv : Vis sg a) (hd : (a == ("__debug__" : Str)) = false := by decide) (hcd : (a == ("__classdict__" : Str)) = false := by decide) :
    PE ((cxOf CXg X.prog X.w X.K X.mg X.base Ng qg sg g cdg X.A X.stack s H Eg).tr pn xe) (.Call (.Name a p1) [] [] p2) (fun σZ HZ Q => σZ[i]? = some (some (.ref f)) ∧ HZ c = some (LamX.CodeO c (X.env.qual ++ "<lambda>")) ∧ tb (E σZ) (σ.set i0 none) HZ Q) := by
  refine ⟨fun pz sz σz Hz Q Iz ⟨hs, hc, y⟩ => ?_⟩
  refine wpAny_Call_Name_kw (thn ((pe_var (pos := p1) (i := i) hN hv hd hcd).run pz sz σz Hz (fun v H1 => v = .ref f ∧ H1 = Hz) Iz ⟨.ref f, hs, rfl, rfl⟩) fun u' s1 ⟨v, H1, I1, r1, ev, eH⟩ => ?_)
  subst ev eH
  cases (show u' = Value.ref f from r1)
  have of1 := I1.base.keep f _ hf hfn hfr (fun z => nomatch (show f ∈ ([] : List Addr) from z))
  have oT1 := I1.base.keep T0 _ hT0 hTn hTr (fun z => nomatch (show T0 ∈ ([] : List Addr) from z))
  refine PySem.W.callWith_F0 ⟨_, _, _, _, of1⟩ ?_
  obtain ⟨⟨oc, vs, t, hoc, hdc, hvc⟩, _, _⟩ := I1.hok c _ hc
  have run : codeAny (model X.prog X.w) (X.A.deeper (envOfC qg sg s.heap.objs.size g cdg)) (.call (.ref f) ⟨[], []⟩) (CR (L2N.CX X.prog X.w) (envOfC qg sg s.heap.objs.size g cdg :: X.stack) X.prog X.w H1 s1 Q (E σz)) s1 := by
    obtain ⟨kk, hb1, hb2⟩ := hbind (X.env.qual ++ "<lambda>") (cloFrom X.env.cells scope.names []) (.ref T0) doc pm (.ref c) ctv
    have hB : BindsTo s1 (PySem.W.kdv_fn "<lambda>" (X.env.qual ++ "<lambda>") params (.expr body) scope (cloFrom X.env.cells scope.names []) (.ref T0) doc pm (.ref c) ctv) ⟨[], []⟩ [(a0, u)] := BindsTo.of_defaults rfl oT1 rfl hb1 (hb2 u)
    refine PySem.W.kla_callFunE hr.depth of1 rfl L.co L.gen rfl ⟨c, oc, vs, t, rfl, hoc, hdc, hvc⟩ (hB _ _ _ _ ?_)
    refine wpAny_newFunctionEnv (fun y hy => (L.own y hy).1) (fun y hy => by rw [List.mem_singleton.mp hy]; exact hl0) (fun g1 hns hsb => ⟨I1.nolimit.fresh _ hsb, ?_⟩) L.kind
    have kp : ∀ b o, s1.heap.get? b = some o → g1.get? b = some o := fun b o e => hsb.extBut b o (Nat.ne_of_lt (Heap.lt_size e)) (Heap.get?_push_of_some _ e)
    have J := lam_startE (E := E σz) (f := f) (c' := c) (tk := s1.toks + ([(a0, u)] : List (Str × Value)).length) I L I1.env0 hr.hd I1.base hns kp
    refine PySem.W.kla_codeExpr (wpAny_mono ((hbody _ _ s1 H1 (E σz) (hr.deeper _)).run [] _ _ H1 Q (J.wish _) y) (fun v s3 ⟨w3, H3, J3, rv, q⟩ => ⟨w3, H3, J3.os, J3.bare, J3.base, J3.hok, rv, q⟩) fun e s3 z => z)
  refine wpAny_call (codeAny_mono run fun rs s2 hq => ?_)
  cases rs with
  | error e => exact tk e s2 (L2N.XE.of_call I1 (fun cls d H' h => hW cls d σz H' h) hq)
  | ok fl =>
    cases fl with
    | ret u => exact I1.after hq
    | next => exact False.elim hq
    | brk => exact False.elim hq
    | cont => exact False.elim hq
end
theorem pe_lamE {X : Cx} {T : List (Addr × Str)} {TT : (XK → Hp → VK → Prop) → Hp → VK → Prop} {x a a0 : Str} {g c P : Addr} {k i0 : Nat} {pg : Arguments} {bg : List Stmt} {sg : Scope} {dV kV doc pm cdv ct oc : Value} {an od : Option Addr} {osl : Array (Option Value)} {Ng : List Str}
    {params : Arguments} {body : Expr} {scope : Scope} {t : XK → TE} {p lpos pos pz : Pos} {z : Int} {jz : Nat} (hg : Gl X x) (hm : X.mg x = some (.ref g)) (hk : PySem.W.keepIn X.K (.ref g) = true)
    (lk : X.K.lookup g = some ⟨oc, od, .func (PySem.W.fnOf x x pg bg sg dV kV doc pm an cdv ct), osl⟩) (hcg : PySem.W.codeIn X.K cdv x = true) (hb : Binds X.K (PySem.W.fnOf x x pg bg sg dV kV doc pm an cdv ct) [a] []) (Sg : FnScope Ng [a] sg) (hNg : Ng[0]? = some a) (hva : Vis sg a)
    (hG : GivesN X Ng x sg g cdv bg a (X.env.qual ++ "<lambda>") TT) (TB : LamX.TabB X.base X.mg c P) (hcode : X.env.code = .ref c) (hmT : (P, X.env.qual ++ "<lambda>") ∈ T) (hu : ∀ p ∈ T, p.1 = P → p.2 = X.env.qual ++ "<lambda>") (hr : Room (k + 2) X.A) (k40 : 40 ≤ k + 1) (L : LamSE X.N X.env.scope scope i0 a0) (hd1 : params.defaults = [.Constant (.int z) jz pz]) (hk0 : params.kw_defaults = []) (hl0 : scope.names.lookup a0 = some .local)
    (hbind : ∀ (q : Str) (cl : List (Str × Addr)) (dV doc pm cv ctv : Value), ∃ k, bindArgs (PySem.W.kdv_fn "<lambda>" q params (.expr body) scope cl dV doc pm cv ctv) ⟨[], []⟩ = seqItems? dV >>= k ∧ ∀ u, k (some #[u]) = pure [(a0, u)])
    (hbody : ∀ (A : Around) (outer : List Env) (s : Shared) (H : Hp) (E : XK) (f c2 : Addr), Room k (A.deeper (LamX.lamEnv X scope s.heap.objs.size f c2)) → PE (lamCxN X A outer s H E scope f c2) body (t E))
    (hdb : (x == ("__debug__" : Str)) = false := by decide) (hd : (a == ("__debug__" : Str)) = false := by decide) (hcd : (a == ("__classdict__" : Str)) = false := by decide) :
    PE X (.Call (.Name x p) [.Lambda params body scope lpos] [] pos) (LamX.tLam T TT (fun E σ H Q => t E (σ.set i0 none) H Q)) := by
  refine ⟨fun pins s σ H Q I ⟨hT, y⟩ => ?_⟩
  refine wpAny_Call_Name_kw (ld_glob I hg hm (PySem.W.callWith_K (h₀ := X.base) I.ok.mod.kin hk ?_ (by rfl) (by rfl)) hdb)
  show wpAny _ _ (spliced ((false, eval (.Lambda params body scope lpos) X.env) :: backTo pos (starEach [] X.env))) _ _ s
  refine Calls.spliced_cons (lam_makeD I TB hcode hmT hu hT hd1 hk0 (L.has I.ok) fun f c2 T0 u doc2 pm2 ctv H1 s1 I1 eN T1 hf hfn hfr hT0 hTn hTr hco => Calls.spliced_nil ⟨I1.kIn, ?_⟩)
  have run : codeAny (model X.prog X.w) X.A (.call (.ref g) ⟨[.ref f], []⟩) (CR CX0 X.stack X.prog X.w H1 s1 Q E0) s1 := by
    refine LamX.run_ofS (N := Ng) (ps := [a]) (us := [.ref f]) (vs := [.ref f]) lk hcg Sg hr I1.env0 (hb s1 [.ref f] I1.kIn rfl) (.cons rfl .nil) rfl fun hr2 => ?_
    obtain ⟨t2, ht2, hq2⟩ := hG _ f c2 s1 H1 Q (fun E H' Q' => t E (σ.set i0 none) H' Q') hr2 k40 (fun W pn xe E p1 p2 tk hW => pe_actE (i := 0) I1 L hf hfn hfr hT0 hTn hTr hl0 hbind tk hW hr2 (fun A outer s H E hr3 => hbody A outer s H E f c2 hr3) hNg hva hd hcd) hco (y H1 eN T1)
    exact ⟨t2, ht2.nox, hq2⟩
  refine wpAny_call (codeAny_mono run fun rs s2 hq => ?_)
  cases rs with
  | error e => exact (show False from hq).elim
  | ok fl =>
    cases fl with
    | ret u => exact I1.after hq
    | next => exact False.elim hq
    | brk => exact False.elim hq
    | cont => exact False.elim hq
end OPL
/-! ### the kinds of fields: 1 position, 2 name, 3 size, 4 row -/
def fk (j : Nat) : Nat := if [1, 9, 17].contains j then 1 else if [14, 15].contains j then 2 else if j = 5 then 3 else if j = 19 then 4 else 0
def fnm (n : Nat) : Str := if n = 1 then "position" else if n = 2 then "name" else if n = 3 then "size" else "row"
theorem fk_in3 : ∀ j, j < 20 → inV (.str (en j)) [.str (en 1), .str (en 9), .str (en 17)] = decide (fk j = 1) := by decide +kernel
theorem fk_in2 : ∀ j, j < 20 → inV (.str (en j)) [.str (en 14), .str (en 15)] = decide (fk j = 2) := by decide +kernel
theorem fk_big : ∀ j, j < 20 → decide (V.str (en j) = V.str (en 5)) = decide (fk j = 3) := by decide +kernel
theorem fk_row : ∀ j, j < 20 → decide (V.str (en j) = V.str (en 19)) = decide (fk j = 4) := by decide +kernel
theorem fk_none0 : ∀ j, j < 20 → decide (fk j = 1) = false → decide (fk j = 2) = false → decide (fk j = 3) = false → decide (fk j = 4) = false → fk j = 0 := by decide +kernel
theorem fk_none (j : Nat) (h : j < 20) (c1' : decide (fk j = 1) = false) (c2' : decide (fk j = 2) = false) (c3' : decide (fk j = 3) = false) (c4' : decide (fk j = 4) = false) : fk j = 0 := fk_none0 j h c1' c2' c3' c4'
/-! ### names asked of a program -/
def okNmV (v : V) : Prop := ∃ l : List Nat, v = nmV l ∧ l.length ≤ 100
/-- what is asked of a name: known, or UnknownName -/
def NmB (K : PySem.W.Frag) (C CU : Addr) (vs : List V) (H : Hp) (E : XK) (k : PD → Prop) : Prop := ∃ (O : Addr → Prop) (x : Addr) (ds : List PD) (n : List Nat), vs = [.ref x, nmV n] ∧ PrA K O H C x ds ∧ n.length ≤ 100 ∧
  (lkD ds n = none → ∀ (e : Addr) (H' : Hp), Same H H' → H e = none → H' e = some (.xd [("name", nmV n)]) → E (.ref CU) (some e) H') ∧ ∀ z, lkD ds n = some z → k z
def spPChk (K : PySem.W.Frag) (C CU : Addr) : Sp := fun vs H Q E => NmB K C CU vs H E fun _ => ∀ H', Same H H' → Q .non H'
def spPGet (K : PySem.W.Frag) (C CU : Addr) (g : PD → Int) : Sp := fun vs H Q E => NmB K C CU vs H E fun z => ∀ H', Same H H' → Q (.int (g z)) H'
/-- the measures that the law keeps: at kd, of the names that ds has -/
def KnA (K : PySem.W.Frag) (H : Hp) (kd : Addr) (ds : List PD) : Prop := ∃ kvs : List (L2.Key × V), H kd = some (.dK kvs) ∧ kvs.length ≤ ds.length ∧ ∀ n z, lkD ds n = some z → ∃ q, valV kvs (nmK n) = some (.ref q) ∧ SqT K H q [.int z.sz, .int z.dp]
def spLMe (K : PySem.W.Frag) (n : Nat) : Sp := fun vs H Q _ => ∃ (kd : Addr) (v : V) (e : Ex) (ds : List PD) (Bd : Nat) (s d : Int), vs = [.ref kd, v] ∧ KnA K H kd ds ∧ ExV K H v e ∧ e.ok ∧ e.dep < n ∧ e.st.length ≤ 100 ∧ 1 ≤ Bd ∧ Bd ≤ 400000 ∧ (∀ z ∈ ds, z.sz.natAbs < 2 ^ Bd ∧ z.dp.natAbs < 2 ^ Bd) ∧
  e.ev 1 sJ sP (fun n => (lkD ds n).map (·.sz)) = some s ∧ e.ev 0 dJ dP (fun n => (lkD ds n).map (·.dp)) = some d ∧
  ∀ (q : Addr) (H' : Hp), Same H H' → SqT K H' q [.int s, .int d] → s.natAbs < 2 ^ (Bd + 101 * e.st.length) → d.natAbs < 2 ^ (Bd + 101 * e.st.length) → Q (.ref q) H'
def spLSz (K : PySem.W.Frag) : Sp := fun vs H Q _ => ∃ (l : Addr) (us : List V) (rs : List Row), vs = [.ref l] ∧ H l = some (.lst us) ∧ RwAll K H us rs ∧ RowsOk [] rs ∧ rs.length ≤ 20 ∧ ∀ (kd : Addr) (H' : Hp), Same H H' → H kd = none → KnA K H' kd (rowsD [] rs) → Q (.ref kd) H'
/-! ### terms of programs -/
def pwT (c : Nat) (b : Tree) : Nat → Tree
  | 0 => b
  | k + 1 => if c = 94 then .N b (pwT c b k) else .N (pwT c b k) b
def tJ (a b : Tree) : Tree := .N a b
def tP (c : Nat) (a : Tree) (k : Int) : Tree := pwT c a (k.toNat - 1)
theorem pwT_sz (c : Nat) (b : Tree) : ∀ k, (pwT c b k).sz = b.sz * (k + 1)
  | 0 => by rw [Nat.mul_one]; rfl
  | k + 1 => by
    have ih := pwT_sz c b k
    unfold pwT
    have e : b.sz * (k + 1 + 1) = b.sz * (k + 1) + b.sz := by rw [Nat.mul_succ]
    by_cases h : c = 94
    · rw [if_pos h]
      show b.sz + (pwT c b k).sz = _
      rw [ih, e]
      omega
    · rw [if_neg h]
      show (pwT c b k).sz + b.sz = _
      rw [ih, e]
theorem pwT_dp (c : Nat) (b : Tree) : ∀ k, (pwT c b k).dp = b.dp + k
  | 0 => rfl
  | k + 1 => by
    have ih := pwT_dp c b k
    unfold pwT
    by_cases h : c = 94
    · rw [if_pos h]
      show max b.dp (pwT c b k).dp + 1 = _
      omega
    · rw [if_neg h]
      show max (pwT c b k).dp b.dp + 1 = _
      omega
/-- the term that an expression tells -/
def Ex.tree (tr : List Nat → Tree) : Ex → Tree
  | .x => .L
  | .nm n => tr n
  | .up l r => .N (l.tree tr) (r.tree tr)
  | .pw b e k => pwT (pwS b) (e.tree tr) (k - 1)
theorem Ex.tree_congr {tr tr' : List Nat → Tree} : ∀ {e : Ex}, (∀ n ∈ e.nms, tr n = tr' n) → e.tree tr = e.tree tr'
  | .x, _ => rfl
  | .nm n, h => h n (List.mem_singleton.mpr rfl)
  | .up l r, h => by
    show Tree.N _ _ = Tree.N _ _
    rw [tree_congr fun n hn => h n (List.mem_append_left _ hn), tree_congr (e := r) fun n hn => h n (List.mem_append_right _ hn)]
  | .pw b e k, h => by
    show pwT _ _ _ = pwT _ _ _
    rw [tree_congr (e := e) h]
theorem Ex.tree_ev (tr : List Nat → Tree) (kn : List Nat → Option Tree) : ∀ {e : Ex}, (∀ n ∈ e.nms, kn n = some (tr n)) → e.ev .L tJ tP kn = some (e.tree tr)
  | .x, _ => rfl
  | .nm n, h => h n (List.mem_singleton.mpr rfl)
  | .up l r, h => by
    show ((l.ev .L tJ tP kn).bind fun a => (r.ev .L tJ tP kn).map fun b => tJ a b) = _
    rw [tree_ev tr kn (e := l) fun n hn => h n (List.mem_append_left _ hn), tree_ev tr kn (e := r) fun n hn => h n (List.mem_append_right _ hn)]
    rfl
  | .pw b e k, h => by
    show (e.ev .L tJ tP kn).map (fun a => tP (pwS b) a (k : Int)) = _
    rw [tree_ev tr kn (e := e) h]
    show some (pwT (pwS b) (e.tree tr) ((k : Int).toNat - 1)) = some (pwT (pwS b) (e.tree tr) (k - 1))
    rw [Int.toNat_natCast]
theorem Ex.tree_sz (tr : List Nat → Tree) (kn : List Nat → Option Int) : ∀ {e : Ex}, e.ok → (∀ n ∈ e.nms, kn n = some ((tr n).sz : Int)) → e.ev 1 sJ sP kn = some ((e.tree tr).sz : Int)
  | .x, _, _ => rfl
  | .nm n, _, h => h n (List.mem_singleton.mpr rfl)
  | .up l r, o, h => by
    show ((l.ev 1 sJ sP kn).bind fun a => (r.ev 1 sJ sP kn).map fun b => sJ a b) = _
    rw [tree_sz tr kn o.1 fun n hn => h n (List.mem_append_left _ hn), tree_sz tr kn o.2 fun n hn => h n (List.mem_append_right _ hn)]
    show some ((((l.tree tr).sz : Int)) + ((r.tree tr).sz : Int)) = some ((((l.tree tr).sz + (r.tree tr).sz : Nat) : Nat) : Int)
    rw [Int.natCast_add]
  | .pw b e k, o, h => by
    obtain ⟨o1, k1, _⟩ := (show e.ok ∧ 1 ≤ k ∧ k < 10 ^ 30 from o)
    show (e.ev 1 sJ sP kn).map (fun a => sP (pwS b) a (k : Int)) = _
    rw [tree_sz tr kn o1 h]
    show some (((e.tree tr).sz : Int) * (k : Int)) = some (((pwT (pwS b) (e.tree tr) (k - 1)).sz : Nat) : Int)
    rw [pwT_sz, show k - 1 + 1 = k by omega, Int.natCast_mul]
theorem Ex.tree_dp (tr : List Nat → Tree) (kn : List Nat → Option Int) : ∀ {e : Ex}, e.ok → (∀ n ∈ e.nms, kn n = some ((tr n).dp : Int)) → e.ev 0 dJ dP kn = some ((e.tree tr).dp : Int)
  | .x, _, _ => rfl
  | .nm n, _, h => h n (List.mem_singleton.mpr rfl)
  | .up l r, o, h => by
    show ((l.ev 0 dJ dP kn).bind fun a => (r.ev 0 dJ dP kn).map fun b => dJ a b) = _
    rw [tree_dp tr kn o.1 fun n hn => h n (List.mem_append_left _ hn), tree_dp tr kn o.2 fun n hn => h n (List.mem_append_right _ hn)]
    show some (dJ ((l.tree tr).dp : Int) ((r.tree tr).dp : Int)) = some ((max (l.tree tr).dp (r.tree tr).dp + 1 : Nat) : Int)
    unfold dJ
    congr 1
    by_cases c : ((r.tree tr).dp : Int) > ((l.tree tr).dp : Int)
    · rw [if_pos c]
      omega
    · rw [if_neg c]
      omega
  | .pw b e k, o, h => by
    obtain ⟨o1, k1, _⟩ := (show e.ok ∧ 1 ≤ k ∧ k < 10 ^ 30 from o)
    show (e.ev 0 dJ dP kn).map (fun a => dP (pwS b) a (k : Int)) = _
    rw [tree_dp tr kn o1 h]
    show some (((e.tree tr).dp : Int) + (k : Int) - 1) = some (((pwT (pwS b) (e.tree tr) (k - 1)).dp : Nat) : Int)
    rw [pwT_dp]
    congr 1
    omega
theorem Ex.tree_nm (tr : List Nat → Tree) : ∀ {e : Ex} {n : List Nat}, n ∈ e.nms → (tr n).sz ≤ (e.tree tr).sz ∧ (tr n).dp ≤ (e.tree tr).dp
  | .x, n, h => nomatch h
  | .nm m, n, h => by rw [List.mem_singleton.mp h]; exact ⟨Nat.le_refl _, Nat.le_refl _⟩
  | .up l r, n, h => by
    show (tr n).sz ≤ (l.tree tr).sz + (r.tree tr).sz ∧ (tr n).dp ≤ max (l.tree tr).dp (r.tree tr).dp + 1
    rcases List.mem_append.mp h with h | h
    · have := tree_nm tr h
      omega
    · have := tree_nm tr h
      omega
  | .pw b e k, n, h => by
    have := tree_nm tr (e := e) h
    show (tr n).sz ≤ (pwT (pwS b) (e.tree tr) (k - 1)).sz ∧ (tr n).dp ≤ (pwT (pwS b) (e.tree tr) (k - 1)).dp
    rw [pwT_sz, pwT_dp]
    have : (e.tree tr).sz * 1 ≤ (e.tree tr).sz * (k - 1 + 1) := Nat.mul_le_mul_left _ (by omega)
    omega
/-- a power that the law draws small -/
def PwOk (s : St1) : Prop := StOk s ∧ ∀ c k, s = .pw c k → 1 ≤ k ∧ k ≤ 4
/-- the definitions' terms -/
structure TrA (ds : List PD) (tr : List Nat → Tree) : Prop where
  uniq : (ds.map fun e => e.df.nm).Pairwise (· ≠ ·)
  at_ : ∀ (i : Nat) (z : PD), ds[i]? = some z → z.sz = ((tr z.df.nm).sz : Int) ∧ z.dp = ((tr z.df.nm).dp : Int) ∧ (∀ s ∈ z.df.ss, PwOk s) ∧ z.df.ss.length ≤ 100 ∧
    ∀ kn : List Nat → Option Tree, (∀ n, (∃ e ∈ ds.take i, e.df.nm = n) → (tr n).sz ≤ (tr z.df.nm).sz → (tr n).dp ≤ (tr z.df.nm).dp → kn n = some (tr n)) → evS .L tJ tP kn z.df.ss [] = some [tr z.df.nm]
def smT (t : Tree) : Bool := decide (t.sz ≤ 12) && decide (t.dp ≤ 6)
/-- a value of a step -/
def RT (K : PySem.W.Frag) : Nat → Hp → V → Tree → Prop := fun _ H v t => TA K H v t
def spPwT (K : PySem.W.Frag) : Sp := fun vs H Q _ => ∃ (c : Nat) (v : V) (k : Int) (a : Tree), vs = [.str (sL [c]), v, .int k] ∧ PwOk (.pw c k) ∧ TA K H v a ∧ ∀ u H', Same H H' → TA K H' u (tP c a k) → Q u H'
/-- the terms so far -/
def TmA (K : PySem.W.Frag) (H : Hp) (kd : Addr) (kn : List Nat → Option Tree) : Prop := ∃ kvs : List (L2.Key × V), H kd = some (.dK kvs) ∧ ∀ n t, kn n = some t → ∃ v, valV kvs (nmK n) = some v ∧ TA K H v t
def spCTm (T : List (Addr × Str)) (K : PySem.W.Frag) : Sp := fun vs H Q _ => ∃ (l kd : Addr) (us : List V) (ss : List St1) (kn : List Nat → Option Tree) (a : Tree), vs = [.ref l, .ref kd] ∧ LamX.Tabs T H ∧ H l = some (.lst us) ∧ StAll K H us ss ∧ (∀ s ∈ ss, PwOk s) ∧ TmA K H kd kn ∧ evS .L tJ tP kn ss [] = some [a] ∧ ss.length ≤ 100 ∧
  ∀ v H', LamX.ExtN H H' → LamX.Tabs T H' → TA K H' v a → Q v H'
def spPSm (K : PySem.W.Frag) (C : Addr) : Sp := fun vs H Q _ => ∃ (O : Addr → Prop) (x : Addr) (ds : List PD) (n : List Nat) (z : PD), vs = [.ref x, nmV n] ∧ PrA K O H C x ds ∧ lkD ds n = some z ∧ Q (.bl (decide (z.sz ≤ 12) && decide (z.dp ≤ 6))) H
def spPUp (K : PySem.W.Frag) (C : Addr) : Sp := fun vs H Q _ => ∃ (O : Addr → Prop) (x : Addr) (ds : List PD) (i : Nat) (z : PD), vs = [.ref x, nmV z.df.nm] ∧ PrA K O H C x ds ∧ (ds.map fun e => e.df.nm).Pairwise (· ≠ ·) ∧ ds[i]? = some z ∧ ∀ l H', Same H H' → H l = none → H' l = some (.lst (((ds.take (i + 1)).map fun e => e.df.nm).map nmV)) → Q (.ref l) H'
/-- what term gives -/
def spPTm (T : List (Addr × Str)) (K : PySem.W.Frag) (C CU CL : Addr) : Sp := fun vs H Q E => ∃ tr : List Nat → Tree, LamX.Tabs T H ∧ (∃ (O : Addr → Prop) (x : Addr) (ds : List PD) (n : List Nat), vs = [.ref x, nmV n] ∧ PrA K O H C x ds ∧ n.length ≤ 100 ∧ TrA ds tr ∧
  (lkD ds n = none → ∀ (e : Addr) (H' : Hp), Same H H' → H e = none → H' e = some (.xd [("name", nmV n)]) → E (.ref CU) (some e) H') ∧
  (∀ z, lkD ds n = some z → smT (tr n) = false → ∀ (e : Addr) (H' : Hp), Same H H' → H e = none → H' e = some (.xd [("size", .int ((tr n).sz : Int))]) → E (.ref CL) (some e) H') ∧
  ∀ z, lkD ds n = some z → smT (tr n) = true → ∀ v H', LamX.ExtN H H' → LamX.Tabs T H' → TA K H' v (tr n) → Q v H')
/-! ### terms of rows -/
def rowsTr : (List Nat → Tree) → List Row → List Nat → Tree
  | tr, [] => tr
  | tr, r :: rs => rowsTr (fun n => if n = r.nm then r.e.tree tr else tr n) rs
theorem rowsTr_old {kn : List (List Nat)} {rs : List Row} (h : RowsOk kn rs) : ∀ (tr : List Nat → Tree) (n : List Nat), n ∈ kn → rowsTr tr rs n = tr n := by
  induction h with
  | nil => exact fun tr n _ => rfl
  | @cons kn r rs a b c d e f _ ih =>
    intro tr n hn
    show rowsTr (fun n => if n = r.nm then r.e.tree tr else tr n) rs n = tr n
    rw [ih _ n (List.mem_append_left _ hn)]
    exact if_neg (fun z : n = r.nm => b (by rw [← z]; exact hn))
theorem rowsTr_at {kn : List (List Nat)} {rs : List Row} (h : RowsOk kn rs) : ∀ (tr : List Nat → Tree), ∀ r ∈ rs, rowsTr tr rs r.nm = r.e.tree (rowsTr tr rs) := by
  induction h with
  | nil => exact fun tr r hr => nomatch hr
  | @cons kn r rs a b c d e f hR ih =>
    intro tr r' hr'
    rcases List.mem_cons.mp hr' with rfl | hr'
    · show rowsTr (fun n => if n = r'.nm then r'.e.tree tr else tr n) rs r'.nm = _
      rw [rowsTr_old hR _ r'.nm (List.mem_append_right _ (List.mem_singleton.mpr rfl)), if_pos rfl]
      refine Ex.tree_congr fun n hn => ?_
      show tr n = rowsTr (fun n => if n = r'.nm then r'.e.tree tr else tr n) rs n
      rw [rowsTr_old hR _ n (List.mem_append_left _ (d n hn))]
      exact (if_neg (fun z : n = r'.nm => b (by rw [← z]; exact d n hn))).symm
    · exact ih _ r' hr'
theorem trT_ok {k : Nat} {e : Ex} (hp : ∀ b j, Ex.pwIn e b j → j ≤ 4) (ho : e.ok) : ∀ s ∈ e.st, PwOk s := fun s hs => by
  refine ⟨Ex.st_ok ho s hs, ?_⟩
  have aux : ∀ {e : Ex}, e.ok → (∀ b j, Ex.pwIn e b j → j ≤ 4) → ∀ s ∈ e.st, ∀ c k, s = St1.pw c k → 1 ≤ k ∧ k ≤ 4 := by
    intro e
    induction e with
    | x => intro _ _ s hs c k es; rw [List.mem_singleton.mp hs] at es; cases es
    | nm n => intro _ _ s hs c k es; rw [List.mem_singleton.mp hs] at es; cases es
    | up l r il ir =>
      intro ho hp s hs c k es
      rcases List.mem_append.mp hs with hs | hs
      · exact il ho.1 (fun b j z => hp b j (.left z)) s hs c k es
      rcases List.mem_append.mp hs with hs | hs
      · exact ir ho.2 (fun b j z => hp b j (.right z)) s hs c k es
      · rw [List.mem_singleton.mp hs] at es; cases es
    | pw b e0 j ie =>
      intro ho hp s hs c k es
      obtain ⟨o1, o2, _⟩ := (show e0.ok ∧ 1 ≤ j ∧ j < 10 ^ 30 from ho)
      rcases List.mem_append.mp hs with hs | hs
      · exact ie o1 (fun b2 j2 z => hp b2 j2 (.pw z)) s hs c k es
      · rw [List.mem_singleton.mp hs] at es
        cases es
        have := hp b j .here
        omega
  exact aux ho hp s hs
theorem tra_snoc {ds : List PD} {tr : List Nat → Tree} {r : Row} {s d : Int} (h : TrA ds tr) (hn : r.nm ∉ ds.map fun e => e.df.nm) (ho : r.e.ok) (hk : ∀ m ∈ r.e.nms, m ∈ ds.map fun e => e.df.nm) (hl : r.e.txt.length < 60) (hp : ∀ b k, Ex.pwIn r.e b k → k ≤ 4) (ht : tr r.nm = r.e.tree tr) (hs : s = ((tr r.nm).sz : Int)) (hd : d = ((tr r.nm).dp : Int)) : TrA (ds ++ [⟨r.df, s, d⟩]) tr := by
  refine ⟨?_, fun i z hz => ?_⟩
  · rw [List.map_append]
    refine List.pairwise_append.mpr ⟨h.uniq, List.pairwise_singleton .., fun x hx y hy => ?_⟩
    rw [List.mem_singleton.mp hy]
    exact fun e => hn (by rw [show r.nm = x from e.symm]; exact hx)
  · by_cases hi : i < ds.length
    · rw [List.getElem?_append_left hi] at hz
      rw [List.take_append_of_le_length (Nat.le_of_lt hi)]
      exact h.at_ i z hz
    · have hi2 := (List.getElem?_eq_some_iff.mp hz).1
      rw [List.length_append, List.length_singleton] at hi2
      obtain rfl : i = ds.length := by omega
      rw [List.getElem?_append_right (Nat.le_refl _), Nat.sub_self] at hz
      cases hz
      rw [List.take_append_of_le_length (Nat.le_refl _), List.take_length]
      have sl := Ex.st_len ho
      refine ⟨hs, hd, trT_ok (k := 0) hp ho, by show r.e.st.length ≤ 100; omega, fun kn hkn => ?_⟩
      have e1 := evS_ex Tree.L tJ tP kn r.e (r.e.tree tr) [] [] (Ex.tree_ev tr kn fun n hn2 => ?_)
      · rw [List.append_nil] at e1
        show evS Tree.L tJ tP kn r.e.st [] = some [tr r.nm]
        rw [ht]
        exact e1
      · obtain ⟨z, hz1, hz2⟩ := List.mem_map.mp (hk n hn2)
        have := Ex.tree_nm tr hn2
        refine hkn n ⟨z, hz1, hz2⟩ ?_ ?_
        · show (tr n).sz ≤ (tr r.nm).sz
          rw [ht]
          exact this.1
        · show (tr n).dp ≤ (tr r.nm).dp
          rw [ht]
          exact this.2
theorem tra_ev {ds : List PD} {tr : List Nat → Tree} (h : TrA ds tr) {n : List Nat} (hn : n ∈ ds.map fun e => e.df.nm) : (lkD ds n).map (·.sz) = some ((tr n).sz : Int) ∧ (lkD ds n).map (·.dp) = some ((tr n).dp : Int) := by
  obtain ⟨z, hz⟩ := lk_some hn
  obtain ⟨hm, en⟩ := lk_mem hz
  obtain ⟨i, hi⟩ := List.getElem?_of_mem hm
  obtain ⟨a, b, _⟩ := h.at_ i z hi
  rw [hz, ← en]
  exact ⟨congrArg some a, congrArg some b⟩
theorem tra_rows {kn : List (List Nat)} {rs : List Row} (h : RowsOk kn rs) : ∀ (ds : List PD) (tr : List Nat → Tree), (ds.map fun e => e.df.nm) = kn → TrA ds tr → (∀ r ∈ rs, tr r.nm = r.e.tree tr) → (∀ r ∈ rs, ∀ b k, Ex.pwIn r.e b k → k ≤ 4) → TrA (rowsD ds rs) tr := by
  induction h with
  | nil => exact fun ds tr _ h _ _ => h
  | @cons kn r rs a b c d e f _ ih =>
    intro ds tr hk hT ht hp
    have e1 : r.e.ev 1 sJ sP (fun n => (lkD ds n).map (·.sz)) = some ((r.e.tree tr).sz : Int) := Ex.tree_sz tr _ c fun n hn => (tra_ev hT (by rw [hk]; exact d n hn)).1
    have e2 : r.e.ev 0 dJ dP (fun n => (lkD ds n).map (·.dp)) = some ((r.e.tree tr).dp : Int) := Ex.tree_dp tr _ c fun n hn => (tra_ev hT (by rw [hk]; exact d n hn)).2
    have ht1 := ht r List.mem_cons_self
    show TrA (rowsD (ds ++ [⟨r.df, (r.e.ev 1 sJ sP fun n => (lkD ds n).map (·.sz)).getD 0, (r.e.ev 0 dJ dP fun n => (lkD ds n).map (·.dp)).getD 0⟩]) rs) tr
    rw [e1, e2]
    refine ih _ tr ?_ (tra_snoc hT (by rw [hk]; exact b) c (fun m hm => by rw [hk]; exact d m hm) e (hp r List.mem_cons_self) ht1 (by rw [ht1]; rfl) (by rw [ht1]; rfl)) (fun r' hr' => ht r' (List.mem_cons_of_mem _ hr')) fun r' hr' => hp r' (List.mem_cons_of_mem _ hr')
    rw [List.map_append, hk]
    rfl
theorem tra_nil (tr : List Nat → Tree) : TrA [] tr := ⟨.nil, fun i z hz => nomatch hz⟩
/-- the row at a place -/
theorem RowsOk.at {kn : List (List Nat)} {rs : List Row} (h : RowsOk kn rs) : ∀ {j : Nat} {r : Row}, rs[j]? = some r → r.e.ok ∧ ∀ m ∈ r.e.nms, m ∈ kn ++ (rs.take j).map Row.nm := by
  induction h with
  | nil => intro j r e; cases j <;> cases e
  | @cons kn r rs a b c d e f _ ih =>
    intro j r' hj
    cases j with
    | zero =>
      cases hj
      exact ⟨c, fun m hm => List.mem_append_left _ (d m hm)⟩
    | succ j =>
      obtain ⟨h1, h2⟩ := ih (show rs[j]? = some r' from hj)
      refine ⟨h1, fun m hm => ?_⟩
      have := h2 m hm
      rw [List.append_assoc] at this
      exact this
theorem RowsOk.uniq {kn : List (List Nat)} {rs : List Row} (h : RowsOk kn rs) : (rs.map Row.nm).Pairwise (· ≠ ·) ∧ ∀ r ∈ rs, r.nm ∉ kn := by
  induction h with
  | nil => exact ⟨.nil, fun r hr => nomatch hr⟩
  | @cons kn r rs a b c d e f _ ih =>
    obtain ⟨h1, h2⟩ := ih
    refine ⟨List.pairwise_cons.mpr ⟨fun n hn z => ?_, h1⟩, fun r' hr' => ?_⟩
    · obtain ⟨r', hr', en⟩ := List.mem_map.mp hn
      exact h2 r' hr' (List.mem_append_right _ (List.mem_singleton.mpr (by rw [en, z])))
    · rcases List.mem_cons.mp hr' with rfl | hr'
      · exact b
      · exact fun z => h2 r' hr' (List.mem_append_left _ z)
/-- dict(rows) -/
theorem mergeK_new : ∀ (kvs acc : List (L2.Key × V)), kvs.Pairwise (fun a b => a.1 ≠ b.1) → (∀ a ∈ acc, ∀ b ∈ kvs, a.1 ≠ b.1) → mergeK acc kvs = acc ++ kvs
  | [], acc, _, _ => by rw [List.append_nil]; rfl
  | z :: kvs, acc, h, ha => by
    obtain ⟨h1, h2⟩ := List.pairwise_cons.mp h
    have no : valV acc z.1 = none := by
      have : ∀ acc : List (L2.Key × V), (∀ a ∈ acc, a.1 ≠ z.1) → valV acc z.1 = none := fun acc => by
        induction acc with
        | nil => exact fun _ => rfl
        | cons a acc ih =>
          intro h
          rw [valV_neg (h a List.mem_cons_self)]
          exact ih fun x hx => h x (List.mem_cons_of_mem _ hx)
      exact this acc fun a hx => ha a hx z List.mem_cons_self
    show mergeK (putK acc z.1 z.2) kvs = _
    rw [putK_new z.2 no, mergeK_new kvs _ h2 fun a hx b hb => ?_, List.append_assoc]
    · rfl
    · rcases List.mem_append.mp hx with hx | hx
      · exact ha a hx b (List.mem_cons_of_mem _ hb)
      · rw [List.mem_singleton.mp hx]
        exact h1 b hb
/-- the pairs of rows -/
theorem rows_pairs {K : PySem.W.Frag} {H : Hp} {us : List V} {rs : List Row} (h : RwAll K H us rs) : ∃ (ps : List Addr) (kvs : List (L2.Key × V)), us = ps.map V.ref ∧ Paired (fun p kv => SqT K H p [kV kv.1, kv.2]) ps kvs ∧ kvs.map (·.1) = rs.map (fun r => nmK r.nm) ∧
    ∀ (j : Nat) (r : Row), rs[j]? = some r → ∃ ve, kvs[j]? = some (nmK r.nm, ve) ∧ ExV K H ve r.e := by
  induction h with
  | nil => exact ⟨[], [], rfl, .nil, rfl, fun j r e => nomatch e⟩
  | cons h1 _ ih =>
    obtain ⟨ps, kvs, e1, e2, e3, e4⟩ := ih
    obtain ⟨q, ve, rfl, a2, a3⟩ := h1
    refine ⟨q :: ps, (nmK _, ve) :: kvs, by rw [e1]; rfl, .cons a2 e2, by rw [List.map_cons, e3]; rfl, fun j r hj => ?_⟩
    cases j with
    | zero =>
      cases hj
      exact ⟨ve, rfl, a3⟩
    | succ j => exact e4 j r hj
theorem valV_at : ∀ {kvs : List (L2.Key × V)} {j : Nat} {k : L2.Key} {v : V}, kvs.Pairwise (fun a b => a.1 ≠ b.1) → kvs[j]? = some (k, v) → valV kvs k = some v
  | [], j, k, v, _, h => nomatch h
  | z :: kvs, 0, k, v, _, h => by
    cases h
    exact valV_pos rfl
  | z :: kvs, j + 1, k, v, hp, h => by
    obtain ⟨h1, h2⟩ := List.pairwise_cons.mp hp
    have h : kvs[j]? = some (k, v) := h
    rw [valV_neg (h1 _ (List.mem_of_getElem? h))]
    exact valV_at h2 h
/-- building the term of an expression -/
def spLBd (K : PySem.W.Frag) (n : Nat) : Sp := fun vs H Q _ => ∃ (l : Addr) (v : V) (us : List V) (rs : List Row) (tr : List Nat → Tree) (e : Ex) (kk : Nat), vs = [.ref l, v] ∧ H l = some (.lst us) ∧ RwAll K H us rs ∧ RowsOk [] rs ∧ (∀ r ∈ rs, tr r.nm = r.e.tree tr) ∧ (∀ w ∈ rs, w.e.dep ≤ 3) ∧ (∀ r ∈ rs, ∀ b k, Ex.pwIn r.e b k → k ≤ 4) ∧ ExV K H v e ∧ e.ok ∧ (∀ b k, Ex.pwIn e b k → k ≤ 4) ∧ e.dep + 4 * kk < n ∧ (∀ m ∈ e.nms, m ∈ (rs.take kk).map Row.nm) ∧
  ∀ u H', Same H H' → TA K H' u (e.tree tr) → Q u H'
theorem rw_same {K : PySem.W.Frag} {H H' : Hp} {us : List V} {rs : List Row} (s : Same H H') (h : RwAll K H us rs) : RwAll K H' us rs := h.tp (Tp.same s)
/-! ### values of programs -/
def itn (f : Nat → Nat) : Nat → Nat → Nat
  | 0, a => a
  | k + 1, a => f (itn f k a)
theorem itn_add (f : Nat → Nat) (m k a : Nat) : itn f (m + k) a = itn f m (itn f k a) := by
  induction m with
  | zero => rw [Nat.zero_add]; rfl
  | succ m ih =>
    rw [Nat.succ_add]
    exact congrArg f ih
theorem itn_ok {f : Nat → Nat} {N : Nat} (hf : ∀ v, 1 ≤ v → v ≤ N → 1 ≤ f v ∧ f v ≤ N) {a : Nat} (h1 : 1 ≤ a) (h2 : a ≤ N) : ∀ k, 1 ≤ itn f k a ∧ itn f k a ≤ N
  | 0 => ⟨h1, h2⟩
  | k + 1 => by
    obtain ⟨h3, h4⟩ := itn_ok hf h1 h2 k
    exact hf _ h3 h4
theorem itn_per {f : Nat → Nat} {j p a : Nat} (h : itn f (j + p) a = itn f j a) : ∀ q r : Nat, itn f (j + (p * q + r)) a = itn f (j + r) a
  | 0, r => by rw [Nat.mul_zero, Nat.zero_add]
  | q + 1, r => by
    have ih := itn_per h q r
    rw [← ih, show j + (p * (q + 1) + r) = (p * q + r) + (j + p) by rw [Nat.mul_succ]; omega, itn_add, h, ← itn_add, Nat.add_comm]
theorem itn_mod {f : Nat → Nat} {j p a : Nat} (h : itn f (j + p) a = itn f j a) (m : Nat) : itn f (j + m) a = itn f (j + m % p) a := by
  have := itn_per h (m / p) (m % p)
  rw [Nat.div_add_mod] at this
  exact this
def preS (N : Nat) : List V → Prop := fun vs => ∃ v : Nat, vs = [.int (v : Int)] ∧ 1 ≤ v ∧ v ≤ N
def postS (f : Nat → Nat) : List V → V → Prop := fun vs u => ∀ v : Nat, vs = [.int (v : Int)] → u = .int (f v : Nat)
theorem tabs_setL {T : List (Addr × Str)} {H H' : Hp} {lv : Addr} {us : List V} (t : LamX.Tabs T H) (h : H lv = some (.lst us)) (e : But lv H H') : LamX.Tabs T H' := fun p hp => by
  obtain ⟨ps, h1, h2, h3⟩ := t p hp
  refine ⟨ps, e _ _ (fun z => by rw [z, h] at h1; cases h1) h1, h2, fun pos cv ec => ?_⟩
  obtain ⟨c, rfl, hc⟩ := h3 pos cv ec
  exact ⟨c, rfl, e _ _ (fun z => by rw [z, h] at hc; cases hc) hc⟩
theorem tabs_setD {T : List (Addr × Str)} {H H' : Hp} {lv : Addr} {us : List (L2.Key × V)} (t : LamX.Tabs T H) (h : H lv = some (.dK us)) (e : But lv H H') : LamX.Tabs T H' := fun p hp => by
  obtain ⟨ps, h1, h2, h3⟩ := t p hp
  refine ⟨ps, e _ _ (fun z => by rw [z, h] at h1; cases h1) h1, h2, fun pos cv ec => ?_⟩
  obtain ⟨c, rfl, hc⟩ := h3 pos cv ec
  exact ⟨c, rfl, e _ _ (fun z => by rw [z, h] at hc; cases hc) hc⟩
theorem TabA.extM {H H' : Hp} {C x : Addr} {n : Nat} (h : TabA H C x n) (e : ExtM H H') : TabA H' C x n := by
  obtain ⟨dx, ra, as, h1, h2⟩ := h
  exact ⟨dx, ra, as, e _ _ h1 (fun _ => nofun) (fun _ => nofun), e _ _ h2.l (fun _ => nofun) (fun _ => nofun), h2.n, fun i a k1 k2 => e _ _ (h2.r i a k1 k2) (fun _ => nofun) (fun _ => nofun)⟩
def spRep (P : Program) (w : World) (K : PySem.W.Frag) (mg : Str → Option Value) (base : Heap) (T : List (Addr × Str)) (k : Nat) : Sp := fun vs H Q _ => ∃ (fs : Addr) (f : Nat → Nat) (N a m : Nat), vs = [.ref fs, .int (a : Int), .int (m : Int)] ∧ LamX.Tabs T H ∧ LamR P w K mg base T k fs (preS N) (postS f) H ∧ N ≤ 512 ∧ 1 ≤ a ∧ a ≤ N ∧ (∀ v, 1 ≤ v → v ≤ N → 1 ≤ f v ∧ f v ≤ N) ∧
  ∀ H', LamX.ExtN H H' → LamX.Tabs T H' → Q (.int (itn f m a : Nat)) H'
/-- the values so far -/
def rpL (f : Nat → Nat) (a i : Nat) : List Nat := (List.range i).map fun j => itn f j a
def rpK (f : Nat → Nat) (a i : Nat) : List (L2.Key × V) := (List.range i).map fun j => ((Sum.inl ((itn f j a : Nat) : Int) : L2.Key), V.int (j : Int))
theorem rpL_len (f : Nat → Nat) (a i : Nat) : (rpL f a i).length = i := by unfold rpL; rw [List.length_map, List.length_range]
theorem rpK_len (f : Nat → Nat) (a i : Nat) : (rpK f a i).length = i := by unfold rpK; rw [List.length_map, List.length_range]
theorem rpL_suc (f : Nat → Nat) (a i : Nat) : rpL f a (i + 1) = rpL f a i ++ [itn f i a] := by unfold rpL; rw [List.range_succ, List.map_append]; rfl
theorem rpK_suc (f : Nat → Nat) (a i : Nat) : rpK f a (i + 1) = rpK f a i ++ [((Sum.inl ((itn f i a : Nat) : Int) : L2.Key), V.int (i : Int))] := by unfold rpK; rw [List.range_succ, List.map_append]; rfl
theorem rpL_get {f : Nat → Nat} {a i j : Nat} (h : j < i) : (rpL f a i).getD j 0 = itn f j a := by
  unfold rpL
  rw [List.getD_eq_getElem?_getD, List.getElem?_map, List.getElem?_range h]
  rfl
/-- where a value stands -/
theorem rp_val {f : Nat → Nat} {a : Nat} (v : Nat) : ∀ i, (v ∈ rpL f a i → ∃ j, j < i ∧ itn f j a = v ∧ valV (rpK f a i) (Sum.inl (v : Int)) = some (.int (j : Int))) ∧ (v ∉ rpL f a i → valV (rpK f a i) (Sum.inl (v : Int)) = none)
  | 0 => ⟨(fun h => nomatch h), fun _ => rfl⟩
  | i + 1 => by
    obtain ⟨h1, h2⟩ := rp_val v i
    have app : ∀ (xs ys : List (L2.Key × V)) (k : L2.Key), valV (xs ++ ys) k = (valV xs k).or (valV ys k) := fun xs ys k => by
      unfold valV
      rw [List.find?_append]
      cases List.find? (fun p => decide (p.1 = k)) xs <;> rfl
    rw [rpL_suc, rpK_suc, app]
    refine ⟨fun h => ?_, fun h => ?_⟩
    · by_cases c : v ∈ rpL f a i
      · obtain ⟨j, z1, z2, z3⟩ := h1 c
        exact ⟨j, by omega, z2, by rw [z3]; rfl⟩
      · rw [h2 c]
        rcases List.mem_append.mp h with h | h
        · exact absurd h c
        · have e := List.mem_singleton.mp h
          refine ⟨i, Nat.lt_succ_self _, e.symm, ?_⟩
          rw [valV_pos (by rw [e])]
          rfl
    · have c : v ∉ rpL f a i := fun z => h (List.mem_append_left _ z)
      rw [h2 c, valV_neg]
      · rfl
      · intro z
        have z : ((itn f i a : Nat) : Int) = (v : Int) := Sum.inl.inj z
        exact h (List.mem_append_right _ (List.mem_singleton.mpr (by omega)))
/-- different numbers up to N are at most N -/
theorem nodup_le : ∀ {N : Nat} {l : List Nat}, l.Nodup → (∀ v ∈ l, 1 ≤ v ∧ v ≤ N) → l.length ≤ N
  | 0, l, _, hb => by
    cases l with
    | nil => exact Nat.le_refl _
    | cons v l =>
      have := hb v List.mem_cons_self
      omega
  | N + 1, l, h, hb => by
    have ih := nodup_le (N := N) (h.erase (N + 1)) fun v hv => by
      obtain ⟨h1, h2⟩ := (h.mem_erase_iff).mp hv
      have := hb v h2
      omega
    by_cases c : N + 1 ∈ l
    · rw [List.length_erase_of_mem c] at ih
      omega
    · rw [List.erase_of_not_mem c] at ih
      omega
/-- what a power gives in a table -/
def pwN (n c a : Nat) (k : Int) : Nat := itn (fun v => if c = 94 then opT (tbs n) a v else opT (tbs n) v a) (k.toNat - 1) a
theorem pwN_ok {n c a : Nat} {k : Int} (hn : n ≤ 9) (h1 : 1 ≤ a) (h2 : a ≤ 2 ^ n) : 1 ≤ pwN n c a k ∧ pwN n c a k ≤ 2 ^ n := by
  refine itn_ok (N := 2 ^ n) (fun v v1 v2 => ?_) h1 h2 _
  by_cases z : c = 94
  · rw [if_pos z]
    exact lv_rng (good_tbs hn) h1 h2 v1 v2
  · rw [if_neg z]
    exact lv_rng (good_tbs hn) v1 v2 h1 h2
def spPwV (T : List (Addr × Str)) (C : Addr) : Sp := fun vs H Q _ => ∃ (x : Addr) (n c a : Nat) (k : Int), vs = [.ref x, .str (sL [c]), .int (a : Int), .int k] ∧ LamX.Tabs T H ∧ TabA H C x n ∧ n ≤ 9 ∧ 1 ≤ a ∧ a ≤ 2 ^ n ∧ StOk (.pw c k) ∧
  ∀ H', LamX.ExtN H H' → LamX.Tabs T H' → Q (.int (pwN n c a k : Nat)) H'
def preJ (N : Nat) : List V → Prop := fun vs => ∃ a b : Nat, vs = [.int (a : Int), .int (b : Int)] ∧ (1 ≤ a ∧ a ≤ N) ∧ 1 ≤ b ∧ b ≤ N
def postJ (j : Nat → Nat → Nat) : List V → V → Prop := fun vs u => ∀ a b : Nat, vs = [.int (a : Int), .int (b : Int)] → u = .int (j a b : Nat)
def preP (N : Nat) : List V → Prop := fun vs => ∃ (c a : Nat) (k : Int), vs = [.str (sL [c]), .int (a : Int), .int k] ∧ StOk (.pw c k) ∧ 1 ≤ a ∧ a ≤ N
def postP (pw : Nat → Nat → Int → Nat) : List V → V → Prop := fun vs u => ∀ (c a : Nat) (k : Int), vs = [.str (sL [c]), .int (a : Int), .int k] → u = .int (pw c a k : Nat)
def spCompE (P : Program) (w : World) (K : PySem.W.Frag) (mg : Str → Option Value) (base : Heap) (T : List (Addr × Str)) (k : Nat) : Sp := fun vs H Q _ => ∃ (l kd fj fp : Addr) (us : List V) (ss : List St1) (kvs : List (L2.Key × V)) (kn : List Nat → Option Nat) (N : Nat) (j : Nat → Nat → Nat) (pw : Nat → Nat → Int → Nat) (a : Nat),
  vs = [.ref l, .ref kd, .int 1, .ref fj, .ref fp] ∧ LamX.Tabs T H ∧ H l = some (.lst us) ∧ StAll K H us ss ∧ (∀ s ∈ ss, StOk s) ∧ H kd = some (.dK kvs) ∧ (∀ n b, kn n = some b → valV kvs (nmK n) = some (.int (b : Int)) ∧ 1 ≤ b ∧ b ≤ N) ∧ 1 ≤ N ∧ LamR P w K mg base T k fj (preJ N) (postJ j) H ∧ LamR P w K mg base T k fp (preP N) (postP pw) H ∧
  (∀ a b, 1 ≤ a → a ≤ N → 1 ≤ b → b ≤ N → 1 ≤ j a b ∧ j a b ≤ N) ∧ (∀ c a k, 1 ≤ a → a ≤ N → 1 ≤ pw c a k ∧ pw c a k ≤ N) ∧ evS 1 j pw kn ss [] = some [a] ∧ ss.length ≤ 10000 ∧
  ∀ H', LamX.ExtN H H' → LamX.Tabs T H' → 1 ≤ a → a ≤ N → Q (.int (a : Int)) H'
def spCVal (T : List (Addr × Str)) (K : PySem.W.Frag) (C : Addr) : Sp := fun vs H Q _ => ∃ (x l kd : Addr) (n : Nat) (us : List V) (ss : List St1) (kvs : List (L2.Key × V)) (kn : List Nat → Option Nat) (a : Nat), vs = [.ref x, .ref l, .ref kd] ∧ LamX.Tabs T H ∧ TabA H C x n ∧ n ≤ 9 ∧ H l = some (.lst us) ∧ StAll K H us ss ∧ (∀ s ∈ ss, StOk s) ∧ H kd = some (.dK kvs) ∧ (∀ m b, kn m = some b → valV kvs (nmK m) = some (.int (b : Int)) ∧ 1 ≤ b ∧ b ≤ 2 ^ n) ∧
  evS 1 (opT (tbs n)) (pwN n) kn ss [] = some [a] ∧ ss.length ≤ 10000 ∧ ∀ H', LamX.ExtN H H' → LamX.Tabs T H' → 1 ≤ a → a ≤ 2 ^ n → Q (.int (a : Int)) H'
/-- the definitions' values in the table of size n -/
structure VlA (ds : List PD) (n : Nat) (vl : List Nat → Nat) : Prop where
  uniq : (ds.map fun e => e.df.nm).Pairwise (· ≠ ·)
  at_ : ∀ (i : Nat) (z : PD), ds[i]? = some z → (∀ s ∈ z.df.ss, StOk s) ∧ z.df.ss.length ≤ 10000 ∧
    ∀ kn : List Nat → Option Nat, (∀ m, (∃ e ∈ ds.take i, e.df.nm = m) → kn m = some (vl m)) → evS 1 (opT (tbs n)) (pwN n) kn z.df.ss [] = some [vl z.df.nm]
def spPEv (T : List (Addr × Str)) (K : PySem.W.Frag) (C CU CS : Addr) : Sp := fun vs H Q E => ∃ (O : Addr → Prop) (x : Addr) (ds : List PD) (m : List Nat) (sz : Int) (vl : Nat → List Nat → Nat), vs = [.ref x, nmV m, .int sz] ∧ LamX.Tabs T H ∧ PrA K O H C x ds ∧ m.length ≤ 100 ∧
  (lkD ds m = none → ∀ (e : Addr) (H' : Hp), Same H H' → H e = none → H' e = some (.xd [("name", nmV m)]) → E (.ref CU) (some e) H') ∧
  (∀ z, lkD ds m = some z → ¬ (0 ≤ sz ∧ sz ≤ 9) → ∀ H', Same H H' → E (.ref CS) none H') ∧
  (∀ n : Nat, sz = (n : Int) → n ≤ 9 → VlA ds n (vl n)) ∧
  ∀ z, lkD ds m = some z → ∀ n : Nat, sz = (n : Int) → n ≤ 9 → 1 ≤ vl n m → vl n m ≤ 2 ^ n → ∀ H', LamX.ExtN H H' → LamX.Tabs T H' → Q (.int ((vl n m : Nat) : Int)) H'
/-- values of rows -/
def Ex.tv (n : Nat) (vl : List Nat → Nat) : Ex → Nat
  | .x => 1
  | .nm m => vl m
  | .up l r => opT (tbs n) (l.tv n vl) (r.tv n vl)
  | .pw b e k => pwN n (pwS b) (e.tv n vl) (k : Int)
theorem Ex.tv_congr {n : Nat} {vl vl' : List Nat → Nat} : ∀ {e : Ex}, (∀ m ∈ e.nms, vl m = vl' m) → e.tv n vl = e.tv n vl'
  | .x, _ => rfl
  | .nm m, h => h m (List.mem_singleton.mpr rfl)
  | .up l r, h => by
    show opT _ _ _ = opT _ _ _
    rw [tv_congr fun m hm => h m (List.mem_append_left _ hm), tv_congr (e := r) fun m hm => h m (List.mem_append_right _ hm)]
  | .pw b e k, h => by
    show pwN _ _ _ _ = pwN _ _ _ _
    rw [tv_congr (e := e) h]
theorem Ex.tv_ev {n : Nat} (vl : List Nat → Nat) (kn : List Nat → Option Nat) : ∀ {e : Ex}, (∀ m ∈ e.nms, kn m = some (vl m)) → e.ev 1 (opT (tbs n)) (pwN n) kn = some (e.tv n vl)
  | .x, _ => rfl
  | .nm m, h => h m (List.mem_singleton.mpr rfl)
  | .up l r, h => by
    show ((l.ev 1 (opT (tbs n)) (pwN n) kn).bind fun a => (r.ev 1 (opT (tbs n)) (pwN n) kn).map fun b => opT (tbs n) a b) = _
    rw [tv_ev vl kn (e := l) fun m hm => h m (List.mem_append_left _ hm), tv_ev vl kn (e := r) fun m hm => h m (List.mem_append_right _ hm)]
    rfl
  | .pw b e k, h => by
    show (e.ev 1 (opT (tbs n)) (pwN n) kn).map (fun a => pwN n (pwS b) a (k : Int)) = _
    rw [tv_ev vl kn (e := e) h]
    rfl
def rowsVl (n : Nat) : (List Nat → Nat) → List Row → List Nat → Nat
  | vl, [] => vl
  | vl, r :: rs => rowsVl n (fun m => if m = r.nm then r.e.tv n vl else vl m) rs
theorem rowsVl_old {n : Nat} {kn : List (List Nat)} {rs : List Row} (h : RowsOk kn rs) : ∀ (vl : List Nat → Nat) (m : List Nat), m ∈ kn → rowsVl n vl rs m = vl m := by
  induction h with
  | nil => exact fun vl m _ => rfl
  | @cons kn r rs a b c d e f _ ih =>
    intro vl m hm
    show rowsVl n (fun m => if m = r.nm then r.e.tv n vl else vl m) rs m = vl m
    rw [ih _ m (List.mem_append_left _ hm)]
    exact if_neg (fun z : m = r.nm => b (by rw [← z]; exact hm))
theorem rowsVl_at {n : Nat} {kn : List (List Nat)} {rs : List Row} (h : RowsOk kn rs) : ∀ (vl : List Nat → Nat), ∀ r ∈ rs, rowsVl n vl rs r.nm = r.e.tv n (rowsVl n vl rs) := by
  induction h with
  | nil => exact fun vl r hr => nomatch hr
  | @cons kn r rs a b c d e f hR ih =>
    intro vl r' hr'
    rcases List.mem_cons.mp hr' with rfl | hr'
    · show rowsVl n (fun m => if m = r'.nm then r'.e.tv n vl else vl m) rs r'.nm = _
      rw [rowsVl_old hR _ r'.nm (List.mem_append_right _ (List.mem_singleton.mpr rfl)), if_pos rfl]
      refine Ex.tv_congr fun m hm => ?_
      show vl m = rowsVl n (fun m => if m = r'.nm then r'.e.tv n vl else vl m) rs m
      rw [rowsVl_old hR _ m (List.mem_append_left _ (d m hm))]
      exact (if_neg (fun z : m = r'.nm => b (by rw [← z]; exact d m hm))).symm
    · exact ih _ r' hr'
theorem vla_snoc {ds : List PD} {n : Nat} {vl : List Nat → Nat} {r : Row} {s d : Int} (h : VlA ds n vl) (hn : r.nm ∉ ds.map fun e => e.df.nm) (ho : r.e.ok) (hk : ∀ m ∈ r.e.nms, m ∈ ds.map fun e => e.df.nm) (hl : r.e.txt.length < 10000) (ht : vl r.nm = r.e.tv n vl) : VlA (ds ++ [⟨r.df, s, d⟩]) n vl := by
  refine ⟨?_, fun i z hz => ?_⟩
  · rw [List.map_append]
    refine List.pairwise_append.mpr ⟨h.uniq, List.pairwise_singleton .., fun x hx y hy => ?_⟩
    rw [List.mem_singleton.mp hy]
    exact fun e => hn (by rw [show r.nm = x from e.symm]; exact hx)
  · by_cases hi : i < ds.length
    · rw [List.getElem?_append_left hi] at hz
      rw [List.take_append_of_le_length (Nat.le_of_lt hi)]
      exact h.at_ i z hz
    · have hi2 := (List.getElem?_eq_some_iff.mp hz).1
      rw [List.length_append, List.length_singleton] at hi2
      obtain rfl : i = ds.length := by omega
      rw [List.getElem?_append_right (Nat.le_refl _), Nat.sub_self] at hz
      cases hz
      rw [List.take_append_of_le_length (Nat.le_refl _), List.take_length]
      have sl := Ex.st_len ho
      refine ⟨Ex.st_ok ho, by show r.e.st.length ≤ 10000; omega, fun kn hkn => ?_⟩
      have e1 := evS_ex 1 (opT (tbs n)) (pwN n) kn r.e (r.e.tv n vl) [] [] (Ex.tv_ev vl kn fun m hm => ?_)
      · rw [List.append_nil] at e1
        show evS 1 (opT (tbs n)) (pwN n) kn r.e.st [] = some [vl r.nm]
        rw [ht]
        exact e1
      · obtain ⟨z, hz1, hz2⟩ := List.mem_map.mp (hk m hm)
        exact hkn m ⟨z, hz1, hz2⟩
theorem vla_rows {n : Nat} {kn : List (List Nat)} {rs : List Row} (h : RowsOk kn rs) : ∀ (ds : List PD) (vl : List Nat → Nat), (ds.map fun e => e.df.nm) = kn → VlA ds n vl → (∀ r ∈ rs, vl r.nm = r.e.tv n vl) → VlA (rowsD ds rs) n vl := by
  induction h with
  | nil => exact fun ds vl _ h _ => h
  | @cons kn r rs a b c d e f _ ih =>
    intro ds vl hk hT ht
    show VlA (rowsD (ds ++ [⟨r.df, (r.e.ev 1 sJ sP fun n => (lkD ds n).map (·.sz)).getD 0, (r.e.ev 0 dJ dP fun n => (lkD ds n).map (·.dp)).getD 0⟩]) rs) n vl
    refine ih _ vl ?_ (vla_snoc hT (by rw [hk]; exact b) c (fun m hm => by rw [hk]; exact d m hm) (by omega) (ht r List.mem_cons_self)) fun r' hr' => ht r' (List.mem_cons_of_mem _ hr')
    rw [List.map_append, hk]
    rfl
theorem vla_nil (n : Nat) (vl : List Nat → Nat) : VlA [] n vl := ⟨.nil, fun i z hz => nomatch hz⟩
theorem lk_at2 {ds : List PD} (hp : (ds.map fun e => e.df.nm).Pairwise (· ≠ ·)) {i : Nat} {z : PD} (h : ds[i]? = some z) : lkD ds z.df.nm = some z := by
  obtain ⟨z2, h2⟩ := lk_some (ds := ds) (n := z.df.nm) (List.mem_map.mpr ⟨z, List.mem_of_getElem? h, rfl⟩)
  obtain ⟨m2, n2⟩ := lk_mem h2
  obtain ⟨j, hj⟩ := List.getElem?_of_mem m2
  have nm : ∀ {k : Nat} {y : PD}, ds[k]? = some y → (ds.map fun e => e.df.nm)[k]? = some y.df.nm := fun e => by
    rw [List.getElem?_map, e]
    rfl
  rcases Nat.lt_trichotomy i j with l | l | l
  · obtain ⟨a1, a2⟩ := List.getElem?_eq_some_iff.mp (nm h)
    obtain ⟨b1, b2⟩ := List.getElem?_eq_some_iff.mp (nm hj)
    have := List.pairwise_iff_getElem.mp hp i j a1 b1 l
    rw [a2, b2] at this
    exact absurd n2.symm this
  · rw [← l, h] at hj
    cases hj
    exact h2
  · obtain ⟨a1, a2⟩ := List.getElem?_eq_some_iff.mp (nm h)
    obtain ⟨b1, b2⟩ := List.getElem?_eq_some_iff.mp (nm hj)
    have := List.pairwise_iff_getElem.mp hp j i b1 a1 l
    rw [a2, b2] at this
    exact absurd n2 this
/-- the values of the first k definitions -/
def knV (ds : List PD) (vl : List Nat → Nat) (k : Nat) (m : List Nat) : Option Nat := if m ∈ (ds.take k).map (fun e => e.df.nm) then some (vl m) else none
section OPN
open PySem PySem.Spec PyProof.Rows
/-! ### o.m(e, .., k = v, ..) -/
def tMethN (C : Addr) (m : Str) (n l : Nat) (sp : Sp) (gV : List V → List V → List V) (E : XK) (ta : TE) (t tk : L2.TA) : TE := fun σ H Q => ta σ H fun x H1 => ∃ (a dx : Addr) (fs : List (Str × V)), x = .ref a ∧ H1 a = some (.ins C dx fs) ∧ fs.lookup m = none ∧ t σ H1 fun vs H2 => tk σ H2 fun zs H3 => (V.ref a :: vs).length = n ∧ zs.length = l ∧ sp (gV (.ref a :: vs) zs) H3 Q E
theorem pe_methN {X : Cx} {CX : CXT} {k n : Nat} {f C : Addr} {fd : FuncData} {ps ks : List Str} {sp : Sp} {E : XK} {m : Str} {apos pos : Pos} {o e : Expr} {es : List Expr} {kws : List Keyword} {ta : TE} {t tk : L2.TA} {g : List Value → List Value → List Value} {gV : List V → List V → List V} {pl : Sem Bool}
    (he : PE X o ta) (c : Cls X.K C) (hm : Meth X.K C m f) (F : FnOk X.prog X.w X.K X.mg X.base CX k f fd ps sp) (hr : Room k X.A) (hb : KBn X.K fd ps n ks g gV) (hx : Passes CX X E) (ha : PA X (e :: es) t) (hkw : PK X kws tk)
    (hall : (backToKw pos (keywordEach kws X.env)).all (·.1.isSome) = true := by rfl) (hks : (backToKw pos (keywordEach kws X.env)).filterMap (·.1) = ks := by rfl) (hst : starEach (e :: es) X.env = (false, eval e X.env) :: starEach es X.env := by rfl)
    (hpl : ((backTo pos (starEach (e :: es) X.env)).any (·.1) || (backToKw pos (keywordEach kws X.env)).any (·.1.isNone)) = false := by rfl)
    (ht : eval (.Call (.Attribute o m apos) (e :: es) kws pos) X.env = (do
      let ov ← eval o X.env
      standAt apos.atName
      let (f, first) ← holding [ov] (getMethod ov m pl)
      callWith pos f first (backTo pos (starEach (e :: es) X.env)) (backToKw pos (keywordEach kws X.env))) := by rfl) :
    PE X (.Call (.Attribute o m apos) (e :: es) kws pos) (tMethN C m n ks.length sp gV E ta t tk) := by
  refine ⟨fun pins s σ H Q I h => ?_⟩
  refine PySem.W.methodCall_KW (pl := pl) (thn (he.run pins s σ H _ I h) fun u s1 ⟨x, H1, I1, rx, a, dx, fs, ex, ea, l, q⟩ => ?_) ht
  subst ex
  obtain rfl : u = Value.ref a := rx
  refine getmeth_ok I1 ea c hm l ?_
  refine PySem.W.callWith_KW (first := [.ref a]) (h₀ := X.base) I.ok.mod.kin hm.kp hall (thn (ha.run pos pins s1 σ H1 _ I1 q) fun us s2 ⟨vs, H2, I2, r, q2⟩ => ?_) hpl hst
  refine thn (hkw.run pos pins s2 σ H2 _ I2 q2) fun ws s3 ⟨zs, H3, I3, rz, l1, l2, q3⟩ => ⟨I3.kIn, ?_⟩
  rw [hks]
  exact run_fnN (us := .ref a :: us) (vs := .ref a :: vs) F hr hb hx I3 (.cons rfl r) rz l1 l2 q3
end OPN
section OPN
open PySem PySem.Spec PyProof.Rows
theorem pe_methN0 {X : Cx} {CX : CXT} {k n : Nat} {f C : Addr} {fd : FuncData} {ps ks : List Str} {sp : Sp} {E : XK} {m : Str} {apos pos : Pos} {o : Expr} {kws : List Keyword} {ta : TE} {tk : L2.TA} {g : List Value → List Value → List Value} {gV : List V → List V → List V} {pl : Sem Bool}
    (he : PE X o ta) (c : Cls X.K C) (hm : Meth X.K C m f) (F : FnOk X.prog X.w X.K X.mg X.base CX k f fd ps sp) (hr : Room k X.A) (hb : KBn X.K fd ps n ks g gV) (hx : Passes CX X E) (hkw : PK X kws tk)
    (hall : (backToKw pos (keywordEach kws X.env)).all (·.1.isSome) = true := by rfl) (hks : (backToKw pos (keywordEach kws X.env)).filterMap (·.1) = ks := by rfl)
    (hpl : ((backTo pos (starEach [] X.env)).any (·.1) || (backToKw pos (keywordEach kws X.env)).any (·.1.isNone)) = false := by rfl)
    (ht : eval (.Call (.Attribute o m apos) [] kws pos) X.env = (do
      let ov ← eval o X.env
      standAt apos.atName
      let (f, first) ← holding [ov] (getMethod ov m pl)
      callWith pos f first (backTo pos (starEach [] X.env)) (backToKw pos (keywordEach kws X.env))) := by rfl) :
    PE X (.Call (.Attribute o m apos) [] kws pos) (tMethN C m n ks.length sp gV E ta tNil tk) := by
  refine ⟨fun pins s σ H Q I h => ?_⟩
  refine PySem.W.methodCall_KW (pl := pl) (thn (he.run pins s σ H _ I h) fun u s1 ⟨x, H1, I1, rx, a, dx, fs, ex, ea, l, q⟩ => ?_) ht
  subst ex
  obtain rfl : u = Value.ref a := rx
  refine getmeth_ok I1 ea c hm l ?_
  refine PySem.W.callWith_KW0 (first := [.ref a]) (h₀ := X.base) I.ok.mod.kin hm.kp hall ?_ hpl
  refine thn (hkw.run pos pins s1 σ H1 _ I1 q) fun ws s3 ⟨zs, H3, I3, rz, l1, l2, q3⟩ => ⟨I3.kIn, ?_⟩
  rw [hks]
  exact run_fnN (us := [.ref a]) (vs := [.ref a]) F hr hb hx I3 (.cons rfl .nil) rz l1 l2 q3
end OPN
/-! ### definitions one by one -/
def spLStK (K : PySem.W.Frag) : Sp := fun vs H Q _ => ∃ (kn : List (List Nat)) (l : Addr) (us : List V) (rs : List Row), vs = [.ref l] ∧ H l = some (.lst us) ∧ RwAll K H us rs ∧ RowsOk kn rs ∧ rs.length ≤ 40 ∧ ∀ H', Same H H' → Q (.str (sL (rowsT rs))) H'
def spRD (K : PySem.W.Frag) : Sp := fun vs H Q _ => ∃ (cs : List Nat) (df : Df) (dE : Nat), vs = [.str (sL cs)] ∧ cs.length ≤ 10000 ∧ DefR cs 0 0 df cs.length dE ∧ dE ≤ 30 ∧ ∀ (v : V) (H' : Hp), Same H H' → DfV K H H' v df → Q v H'
def spPAdd (T : List (Addr × Str)) (K : PySem.W.Frag) (C : Addr) : Sp := fun vs H Q _ => ∃ (O : Addr → Prop) (x : Addr) (cs : List Nat) (ds res : List PD) (df : Df) (dE : Nat), vs = [.ref x, .str (sL cs)] ∧ PrA K O H C x ds ∧ (∀ b, O b → H b ≠ none) ∧ LamX.Tabs T H ∧ cs.length ≤ 10000 ∧ DefR cs 0 0 df cs.length dE ∧ dE ≤ 30 ∧ Inc ds [df] res ∧ ds.length + 1 ≤ 30 ∧
  ∀ H', PrA K (fun b => O b ∨ H b = none) H' C x res → LamX.Tabs T H' → FrO O H H' → Tp H H' → Q .non H'
theorem rowsD_app : ∀ (rs ss : List Row) (ds : List PD), rowsD ds (rs ++ ss) = rowsD (rowsD ds rs) ss
  | [], ss, ds => rfl
  | r :: rs, ss, ds => rowsD_app rs ss _
theorem RowsOk.split {kn : List (List Nat)} {rs : List Row} (h : RowsOk kn rs) : ∀ k : Nat, RowsOk kn (rs.take k) ∧ RowsOk (kn ++ (rs.take k).map Row.nm) (rs.drop k) := by
  induction h with
  | nil =>
    intro k
    rw [List.take_nil, List.drop_nil]
    exact ⟨.nil, .nil⟩
  | @cons kn r rs a b c d e f hR ih =>
    intro k
    cases k with
    | zero =>
      rw [List.take_zero, List.drop_zero, List.map_nil, List.append_nil]
      exact ⟨.nil, .cons a b c d e f hR⟩
    | succ k =>
      obtain ⟨h1, h2⟩ := ih k
      rw [List.append_assoc] at h2
      exact ⟨.cons a b c d e f h1, h2⟩
theorem RowsOk.one {kn : List (List Nat)} {r : Row} {rs : List Row} (h : RowsOk kn (r :: rs)) : RowsOk kn [r] := by
  cases h with
  | cons a b c d e f hR => exact .cons a b c d e f .nil
theorem def_one {r : Row} (h : r.ok) : ∃ dE, dE ≤ 30 ∧ DefR (rowsT [r]) 0 0 r.df (rowsT [r]).length dE := by
  have e : rowsT [r] = r.txt ++ [] := rfl
  obtain ⟨d', h1, h2⟩ := def_row (cs := rowsT [r]) (p := 0) (d := 0) (rest := []) h (Nat.zero_le _) (by rw [List.drop_zero, e]) (fun c t z => nomatch z) (fun c t z => nomatch z)
  rw [Nat.zero_add] at h2
  refine ⟨d', h1, ?_⟩
  rw [show (rowsT [r]).length = r.txt.length by rw [e, List.append_nil]]
  exact h2
theorem RwAll.cut {K : PySem.W.Frag} {H : Hp} {us : List V} {rs : List Row} (h : RwAll K H us rs) : ∀ k : Nat, RwAll K H (us.take k) (rs.take k) ∧ RwAll K H (us.drop k) (rs.drop k) := by
  induction h with
  | nil =>
    intro k
    rw [List.take_nil, List.take_nil, List.drop_nil, List.drop_nil]
    exact ⟨.nil, .nil⟩
  | @cons v s vs ss h1 h2 ih =>
    intro k
    cases k with
    | zero => exact ⟨.nil, .cons h1 h2⟩
    | succ k =>
      obtain ⟨i1, i2⟩ := ih k
      exact ⟨.cons h1 i1, i2⟩
section
variable {P : Program} {w : World} {K : PySem.W.Frag} {mg : Str → Option Value} {base : Heap} {f : Addr} {fd : FuncData}
abbrev s_entry : Stmt := top 22
theorem sc_entry : FnScope ["row", "element"] ["row", "element"] (defScope s_entry) := ⟨rfl, rfl, rfl, by decide +kernel, rfl, by decide +kernel, by decide +kernel⟩
theorem ok_entry (d : D K mg "entry" s_entry ["row", "element"] f fd) (B : Blt mg) : FnOk P w K mg base CX0 1 f fd ["row", "element"] spEntry := by
  refine d.F.ok sc_entry (fun vs H Q E h => ?_) (fun cdv A outer s H vs Q E hr h => ?_)
  · obtain ⟨_, _, _, rfl, _⟩ := h
    rfl
  obtain ⟨a, r, b, rfl, ha, h0, hb, q⟩ := h
  refine ⟨_, (pss_one (ps_ret (pe_ix ix_list (pv 0) (pe_op op_mod (pe_op op_sub (pv 1) pe_int) (pe_callB call_len_seq (by rfl) B.len PySem.boot_len (pa_cons (pv 0) pa_nil))) (fun _ _ => rfl)))), ?_⟩
  exact ⟨_, rfl, _, rfl, _, _, rfl, rfl, _, rfl, a, nts r, rfl, .inl (SqL.of ha), _, _, rfl, rfl, (by rw [nts_len]; omega), a, nts r, _, _, rfl, rfl, SqL.of ha, ent_at h0 hb, q⟩

abbrev s_rows_to_periods : Stmt := top 21
theorem sc_rows_to_periods : FnScope ["last", "rows", "element", "values"] ["last"] (defScope s_rows_to_periods) := ⟨rfl, rfl, rfl, by decide +kernel, rfl, by decide +kernel, by decide +kernel⟩
theorem ok_rows_to_periods {fe : Addr} {fed : FuncData} (d : D K mg "rows_to_periods" s_rows_to_periods ["last"] f fd) (B : Blt mg) (d_entry : D K mg "entry" s_entry ["row", "element"] fe fed) : FnOk P w K mg base CX0 2 f fd ["last"] spRows := by
  have G_entry : FnOk P w K mg base CX0 1 fe fed ["row", "element"] spEntry := ok_entry d_entry B
  refine d.F.ok sc_rows_to_periods (fun vs H Q E h => ?_) (fun cdv A outer s H vs Q E hr h => ?_)
  · obtain ⟨_, _, rfl, _⟩ := h
    rfl
  obtain ⟨N, T, rfl, g, hN, q⟩ := h
  have g0 := g.pos
  have gl := g.len
  refine ⟨_, (pss_cons (ps_set (i := 1) sc_rows_to_periods.nd rfl (Or.inl rfl) (pe_op op_rep (pe_lst (pa_cons (pe_lst pa_nil) pa_nil)) (pv 0)))
 (pss_cons (ps_asg (pe_listRg (by rfl) rfl B.list (prg_2 (by rfl) B.range pe_int (pe_op op_add (pv 0) pe_int))) (pg_sub (pv 1) (pe_op op_sub (pv 0) pe_int) set_list))
 (pss_cons (ps_for PassesOwn.never rfl (pi_range3 (by rfl) B.range (pa_cons (pe_op op_sub (pv 0) pe_int) (pa_cons pe_int (pa_cons (pe_un un_neg pe_int) pa_nil)))) (pg_name (i := 2) sc_rows_to_periods.nd rfl (Or.inl rfl))
  (pss_cons (ps_set (i := 3) sc_rows_to_periods.nd rfl (Or.inl rfl) (pe_lst (pa_cons (pe_op op_add (pv 2) pe_int) pa_nil)))
 (pss_cons (ps_while PassesOwn.never (pt_cmpR op_ne (pe_ix ix_list (pv 3) (pe_un un_neg pe_int) (fun _ _ => rfl)) (pv 0) (nomark _)) (pss_one (ps_expr (pe_bm PySem.F.plainAttrs_list PySem.F.slot_list_append PySem.F.type_list_append mt_append (pv 3) (pa_cons (pe_call G_entry (hr.mono (by decide)) rfl d_entry.m d_entry.F.kp d_entry.b .nil pass0 (pa_cons (pe_ix ix_list (pv 1) (pe_op op_sub (pe_ix ix_list (pv 3) (pe_un un_neg pe_int) (fun _ _ => rfl)) pe_int) (fun _ _ => rfl)) (pa_cons (pe_op op_add (pv 2) pe_int) pa_nil))) pa_nil)))))
 (pss_one (ps_asg (pv 3) (pg_sub (pv 1) (pe_op op_sub (pv 2) pe_int) set_list))))))
 (pss_one (ps_ret (pv 1)))))), ?_⟩
  refine ⟨zero_le', fun p0 h0 => ⟨one_le, fun p1 h1 => ?_⟩⟩
  refine ⟨_, rfl, p1, _, _, rfl, rfl, upd_same, by omega, by omega, (by rw [sizeLine_eq]; show 1 * (N : Int).toNat ≤ _; omega), fun ra hra => ?_⟩
  rw [flat_one, Int.toNat_natCast]
  have s2 := ((Same.new h0 (.lst [])).trans (Same.new h1 (.lst [.ref p0]))).trans (Same.new hra (.lst (List.replicate N (V.ref p0))))
  have ra0 : H ra = none := ((Same.new h0 (.lst [])).trans (Same.new h1 (.lst [.ref p0]))).free hra
  have l2 : (upd (upd (upd H p0 (.lst [])) p1 (.lst [.ref p0])) ra (.lst (List.replicate N (V.ref p0)))) ra = some (.lst (List.replicate N (V.ref p0))) := upd_same
  generalize (upd (upd (upd H p0 (.lst [])) p1 (.lst [.ref p0])) ra (.lst (List.replicate N (V.ref p0)))) = H2 at *
  refine ⟨_, rfl, _, _, rfl, rfl, 1, _, rfl, rfl, RgOk.of_le (by omega) (by omega) (by omega) (by omega), fun rl hrl => ?_⟩
  rw [rgV_nts]
  have s3 := s2.trans (Same.new hrl (.lst (nts (List.range' 1 N))))
  have l3 := Same.new hrl (.lst (nts (List.range' 1 N))) _ _ l2
  have m3 : (upd H2 rl (.lst (nts (List.range' 1 N)))) rl = some (.lst (nts (List.range' 1 N))) := upd_same
  have nl : rl ≠ ra := fun z => by rw [z, l2] at hrl; cases hrl
  generalize (upd H2 rl (.lst (nts (List.range' 1 N)))) = H3 at *
  refine ⟨_, rfl, _, rfl, _, _, rfl, rfl, ra, _, _, N - 1, rfl, rfl, l3, (by rw [show (N : Int) - 1 = ((N - 1 : Nat) : Int) by omega, List.length_replicate]; exact ixN_nat (by omega)), ?_⟩
  have R0 : RowsAt H3 ra (List.replicate N p0) T N := ⟨by rw [List.map_replicate]; exact l3, by rw [List.length_replicate]; exact gl.symm, fun i a h1 h2 => by
    obtain ⟨z, _⟩ := List.getElem?_eq_some_iff.mp h2
    rw [List.length_replicate] at z
    omega⟩
  have R1 := R0.set (j := N - 1) (rl := rl) (by omega) (by omega) (by rw [g.top]; exact m3) nl fun i a h1 h2 => by
    obtain ⟨z, _⟩ := List.getElem?_eq_some_iff.mp h2
    rw [List.length_replicate] at z
    omega
  rw [List.map_replicate] at R1
  have s4 : Same H (upd H3 ra (.lst ((List.replicate N (V.ref p0)).set (N - 1) (.ref rl)))) := fun b o e => by
    rw [upd_ne (fun z => by rw [z, ra0] at e; cases e)]
    exact s3 _ _ e
  generalize (upd H3 ra (.lst ((List.replicate N (V.ref p0)).set (N - 1) (.ref rl)))) = H4 at *
  refine ⟨_, rfl, _, _, rfl, rfl, _, rfl, _, _, _, _, rfl, RgC.neg (by omega) (by omega) (by omega) (by omega), for_rangeC (lo := (N : Int) - 1) (c := -1) (n := ((N : Int) - 1 - 0).toNat) (fun i σ H' => ∃ (as : List Addr) (x2 x3 : Option V), σ = [some (.int N), some (.ref ra), x2, x3] ∧ Same H H' ∧ RowsAt H' ra as T (N - 1 - i)) ⟨_, none, none, rfl, s4, R1⟩ ?_ ?_⟩
  · rintro i σ H5 hi ⟨as, x2, x3, rfl, s5, R5⟩
    obtain ⟨e, he⟩ : ∃ e, e = N - 1 - i := ⟨_, rfl⟩
    have he1 : 1 ≤ e := by omega
    have he2 : e < N := by omega
    rw [← he] at R5
    rw [show (N : Int) - 1 + (i : Int) * (-1) = (e : Int) by omega]
    have rg := g.row e he1 he2
    generalize hrr : T.getD (e - 1) [] = r at rg
    refine ⟨_, rfl, _, _, rfl, rfl, one_le, fun p hp => ?_⟩
    have hp0 : H p = none := s5.free hp
    have hne := rg.ne
    have f1 : (upd H5 p (.lst [V.int ((e : Int) + 1)])) p = some (.lst (nts (r.take 1))) := by
      rw [upd_same, take_nts hne, rg.hd]
      rfl
    refine ⟨fun m σ H' => ∃ j, j < r.length ∧ m = r.length - 1 - j ∧ σ = [some (.int N), some (.ref ra), some (.int e), some (.ref p)] ∧ But p H5 H' ∧ H' p = some (.lst (nts (r.take (j + 1)))), ⟨_, 0, hne, rfl, rfl, But.set, f1⟩, ?_⟩
    rintro m σ H6 ⟨j, hj, rfl, rfl, b6, l6⟩
    have R6 := R5.but b6 hp
    rw [take_nts hj] at l6
    refine ⟨_, rfl, _, rfl, p, _, _, _, rfl, rfl, SqL.here l6, atI_last _ _, _, rfl, rfl, _, rfl, ?_⟩
    by_cases c : j + 1 < r.length
    · obtain ⟨c1, c2, c3⟩ := rg.step j c
      refine ite_yes (by rw [decide_eq_false (fun z => by injection z with z; omega)]; rfl) ⟨fun σ H' => σ = [some (.int N), some (.ref ra), some (.int e), some (.ref p)] ∧ But p H5 H' ∧ H' p = some (.lst (nts (r.take (j + 2)))), fun σ' H'' h => ⟨r.length - 1 - (j + 1), by omega, j + 1, c, rfl, h⟩, ?_⟩
      obtain ⟨a, ha⟩ : ∃ a, as[r.getD j 0 - 1]? = some a := ⟨_, List.getElem?_eq_getElem (by rw [R6.n]; omega)⟩
      have hrow := R6.r _ a (by omega) ha
      refine ⟨_, rfl, .inl ⟨rfl, _, SqL.here l6⟩, _, rfl, _, rfl, _, rfl, p, _, _, _, rfl, rfl, SqL.here l6, atI_last _ _, _, _, rfl, rfl, ra, _, _, .ref a, rfl, rfl, SqL.of R6.l, ?_, _, rfl, _, _, rfl, rfl, a, T.getD (r.getD j 0 - 1) [], e + 1, rfl, hrow, (g.row (r.getD j 0) (by omega) c2).ne, by omega, p, _, _, rfl, rfl, l6, ?_, rfl, ?_, ?_⟩
      · rw [show ((r.getD j 0 : Nat) : Int) - 1 = ((r.getD j 0 - 1 : Nat) : Int) by omega]
        refine atI_nat ?_
        rw [List.getElem?_map, ha]
        rfl
      · have z1 : r.length ≤ N := Nat.le_of_dvd g0 (Nat.dvd_of_mod_eq_zero rg.dv)
        rw [List.length_append, nts_len, List.length_take, sizeLine_eq]
        show min j r.length + 1 < _
        omega
      · exact b6.trans But.set
      · rw [upd_same, take_nts c, take_nts hj, c3]
    · have hl : r.getD j 0 = N := by
        rw [show j = r.length - 1 by omega]
        exact rg.lst
      refine ite_no (by rw [hl, decide_eq_true rfl]; rfl) ?_
      have np : p ≠ ra := ne_of_none R5.l hp |>.symm
      refine ⟨_, rfl, _, rfl, _, rfl, _, _, rfl, rfl, ra, _, _, e - 1, rfl, rfl, R6.l, ?_, as.set (e - 1) p, some (.int e), some (.ref p), rfl, ?_, ?_⟩
      · rw [show (e : Int) - 1 = ((e - 1 : Nat) : Int) by omega, List.length_map]
        exact ixN_nat (by rw [R6.n]; omega)
      · intro b o hb
        rw [upd_ne (fun z => by rw [z, ra0] at hb; cases hb)]
        exact b6 _ _ (fun z => by rw [z, hp0] at hb; cases hb) (s5 _ _ hb)
      · rw [show N - 1 - (i + 1) = e - 1 by omega]
        refine R6.set (by omega) (by omega) ?_ np fun i a h1 h2 => R6.ne (by omega) h1 h2
        rw [hrr, l6, ← take_nts hj, List.take_of_length_le (by omega)]
  · rintro σ H5 ⟨as, x2, x3, rfl, s5, R5⟩
    refine ⟨_, rfl, q ra as _ s5 ra0 ?_⟩
    rw [show N - 1 - ((N : Int) - 1 - 0).toNat = 0 by omega] at R5
    exact R5

abbrev s_TInit : Stmt := inClass (top 20) 0
abbrev s_TLen : Stmt := inClass (top 20) 1
abbrev s_TChk : Stmt := inClass (top 20) 4
abbrev s_TApp : Stmt := inClass (top 20) 5
theorem sc_TInit : FnScope ["self", "size"] ["self", "size"] (defScope s_TInit) := ⟨rfl, rfl, rfl, by decide +kernel, rfl, by decide +kernel, by decide +kernel⟩
theorem sc_TLen : FnScope ["self"] ["self"] (defScope s_TLen) := ⟨rfl, rfl, rfl, by decide +kernel, rfl, by decide +kernel, by decide +kernel⟩
theorem sc_TChk : FnScope ["self", "element"] ["self", "element"] (defScope s_TChk) := ⟨rfl, rfl, rfl, by decide +kernel, rfl, by decide +kernel, by decide +kernel⟩
theorem sc_TApp : FnScope ["self", "one", "other"] ["self", "one", "other"] (defScope s_TApp) := ⟨rfl, rfl, rfl, by decide +kernel, rfl, by decide +kernel, by decide +kernel⟩
theorem TabA.len {H : Hp} {C x : Addr} {n : Nat} (h : TabA H C x n) (hn : n ≤ 9) : ∃ (dx ra : Addr) (as : List Addr), H x = some (.ins C dx (tbf n ra)) ∧ RowsAt H ra as (tbs n) 0 ∧ as.length = 2 ^ n := by
  obtain ⟨dx, ra, as, h1, h2⟩ := h
  exact ⟨dx, ra, as, h1, h2, by rw [h2.n]; exact (good_tbs hn).len⟩
theorem ok_TLen {C : Addr} (F : Fun K "__len__" "Table.__len__" s_TLen f fd) (T : TabT K mg C) (B : Blt mg) : FnOk P w K mg base CX0 1 f fd ["self"] (spTLen C) := by
  refine F.ok sc_TLen (fun vs H Q E h => ?_) (fun cdv A outer s H vs Q E hr h => ?_)
  · obtain ⟨_, _, rfl, _⟩ := h
    rfl
  obtain ⟨x, n, rfl, ht, hn, q⟩ := h
  obtain ⟨dx, ra, as, hx, hR, hl⟩ := ht.len hn
  refine ⟨_, pss_one (ps_ret (pe_callB call_len_seq (by rfl) B.len PySem.boot_len (pa_cons (pe_fld (pv 0) rfl) pa_nil))), ?_⟩
  refine ⟨_, rfl, x, C, dx, _, _, rfl, hx, T.cl, T.n2, tbf_r _ _, ra, _, rfl, .inl (SqL.of hR.l), ?_⟩
  rw [List.length_map, hl]
  exact q
theorem ok_TChk {C CE : Addr} (F : Fun K "check_element" "Table.check_element" s_TChk f fd) (T : TabT K mg C) (B : Blt mg) (EE : ErrC K mg "InvalidElement" CE) : FnOk P w K mg base (L2N.CX P w) 2 f fd ["self", "element"] (spTChk C CE) := by
  refine Fun.okN F sc_TChk (fun vs H Q E h => ?_) (fun cdv A outer s H vs Q E hr h => ?_)
  · obtain ⟨_, _, _, rfl, _⟩ := h
    rfl
  obtain ⟨x, n, a, rfl, ht, hn, q, qe⟩ := h
  obtain ⟨dx, ra, as, hx, hR, hl⟩ := ht.len hn
  refine ⟨_, pss_one (ps_if (pt_not (pt_chain op_le op_le pe_int (pv 1) (pe_callB call_len_seq (by rfl) B.len PySem.boot_len (pa_cons (pe_fld (pv 0) rfl) pa_nil)))) (pss_one (L2N.ps_raise rfl (L2N.takes_of rfl rfl rfl rfl) (L2N.pmk_own PySem.F.excBase_ValueError EE.q EE.g EE.k (raises_own EE.b EE.t) (by exact rfl)))) pss_nil), ?_⟩
  refine ⟨_, rfl, _, _, rfl, rfl, _, rfl, ?_⟩
  refine ite2 (fun c1 => ?_) (fun c1 => ?_)
  · have c1 : 1 ≤ a := of_decide_eq_true c1
    refine ⟨_, rfl, x, C, dx, _, _, rfl, hx, T.cl, T.n2, tbf_r _ _, ra, _, rfl, .inl (SqL.of hR.l), ?_⟩
    rw [List.length_map, hl]
    refine ⟨_, _, rfl, rfl, _, rfl, ?_⟩
    refine ite2 (fun c2 => ?_) (fun c2 => ?_)
    · exact qe fun z => not_dec c2 z.2
    · exact q c1 (yes_dec c2)
  · have c1 : ¬ 1 ≤ a := fun z => by rw [decide_eq_true z] at c1; exact c1 rfl
    exact ⟨_, rfl, qe fun z => c1 z.1⟩
theorem ok_TInit {C CS fr fe : Addr} {frd fed : FuncData} {tk : Tok} (F : Fun K "__init__" "Table.__init__" s_TInit f fd) (T : TabT K mg C) (B : Blt mg) (ES : ErrC K mg "InvalidSize" CS) (MT : mg "MAX_TABLE" = some (.int 9 tk)) (d_rows : D K mg "rows_to_periods" s_rows_to_periods ["last"] fr frd) (d_entry : D K mg "entry" s_entry ["row", "element"] fe fed) : FnOk P w K mg base (L2N.CX P w) 4 f fd ["self", "size"] (spTInit C CS) := by
  have GR : FnOk P w K mg base CX0 2 fr frd ["last"] spRows := ok_rows_to_periods d_rows B d_entry
  refine Fun.okN F sc_TInit (fun vs H Q E h => ?_) (fun cdv A outer s H vs Q E hr h => ?_)
  · obtain ⟨_, _, _, _, rfl, _⟩ := h
    rfl
  obtain ⟨H0, x, dx, n, rfl, s0, x0, hx, q, qe⟩ := h
  refine ⟨_, pss_cons (ps_if (pt_not (pt_chain op_le op_le pe_int (pv 1) (pe_glob (v := .int 9) rfl MT ⟨_, rfl⟩))) (pss_one (L2N.ps_raise rfl (L2N.takes_of rfl rfl rfl rfl) (L2N.pmk_own PySem.F.excBase_ValueError ES.q ES.g ES.k (raises_own ES.b ES.t) (by exact rfl)))) pss_nil) (pss_cons (ps_fld (pv 0) (pv 1) rfl) (pss_one (ps_fld (pv 0) (pe_call GR (hr.mono (by decide)) rfl d_rows.m d_rows.F.kp d_rows.b .nil pass0 (pa_cons (pe_op op_shl pe_int (pv 1)) pa_nil)) rfl))), ?_⟩
  refine ⟨_, rfl, _, _, rfl, rfl, _, rfl, ?_⟩
  refine ite2 (fun c1 => ?_) (fun c1 => ?_)
  · have c1 : 0 ≤ n := of_decide_eq_true c1
    refine ⟨_, _, rfl, rfl, _, rfl, ?_⟩
    refine ite2 (fun c2 => ?_) (fun c2 => ?_)
    · exact qe fun z => not_dec c2 z.2
    · have c2 : n ≤ 9 := yes_dec c2
      obtain ⟨m, rfl⟩ : ∃ m : Nat, n = (m : Int) := ⟨n.toNat, by omega⟩
      have hm : m ≤ 9 := by omega
      refine ⟨_, rfl, _, rfl, x, C, dx, [], rfl, hx, T.cl, T.n1, (by show 0 < 1000; decide), ?_⟩
      refine ⟨_, rfl, _, _, rfl, rfl, ⟨by omega, by omega, by decide⟩, 2 ^ m, tbs m, ?_, good_tbs hm, pow_le512 hm, fun ra as H2 s2 ra0 R => ?_⟩
      · show [V.int (1 * 2 ^ (m : Int).toNat)] = [V.int ((2 ^ m : Nat) : Int)]
        rw [Int.toNat_natCast, Int.one_mul, Int.natCast_pow]
        rfl
      have hx2 := s2 _ _ (upd_same (H := H) (a := x) (o := .ins C dx (putF "size" (.int (m : Int)) [])))
      refine ⟨_, rfl, x, C, dx, _, rfl, hx2, T.cl, T.n2, (by show 1 < 1000; decide), q m rfl hm _ ?_ ⟨dx, ra, as, upd_same, R.ins hx2⟩⟩
      intro b o hb
      have nb : b ≠ x := fun z => by rw [z, x0] at hb; cases hb
      rw [upd_ne nb]
      refine s2 _ _ ?_
      rw [upd_ne nb]
      exact s0 _ _ hb
  · have c1 : ¬ 0 ≤ n := fun z => by rw [decide_eq_true z] at c1; exact c1 rfl
    exact ⟨_, rfl, qe fun z => c1 z.1⟩
theorem ok_TApp {C CE fc fe : Addr} {fcd fed : FuncData} (F : Fun K "apply" "Table.apply" s_TApp f fd) (T : TabT K mg C) (B : Blt mg) (EE : ErrC K mg "InvalidElement" CE) (FC : Fun K "check_element" "Table.check_element" s_TChk fc fcd) (bC : Binds K fcd ["self", "element"] []) (mC : Meth K C "check_element" fc) (d_entry : D K mg "entry" s_entry ["row", "element"] fe fed) :
    FnOk P w K mg base (L2N.CX P w) 3 f fd ["self", "one", "other"] (spTApp C CE) := by
  have GC : FnOk P w K mg base (L2N.CX P w) 2 fc fcd ["self", "element"] (spTChk C CE) := ok_TChk FC T B EE
  have G_entry : FnOk P w K mg base CX0 1 fe fed ["row", "element"] spEntry := ok_entry d_entry B
  refine Fun.okN F sc_TApp (fun vs H Q E h => ?_) (fun cdv A outer s H vs Q E hr h => ?_)
  · obtain ⟨_, _, _, _, rfl, _⟩ := h
    rfl
  obtain ⟨x, n, a, b, rfl, ht, hn, q, qe⟩ := h
  obtain ⟨dx, ra, as, hx, hR, hl⟩ := ht.len hn
  refine ⟨_, pss_cons (ps_expr (pe_meth (pv 0) T.cl mC GC hr bC .nil passD (pa_cons (pv 1) pa_nil))) (pss_cons (ps_expr (pe_meth (pv 0) T.cl mC GC hr bC .nil passD (pa_cons (pv 2) pa_nil))) (pss_one (ps_ret (pe_call G_entry (hr.mono (by decide)) rfl d_entry.m d_entry.F.kp d_entry.b .nil pass0 (pa_cons (pe_ix ix_list (pe_fld (pv 0) rfl) (pe_op op_sub (pv 1) pe_int) (fun _ _ => rfl)) (pa_cons (pv 2) pa_nil)))))), ?_⟩
  refine ⟨_, rfl, x, dx, _, rfl, hx, tbf_no _ _ (by decide +kernel) (by decide +kernel), _, rfl, x, n, a, rfl, ht, hn, fun a1 a2 => ?_, fun bad => qe fun z => bad z.1⟩
  refine ⟨_, rfl, x, dx, _, rfl, hx, tbf_no _ _ (by decide +kernel) (by decide +kernel), _, rfl, x, n, b, rfl, ht, hn, fun b1 b2 => ?_, fun bad => qe fun z => bad z.2⟩
  obtain ⟨a, rfl⟩ : ∃ m : Nat, a = (m : Int) := ⟨a.toNat, by omega⟩
  obtain ⟨b, rfl⟩ : ∃ m : Nat, b = (m : Int) := ⟨b.toNat, by omega⟩
  have gd := good_tbs hn
  obtain ⟨ad, had⟩ : ∃ ad, as[a - 1]? = some ad := ⟨_, List.getElem?_eq_getElem (by omega)⟩
  refine ⟨_, rfl, x, C, dx, _, _, rfl, hx, T.cl, T.n2, tbf_r _ _, _, rfl, _, _, rfl, rfl, ra, _, _, .ref ad, rfl, rfl, SqL.of hR.l, ?_, _, rfl, ad, (tbs n).getD (a - 1) [], b, rfl, hR.r _ _ (Nat.zero_le _) had, ?_, by omega, q a b rfl rfl (by omega) (by omega) (by omega) (by omega)⟩
  · rw [show (a : Int) - 1 = ((a - 1 : Nat) : Int) by omega]
    refine atI_nat ?_
    rw [List.getElem?_map, had]
    rfl
  · by_cases c : a < 2 ^ n
    · exact (gd.row a (by omega) c).ne
    · have e : a = 2 ^ n := by omega
      rw [e, gd.top, List.length_range']
      exact gd.pos
abbrev s__law_draws : Stmt := top 45
theorem sc__law_draws : FnScope ["_law_script", "_law_salt", "_law_cell"] ["_law_script"] (defScope s__law_draws) := ⟨rfl, rfl, rfl, by decide +kernel, rfl, by decide +kernel, by decide +kernel⟩
theorem ok__law_draws (d : D K mg "_law_draws" s__law_draws ["_law_script"] f fd) (B : Blt mg) : FnOk P w K mg base CX0 1 f fd ["_law_script"] (spDraws K) := by
  refine d.F.ok sc__law_draws (fun vs H Q E h => ?_) (fun cdv A outer s H vs Q E hr h => ?_)
  · obtain ⟨a, ns, rfl, _⟩ := h
    rfl
  obtain ⟨a, ns, rfl, hS, q⟩ := h
  refine ⟨_, (pss_cons (ps_set (i := 1) sc__law_draws.nd rfl (Or.inl rfl) pe_int)
 (pss_cons (ps_for PassesOwn.never rfl (pi_list (pe_slice sl_list (pv 0) po_none (po_some pe_int))) (pg_name (i := 2) sc__law_draws.nd rfl (Or.inl rfl))
  (pss_one (ps_set (i := 1) sc__law_draws.nd rfl (Or.inl rfl) (pe_op op_mod (pe_op op_add (pe_op op_add (pe_op op_mul (pv 1) pe_int) (pe_op op_mod (pv 2) pe_int)) pe_int) pe_int))))
 (pss_one (ps_ret (pe_lst (pa_cons (pe_callTy call_list_of (by rfl) B.list (by decide +kernel) (pa_cons (pe_slice sl_list (pv 0) po_none (po_some pe_int)) pa_nil)) (pa_cons pe_int (pa_cons pe_int (pa_cons (pv 1) pa_nil))))))))), ?_⟩
  refine ⟨_, rfl, 63, rfl, a, _, rfl, hS, fun p hp => ?_⟩
  rw [cut63]
  have s1 : Same H (upd H p (.lst ((ns.take 63).map V.int))) := Same.new hp _
  refine ⟨p, rfl, ⟨_, SqL.here upd_same⟩, for_list (K := K) (a := p) (xs := (ns.take 63).map V.int) (fun i σ H' => ∃ (s : Int) (v : Option V), σ = [some (.ref a), some (.int s), v] ∧ 0 ≤ s ∧ s < 2147483647 ∧ H' = upd H p (.lst ((ns.take 63).map V.int)))
    ⟨9471, none, rfl, by decide, by decide, rfl⟩ (fun i σ H' _ ⟨_, _, _, _, _, e⟩ => by rw [e]; exact SqL.here upd_same) ?_ ?_⟩
  · rintro i x σ H' hi ⟨s, v, rfl, h0, h1, rfl⟩
    obtain ⟨u, rfl⟩ : ∃ u, x = V.int u := by
      rw [List.getElem?_map] at hi
      cases e : (ns.take 63)[i]? with
      | none =>
        rw [e] at hi
        cases hi
      | some u =>
        rw [e] at hi
        exact ⟨u, (Option.some.inj hi).symm⟩
    refine ⟨_, rfl, _, _, rfl, rfl, .inl ⟨by omega, by omega⟩, _, rfl, _, _, rfl, rfl, (by show (0 : Int) < 2147483587; decide), _, _, rfl, rfl, _, _, rfl, rfl, _, _, rfl, rfl, (by show (0 : Int) < 2147483647; decide), ?_⟩
    exact ⟨_, _, rfl, Int.emod_nonneg _ (by decide), Int.emod_lt_of_pos _ (by decide), rfl⟩
  · rintro σ H' ⟨s, v, rfl, h0, h1, rfl⟩
    refine ⟨_, rfl, 63, rfl, a, _, rfl, s1.seq hS, fun p2 hp2 => ?_⟩
    rw [cut63]
    have s2 := s1.trans (Same.new hp2 (.lst ((ns.take 63).map V.int)))
    refine ⟨p2, _, rfl, .inl (SqL.here upd_same), fun c hc => ?_⟩
    have s3 := s2.trans (Same.new hc (.lst ((ns.take 63).map V.int)))
    refine ⟨_, rfl, four_le, fun r hr' => ?_⟩
    have nrc : c ≠ r := fun e => by
      rw [← e, upd_same] at hr'
      cases hr'
    refine q r _ (s3.trans (Same.new hr' _)) (s3.free hr') ⟨c, ns.take 63, 0, 0, s, upd_same, ?_, nrc, by decide, by decide, h0, h1⟩
    rw [upd_ne nrc, upd_same]

abbrev s__law_draw : Stmt := top 46
theorem sc__law_draw : FnScope ["_law_rng", "_law_amount", "_law_cell", "_law_got", "_law_seed"] ["_law_rng", "_law_amount"] (defScope s__law_draw) := ⟨rfl, rfl, rfl, by decide +kernel, rfl, by decide +kernel, by decide +kernel⟩
theorem ok__law_drawW (d : D K mg "_law_draw" s__law_draw ["_law_rng", "_law_amount"] f fd) (B : Blt mg) : FnOk P w K mg base CX0 1 f fd ["_law_rng", "_law_amount"] spDrawW := by
  refine d.F.ok sc__law_draw (fun vs H Q E h => ?_) (fun cdv A outer s H vs Q E hr h => ?_)
  · obtain ⟨_, _, _, rfl, _⟩ := h
    rfl
  obtain ⟨r, n, c, rfl, ⟨ns, i, b, s, hR, hC, ncr, hi, hb, h0, h1⟩, hn, hn2, q⟩ := h
  refine ⟨_, (C8.pss_cut (ps_if (PW.pt (pw_and (pt_cmpR op_eq (pe_ix ix_list (pv 0) pe_int (fun _ _ => rfl)) pe_int (nomark _)) (pw_and1 (pt_cmpR op_lt (pe_ix ix_list (pv 0) pe_int (fun _ _ => rfl)) (pe_callB call_len_seq (by rfl) B.len PySem.boot_len (pa_cons (pe_ix ix_list (pv 0) pe_int (fun _ _ => rfl)) pa_nil)) (nomark _))))) (pss_cons (ps_set (i := 2) sc__law_draw.nd rfl (Or.inl rfl) (pe_ix ix_list (pe_ix ix_list (pv 0) pe_int (fun _ _ => rfl)) (pe_ix ix_list (pv 0) pe_int (fun _ _ => rfl)) (fun _ _ => rfl)))
 (pss_cons (ps_asg (pe_op op_add (pe_ix ix_list (pv 0) pe_int (fun _ _ => rfl)) pe_int) (pg_sub (pv 0) pe_int set_list))
 (pss_one (ps_if (pt_cmpR op_ge (pv 2) (pe_op op_pow pe_int pe_int) (nomark _)) (pss_one (ps_asg (pv 2) (pg_sub (pv 0) pe_int set_list))) (pss_one (ps_asg (pe_op op_mod (pe_op op_add (pe_op op_add (pe_op op_mul (pe_ix ix_list (pv 0) pe_int (fun _ _ => rfl)) pe_int) (pe_op op_mul (pe_op op_mod (pv 2) pe_int) pe_int)) pe_int) pe_int) (pg_sub (pv 0) pe_int set_list))))))) pss_nil)
 (pss_cons (ps_if (pt_cmpR op_gt (pe_ix ix_list (pv 0) pe_int (fun _ _ => rfl)) pe_int (nomark _)) (pss_cons (ps_set (i := 3) sc__law_draw.nd rfl (Or.inl rfl) (pe_op op_mod (pe_ix ix_list (pv 0) pe_int (fun _ _ => rfl)) (pv 1)))
 (pss_cons (ps_asg (pe_op op_fdivW (pe_ix ix_list (pv 0) pe_int (fun _ _ => rfl)) (pv 1)) (pg_sub (pv 0) pe_int set_list))
 (pss_one (ps_ret (pv 3))))) pss_nil)
 (pss_cons (ps_set (i := 4) sc__law_draw.nd rfl (Or.inl rfl) (pe_ix ix_list (pv 0) pe_int (fun _ _ => rfl)))
 (pss_cons (ps_asg (pe_op op_mod (pe_op op_add (pe_op op_add (pe_op op_mul (pv 4) pe_int) (pe_op op_mul (pe_op op_fdiv (pv 4) pe_int) pe_int)) pe_int) pe_int) (pg_sub (pv 0) pe_int set_list))
 (pss_one (ps_ret (pe_op op_mod (pe_op op_add (pe_op op_fdiv (pe_ix ix_list (pv 0) pe_int (fun _ _ => rfl)) pe_int) (pe_op op_mul (pe_op op_mod (pe_ix ix_list (pv 0) pe_int (fun _ _ => rfl)) pe_int) pe_int)) (pv 1)))))))), ?_⟩
  refine ⟨fun σ H1 => ∃ (i b s : Int) (cell : Option V), σ = [some (.ref r), some (.int n), cell, none, none] ∧ But r H H1 ∧ H1 r = some (.lst [.ref c, .int i, .int b, .int s]) ∧ H1 c = some (.lst (ns.map V.int)) ∧ 0 ≤ i ∧ 0 ≤ b ∧ 0 ≤ s ∧ s < 2147483647, ?_, ?_⟩
  · refine ⟨_, rfl, r, _, 2, _, rfl, rfl, SqL.here hR, rfl, rfl, _, rfl, ?_⟩
    refine ite2 (fun c1 => ?_) (fun c1 => ?_)
    · refine ⟨_, rfl, r, _, 1, _, rfl, rfl, SqL.here hR, rfl, _, rfl, r, _, 0, _, rfl, rfl, SqL.here hR, rfl, c, _, rfl, .inl (SqL.here hC), _, _, rfl, rfl, _, rfl, ?_⟩
      refine ite2 (fun c2 => ?_) (fun c2 => ?_)
      · have c3 : i < (((ns.map V.int).length : Nat) : Int) := of_decide_eq_true c2
        rw [List.length_map] at c3
        have hk : i.toNat < ns.length := by omega
        have ek : i = ((i.toNat : Nat) : Int) := by omega
        obtain ⟨u, q1⟩ : ∃ u, atI (ns.map V.int) i = some (.int u) := by
          refine ⟨ns[i.toNat], ?_⟩
          have q0 : atI (ns.map V.int) ((i.toNat : Nat) : Int) = some (.int ns[i.toNat]) := atI_nat (by rw [List.getElem?_map, List.getElem?_eq_getElem hk] <;> rfl)
          rw [← ek] at q0
          exact q0
        refine ⟨_, rfl, r, _, 0, _, rfl, rfl, SqL.here hR, rfl, _, rfl, r, _, 1, _, rfl, rfl, SqL.here hR, rfl, c, _, i, _, rfl, rfl, SqL.here hC, q1, ?_⟩
        -- rng[1] = rng[1] + 1
        refine ⟨_, rfl, r, _, 1, _, rfl, rfl, SqL.here hR, rfl, _, _, rfl, rfl, _, rfl, r, _, 1, 1, rfl, rfl, hR, rfl, ?_⟩
        have hC2 : (upd H r (.lst [.ref c, .int (i + 1), .int b, .int s])) c = some (.lst (ns.map V.int)) := by rw [upd_ne ncr]; exact hC
        refine ⟨_, rfl, _, _, rfl, rfl, ⟨by decide, by decide, by decide⟩, _, _, rfl, rfl, _, rfl, ?_⟩
        refine ite2 (fun c4 => ?_) (fun c4 => ?_)
        · have c5 : (10 : Int) ^ (18 : Int).toNat ≤ u := of_decide_eq_true c4
          have c6 : (0 : Int) ≤ (10 : Int) ^ (18 : Int).toNat := by decide
          refine ⟨_, rfl, _, rfl, r, _, 2, 2, rfl, rfl, upd_same, rfl, ?_⟩
          refine ⟨i + 1, u, s, _, rfl, But.set.trans But.set, upd_same, ?_, by omega, by omega, h0, h1⟩
          rw [upd_ne ncr]
          exact hC2
        · refine ⟨_, rfl, r, _, 3, _, rfl, rfl, SqL.here upd_same, rfl, _, _, rfl, rfl, .inl ⟨by omega, by omega⟩, _, rfl, _, _, rfl, rfl, (by show (0 : Int) < 2147483587; decide), _, _, rfl, rfl, .inl ⟨?_, ?_⟩, _, _, rfl, rfl, _, _, rfl, rfl, _, _, rfl, rfl, (by show (0 : Int) < 2147483647; decide), _, rfl, r, _, 3, 3, rfl, rfl, upd_same, rfl, ?_⟩
          · have := Int.emod_nonneg u (show (2147483587 : Int) ≠ 0 by decide)
            omega
          · have := Int.emod_lt_of_pos u (show (0 : Int) < 2147483587 by decide)
            omega
          · refine ⟨i + 1, b, _, _, rfl, But.set.trans But.set, upd_same, ?_, by omega, hb, Int.emod_nonneg _ (by decide), Int.emod_lt_of_pos _ (by decide)⟩
            rw [upd_ne ncr]
            exact hC2
      · exact ⟨i, b, s, none, rfl, fun _ _ _ h => h, hR, hC, hi, hb, h0, h1⟩
    · exact iteF ⟨i, b, s, none, rfl, fun _ _ _ h => h, hR, hC, hi, hb, h0, h1⟩
  · rintro σ H1 ⟨i, b, s, cell, rfl, e1, hR, hC, hi, hb, h0, h1⟩
    refine ⟨_, rfl, r, _, 2, _, rfl, rfl, SqL.here hR, rfl, _, _, rfl, rfl, _, rfl, ?_⟩
    refine ite2 (fun c1 => ?_) (fun c1 => ?_)
    · refine ⟨_, rfl, r, _, 2, _, rfl, rfl, SqL.here hR, rfl, _, rfl, _, _, rfl, rfl, hn, ?_⟩
      refine ⟨_, rfl, r, _, 2, _, rfl, rfl, SqL.here hR, rfl, _, rfl, _, _, rfl, rfl, wide_div hn (b := 60) (by omega) (by decide) (by decide), _, rfl, r, _, 2, 2, rfl, rfl, hR, rfl, _, rfl, ?_⟩
      refine q _ _ (Int.emod_nonneg _ (by omega)) (Int.emod_lt_of_pos _ hn) ⟨ns, i, _, s, upd_same, ?_, ncr, hi, Int.ediv_nonneg hb (by omega), h0, h1⟩ (e1.trans But.set)
      rw [upd_ne ncr]
      exact hC
    · refine ⟨_, rfl, r, _, 3, _, rfl, rfl, SqL.here hR, rfl, ?_⟩
      refine ⟨_, rfl, _, _, rfl, rfl, .inl ⟨by omega, by omega⟩, _, rfl, _, _, rfl, rfl, ⟨by decide, by decide⟩, _, _, rfl, rfl, .inl ⟨?_, ?_⟩, _, _, rfl, rfl, _, _, rfl, rfl, _, _, rfl, rfl, (by show (0 : Int) < 2147483647; decide), _, rfl, r, _, 3, 3, rfl, rfl, hR, rfl, ?_⟩
      · have := Int.ediv_nonneg h0 (show (0 : Int) ≤ 65539 by decide)
        omega
      · have : s / 65539 ≤ s := Int.ediv_le_self _ h0
        omega
      · have z0 : 0 ≤ (s * 62089 + s / 65539 * 29 + 1013904223) % 2147483647 := Int.emod_nonneg _ (by decide)
        have z1 : (s * 62089 + s / 65539 * 29 + 1013904223) % 2147483647 < 2147483647 := Int.emod_lt_of_pos _ (by decide)
        refine ⟨_, rfl, r, _, 3, _, rfl, rfl, SqL.here upd_same, rfl, _, _, rfl, rfl, ⟨by decide, by decide⟩, _, rfl, r, _, 3, _, rfl, rfl, SqL.here upd_same, rfl, _, _, rfl, rfl, (by show (0 : Int) < 8191; decide), _, _, rfl, rfl, .inl ⟨?_, ?_⟩, _, _, rfl, rfl, _, rfl, _, _, rfl, rfl, hn, ?_⟩
        · have := Int.emod_nonneg ((s * 62089 + s / 65539 * 29 + 1013904223) % 2147483647) (show (8191 : Int) ≠ 0 by decide)
          omega
        · have := Int.emod_lt_of_pos ((s * 62089 + s / 65539 * 29 + 1013904223) % 2147483647) (show (0 : Int) < 8191 by decide)
          omega
        · refine q _ _ (Int.emod_nonneg _ (by omega)) (Int.emod_lt_of_pos _ hn) ⟨ns, i, b, _, upd_same, ?_, ncr, hi, hb, z0, z1⟩ (e1.trans But.set)
          rw [upd_ne ncr]
          exact hC
theorem ok__law_drawC (d : D K mg "_law_draw" s__law_draw ["_law_rng", "_law_amount"] f fd) (B : Blt mg) : FnOk P w K mg base CX0 1 f fd ["_law_rng", "_law_amount"] spDrawC := (ok__law_drawW d B).imp fun _ _ _ _ ⟨r, n, c, e, R, h1, h2, q⟩ => ⟨r, n, c, e, R, h1, Int.lt_trans h2 (by decide), q⟩

abbrev s__law_pick : Stmt := top 47
theorem sc__law_pick : FnScope ["_law_rng", "_law_terms"] ["_law_rng", "_law_terms"] (defScope s__law_pick) := ⟨rfl, rfl, rfl, by decide +kernel, rfl, by decide +kernel, by decide +kernel⟩
theorem ok__law_pickC {f1 : Addr} {e1 : FuncData} (d__law_pick : D K mg "_law_pick" s__law_pick ["_law_rng", "_law_terms"] f fd) (B : Blt mg) (d__law_draw : D K mg "_law_draw" s__law_draw ["_law_rng", "_law_amount"] f1 e1) : FnOk P w K mg base CX0 2 f fd ["_law_rng", "_law_terms"] (spPickC K) := by
  have G__law_draw : FnOk P w K mg base CX0 1 f1 e1 ["_law_rng", "_law_amount"] spDrawC := ok__law_drawC d__law_draw B
  refine d__law_pick.F.ok sc__law_pick (fun vs H Q E h => ?_) (fun cdv A outer s H vs Q E hr h => ?_)
  · obtain ⟨_, _, _, _, rfl, _⟩ := h
    rfl
  obtain ⟨r, l, c, xs, rfl, hR, hS, h0, h1, hn, q⟩ := h
  refine ⟨_, (pss_one (ps_ret (pe_ix (r := rIx K) ix_seq (pv 1) (pe_call G__law_draw (hr.mono (by decide)) rfl d__law_draw.m d__law_draw.F.kp d__law_draw.b .nil pass0 (pa_cons (pv 0) (pa_cons (pe_callB call_len_seq (by rfl) B.len PySem.boot_len (pa_cons (pv 1) pa_nil)) pa_nil))) (fun _ _ => rfl)))), ?_⟩
  refine ⟨_, rfl, _, rfl, _, rfl, l, xs, rfl, hS, r, _, c, rfl, hR, by omega, by omega, fun n H' n0 n1 R' b' => ?_⟩
  exact rix_in (hS.imp (b'.sqL hn) (b'.sqT hn)) n0 n1 fun v hv => q v H' hv R' b'

abbrev s__law_name : Stmt := top 48
theorem sc__law_name : FnScope ["_law_rng"] ["_law_rng"] (defScope s__law_name) := ⟨rfl, rfl, rfl, by decide +kernel, rfl, by decide +kernel, by decide +kernel⟩
theorem num_txt (m : Nat) : Str.ofString (toString ((m : Nat) : Int)) = sL (natD m) := by
  have e := PySem.W.KIN.signs_num m
  rw [← sL_eta (Str.ofString (toString ((m : Nat) : Int))), e]
  rfl
theorem natD_len {m : Nat} {k : Nat} (hk : 1 ≤ k) (h : m < 10 ^ k) : (natD m).length ≤ k := by
  unfold natD
  rw [List.length_map]
  exact PyProof.Rows.digits10_le hk h
theorem log_small {m : Nat} (h : m < 2 ^ 200) : ((m : Nat) : Int).natAbs.log2 < 1920 := by
  rw [Int.natAbs_natCast]
  by_cases z : m = 0
  · rw [z]; decide
  · exact Nat.lt_trans ((Nat.log2_lt z).mpr h) (by decide)
theorem ok__law_name {f1 f2 : Addr} {e1 e2 : FuncData} (d__law_name : D K mg "_law_name" s__law_name ["_law_rng"] f fd) (B : Blt mg) (d__law_draw : D K mg "_law_draw" s__law_draw ["_law_rng", "_law_amount"] f1 e1) (d__law_pick : D K mg "_law_pick" s__law_pick ["_law_rng", "_law_terms"] f2 e2) : FnOk P w K mg base CX0 3 f fd ["_law_rng"] (spLNm K) := by
  have G__law_draw : FnOk P w K mg base CX0 1 f1 e1 ["_law_rng", "_law_amount"] spDrawC := ok__law_drawC d__law_draw B
  have G__law_pick : FnOk P w K mg base CX0 2 f2 e2 ["_law_rng", "_law_terms"] (spPickC K) := ok__law_pickC d__law_pick B d__law_draw
  refine d__law_name.F.ok sc__law_name (fun vs H Q E h => ?_) (fun cdv A outer s H vs Q E hr h => ?_)
  · obtain ⟨_, _, rfl, _⟩ := h
    rfl
  obtain ⟨r, c, rfl, hR, q⟩ := h
  refine ⟨_, (pss_one (ps_ret (pe_op op_add_str (pe_call G__law_pick (hr.mono (by decide)) rfl d__law_pick.m d__law_pick.F.kp d__law_pick.b .nil pass0 (pa_cons (pv 0) (pa_cons (pe_lst (pa_cons pe_str (pa_cons pe_str (pa_cons pe_str pa_nil)))) pa_nil))) (pe_call G__law_pick (hr.mono (by decide)) rfl d__law_pick.m d__law_pick.F.kp d__law_pick.b .nil pass0 (pa_cons (pv 0) (pa_cons (pe_lst (pa_cons pe_str (pa_cons (pe_callTy call_str_int (by rfl) B.str (by decide +kernel) (pa_cons (pe_call G__law_draw (hr.mono (by decide)) rfl d__law_draw.m d__law_draw.F.kp d__law_draw.b .nil pass0 (pa_cons (pv 0) (pa_cons pe_int pa_nil))) pa_nil)) (pa_cons (pe_callTy call_str_int (by rfl) B.str (by decide +kernel) (pa_cons (pe_call G__law_draw (hr.mono (by decide)) rfl d__law_draw.m d__law_draw.F.kp d__law_draw.b .nil pass0 (pa_cons (pv 0) (pa_cons pe_int pa_nil))) pa_nil)) (pa_cons pe_str pa_nil))))) pa_nil)))))), ?_⟩
  refine ⟨_, rfl, (by show 3 ≤ sizeLine; decide), fun l1 n1 => ?_⟩
  have s1 := Same.new n1 (.lst [.str "A", .str "B", .str "Z"])
  refine ⟨r, l1, c, _, rfl, hR.same s1, .inl (SqL.here upd_same), (by show 0 < 3; decide), (by show 3 ≤ 10000; decide), (hR.ne n1).1, fun v1 H1 hv1 R1 b1 => ?_⟩
  obtain ⟨a, rfl, ha⟩ : ∃ a, v1 = .str (sL [a]) ∧ (a = 65 ∨ a = 66 ∨ a = 90) := by
    have hv : v1 = .str "A" ∨ v1 = .str "B" ∨ v1 = .str "Z" := by simpa using hv1
    rcases hv with rfl | rfl | rfl
    · exact ⟨65, congrArg V.str (by decide +kernel), .inl rfl⟩
    · exact ⟨66, congrArg V.str (by decide +kernel), .inr (.inl rfl)⟩
    · exact ⟨90, congrArg V.str (by decide +kernel), .inr (.inr rfl)⟩
  have b01 := (But.same s1).trans b1
  refine ⟨_, rfl, _, rfl, r, 100, c, rfl, R1, by decide, by decide, fun x1 H2 x10 x11 R2 b2 => ?_⟩
  obtain ⟨m1, rfl⟩ : ∃ m : Nat, x1 = (m : Int) := ⟨x1.toNat, by omega⟩
  refine ⟨_, rfl, log_small (Nat.lt_of_lt_of_le (show m1 < 100 by omega) (by decide)), ?_⟩
  refine ⟨_, rfl, r, 10, c, rfl, R2, by decide, by decide, fun x2 H3 x20 x21 R3 b3 => ?_⟩
  obtain ⟨m2, rfl⟩ : ∃ m : Nat, x2 = (m : Int) := ⟨x2.toNat, by omega⟩
  refine ⟨_, rfl, log_small (Nat.lt_of_lt_of_le (show m2 < 10 by omega) (by decide)), (by show 4 ≤ sizeLine; decide), fun l2 n2 => ?_⟩
  rw [num_txt, num_txt]
  have s4 := Same.new n2 (.lst [.str "", .str (sL (natD m1)), .str (sL (natD m2)), .str "07"])
  refine ⟨r, l2, c, _, rfl, R3.same s4, .inl (SqL.here upd_same), (by show 0 < 4; decide), (by show 4 ≤ 10000; decide), (R3.ne n2).1, fun v2 H4 hv2 R4 b4 => ?_⟩
  have bb := ((b01.trans b2).trans b3).trans ((But.same s4).trans b4)
  have fin : ∀ ds : List Nat, (∀ d ∈ ds, d ∈ DIGS) → ds.length ≤ 2 → v2 = .str (sL ds) → ∃ i j, V.str (sL [a]) = .str i ∧ v2 = .str j ∧ i.length + j.length ≤ sizeLine ∧ Q (.str (i ++ j)) H4 := fun ds h1 h2 e => by
    refine ⟨_, _, rfl, e, fits (by rw [sL_len, sL_len, List.length_singleton]; omega), ?_⟩
    rw [sL_app]
    exact q (a :: ds) H4 ⟨a, ds, rfl, ha, h1, h2⟩ R4 bb
  have hv : v2 = .str "" ∨ v2 = .str (sL (natD m1)) ∨ v2 = .str (sL (natD m2)) ∨ v2 = .str "07" := by simpa using hv2
  rcases hv with e | e | e | e
  · exact fin [] (fun d hd => nomatch hd) (by decide) (e.trans (congrArg V.str (by decide +kernel)))
  · exact fin (natD m1) (natD_digits m1) (natD_len (by decide) (show m1 < 10 ^ 2 by omega)) e
  · exact fin (natD m2) (natD_digits m2) (natD_len (by decide) (show m2 < 10 ^ 2 by omega)) e
  · exact fin [48, 55] (fun d hd => by rw [digs_iff]; have : d = 48 ∨ d = 55 := by simpa using hd
                                       omega) (by decide) (e.trans (congrArg V.str (by decide +kernel)))

abbrev s__law_number : Stmt := top 49
theorem sc__law_number : FnScope ["_law_rng", "_law_some"] ["_law_rng"] (defScope s__law_number) := ⟨rfl, rfl, rfl, by decide +kernel, rfl, by decide +kernel, by decide +kernel⟩
theorem ok__law_number {f1 f2 : Addr} {e1 e2 : FuncData} (d__law_number : D K mg "_law_number" s__law_number ["_law_rng"] f fd) (B : Blt mg) (d__law_draw : D K mg "_law_draw" s__law_draw ["_law_rng", "_law_amount"] f1 e1) (d__law_pick : D K mg "_law_pick" s__law_pick ["_law_rng", "_law_terms"] f2 e2) : FnOk P w K mg base CX0 3 f fd ["_law_rng"] (spLNu K) := by
  have G__law_draw : FnOk P w K mg base CX0 1 f1 e1 ["_law_rng", "_law_amount"] spDrawW := ok__law_drawW d__law_draw B
  have G__law_pick : FnOk P w K mg base CX0 2 f2 e2 ["_law_rng", "_law_terms"] (spPickC K) := ok__law_pickC d__law_pick B d__law_draw
  refine d__law_number.F.ok sc__law_number (fun vs H Q E h => ?_) (fun cdv A outer s H vs Q E hr h => ?_)
  · obtain ⟨_, _, rfl, _⟩ := h
    rfl
  obtain ⟨r, c, rfl, hR, q⟩ := h
  refine ⟨_, (pss_cons (ps_set (i := 1) sc__law_number.nd rfl (Or.inl rfl) (pe_lst (pa_cons pe_int (pa_cons pe_int (pa_cons pe_int (pa_cons (pe_op op_add pe_int (pe_call G__law_draw (hr.mono (by decide)) rfl d__law_draw.m d__law_draw.F.kp d__law_draw.b .nil pass0 (pa_cons (pv 0) (pa_cons pe_int pa_nil)))) (pa_cons (pe_op op_add pe_int (pe_call G__law_draw (hr.mono (by decide)) rfl d__law_draw.m d__law_draw.F.kp d__law_draw.b .nil pass0 (pa_cons (pv 0) (pa_cons (pe_op op_pow pe_int pe_int) pa_nil)))) pa_nil)))))))
 (pss_one (ps_ret (pe_call G__law_pick (hr.mono (by decide)) rfl d__law_pick.m d__law_pick.F.kp d__law_pick.b .nil pass0 (pa_cons (pv 0) (pa_cons (pe_op op_cat (pv 1) (pe_lst (pa_cons (pe_op op_sub (pe_op op_sub (pe_op op_pow pe_int pe_int) pe_int) (pe_call G__law_draw (hr.mono (by decide)) rfl d__law_draw.m d__law_draw.F.kp d__law_draw.b .nil pass0 (pa_cons (pv 0) (pa_cons pe_int pa_nil)))) pa_nil))) pa_nil)))))), ?_⟩
  refine ⟨_, rfl, r, 5, c, rfl, hR, by decide, by decide, fun x1 H1 x10 x11 R1 b1 => ⟨_, _, rfl, rfl, ?_⟩⟩
  refine ⟨_, rfl, _, _, rfl, rfl, ⟨by decide, by decide, by decide⟩, r, _, c, rfl, R1, by decide, by decide, fun x2 H2 x20 x21 R2 b2 => ⟨_, _, rfl, rfl, (by show 5 ≤ sizeLine; decide), fun l1 n1 => ?_⟩⟩
  have x21 : x2 < 1000000000000 := x21
  have s3 := Same.new n1 (.lst [.int 1, .int 2, .int 3, .int (1 + x1), .int (1 + x2)])
  have hl1 : (upd H2 l1 (.lst [.int 1, .int 2, .int 3, .int (1 + x1), .int (1 + x2)])) l1 = some (.lst [.int 1, .int 2, .int 3, .int (1 + x1), .int (1 + x2)]) := upd_same
  have R3 := R2.same s3
  have n1r := (R2.ne n1).1
  generalize (upd H2 l1 (.lst [.int 1, .int 2, .int 3, .int (1 + x1), .int (1 + x2)])) = H3 at *
  refine ⟨_, rfl, _, rfl, _, _, rfl, rfl, ⟨by decide, by decide, by decide⟩, _, _, rfl, rfl, ?_⟩
  refine ⟨_, rfl, r, 9, c, rfl, R3, by decide, by decide, fun x3 H4 x30 x31 R4 b4 => ⟨_, _, rfl, rfl, one_le, fun l2 n2 => ?_⟩⟩
  have hl4 := b4 _ _ n1r hl1
  have s5 := Same.new n2 (.lst [.int (10 ^ (30 : Int).toNat - 1 - x3)])
  refine ⟨l1, l2, _, _, rfl, rfl, s5 _ _ hl4, upd_same, (by show 6 ≤ sizeLine; decide), fun l3 n3 => ?_⟩
  have s6 := Same.new n3 (.lst ([V.int 1, .int 2, .int 3, .int (1 + x1), .int (1 + x2)] ++ [.int (10 ^ (30 : Int).toNat - 1 - x3)]))
  have R6 := (R4.same s5).same s6
  refine ⟨r, l3, c, _, rfl, R6, .inl (SqL.here upd_same), (by show 0 < 6; decide), (by show 6 ≤ 10000; decide), ((R4.same s5).ne n3).1, fun v H7 hv R7 b7 => ?_⟩
  have bb : But r H H7 := (b1.trans b2).trans ((But.same s3).trans (b4.trans ((But.same (s5.trans s6)).trans b7)))
  have hv : v = .int 1 ∨ v = .int 2 ∨ v = .int 3 ∨ v = .int (1 + x1) ∨ v = .int (1 + x2) ∨ v = .int (10 ^ (30 : Int).toNat - 1 - x3) := by simpa using hv
  have e30 : (10 : Int) ^ (30 : Int).toNat = 1000000000000000000000000000000 := by decide
  have fin : ∀ k : Int, 1 ≤ k → k < 10 ^ 30 → v = .int k → Q v H7 := fun k h1 h2 e => by
    obtain ⟨m, rfl⟩ : ∃ m : Nat, k = (m : Int) := ⟨k.toNat, by omega⟩
    rw [e]
    have h2 : (m : Int) < 1000000000000000000000000000000 := h2
    exact q m H7 (by omega) (by show m < 1000000000000000000000000000000; omega) R7 bb
  rcases hv with e | e | e | e | e | e
  · exact fin _ (by decide) (by decide) e
  · exact fin _ (by decide) (by decide) e
  · exact fin _ (by decide) (by decide) e
  · exact fin _ (by omega) (by show 1 + x1 < 1000000000000000000000000000000; omega) e
  · exact fin _ (by omega) (by show 1 + x2 < 1000000000000000000000000000000; omega) e
  · rw [e30] at e
    exact fin _ (by omega) (by show _ < 1000000000000000000000000000000; omega) e

abbrev s__law_expression : Stmt := top 50
theorem sc__law_expression : FnScope ["_law_rng", "_law_names", "_law_deep", "_law_small", "_law_way", "_law_left", "_law_many"] ["_law_rng", "_law_names", "_law_deep", "_law_small"] (defScope s__law_expression) := ⟨rfl, rfl, rfl, by decide +kernel, rfl, by decide +kernel, by decide +kernel⟩
theorem ok__law_expression {f1 f2 f3 : Addr} {e1 e2 e3 : FuncData} (d__law_expression : D K mg "_law_expression" s__law_expression ["_law_rng", "_law_names", "_law_deep", "_law_small"] f fd) (B : Blt mg) (d__law_draw : D K mg "_law_draw" s__law_draw ["_law_rng", "_law_amount"] f1 e1) (d__law_pick : D K mg "_law_pick" s__law_pick ["_law_rng", "_law_terms"] f2 e2) (d__law_number : D K mg "_law_number" s__law_number ["_law_rng"] f3 e3) : ∀ n : Nat, FnOk P w K mg base CX0 (n + 3) f fd ["_law_rng", "_law_names", "_law_deep", "_law_small"] (spLEx K n)
  | 0 => fn_none fun vs H Q E h => by
    obtain ⟨_, _, _, _, _, _, _, _, _, _, _, h, _⟩ := h
    omega
  | n + 1 => by
    have G__law_draw : FnOk P w K mg base CX0 1 f1 e1 ["_law_rng", "_law_amount"] spDrawW := ok__law_drawW d__law_draw B
    have G__law_pick : FnOk P w K mg base CX0 2 f2 e2 ["_law_rng", "_law_terms"] (spPickC K) := ok__law_pickC d__law_pick B d__law_draw
    have G__law_number : FnOk P w K mg base CX0 3 f3 e3 ["_law_rng"] (spLNu K) := ok__law_number d__law_number B d__law_draw d__law_pick
    have G__law_expression := ok__law_expression d__law_expression B d__law_draw d__law_pick d__law_number n
    refine d__law_expression.F.ok sc__law_expression (fun vs H Q E h => ?_) (fun cdv A outer s H vs Q E hr h => ?_)
    · obtain ⟨_, _, _, _, _, _, rfl, _⟩ := h
      rfl
    obtain ⟨r, c, nl, deep, sm, nms, rfl, hR, hnl, nlr, hdp, _, hn10, hnm, hA, q⟩ := h
    have p2 : 1 ≤ 2 ^ n := Nat.one_le_two_pow
    refine ⟨_, (pss_cons (ps_set (i := 4) sc__law_expression.nd rfl (Or.inl rfl) (pe_call G__law_draw (hr.mono (by omega)) rfl d__law_draw.m d__law_draw.F.kp d__law_draw.b .nil pass0 (pa_cons (pv 0) (pa_cons pe_int pa_nil))))
 (C8.pss_cut (ps_if (PW.pt (pw_or (pt_cmpR op_lt (pv 2) pe_int (nomark _)) (pw_or1 (pt_cmpR op_lt (pv 4) pe_int (nomark _))))) (pss_cons (ps_if (PW.pt (pw_and (pt_cmpR op_gt (pe_callB call_len_seq (by rfl) B.len PySem.boot_len (pa_cons (pv 1) pa_nil)) pe_int (nomark _)) (pw_and1 (pt_cmpR op_gt (pe_call G__law_draw (hr.mono (by omega)) rfl d__law_draw.m d__law_draw.F.kp d__law_draw.b .nil pass0 (pa_cons (pv 0) (pa_cons pe_int pa_nil))) pe_int (nomark _))))) (pss_one (ps_ret (pe_tup (pa_cons pe_str (pa_cons (pe_call G__law_pick (hr.mono (by omega)) rfl d__law_pick.m d__law_pick.F.kp d__law_pick.b .nil pass0 (pa_cons (pv 0) (pa_cons (pv 1) pa_nil))) pa_nil))))) pss_nil)
 (pss_one (ps_ret (pe_tup (pa_cons pe_str pa_nil))))) pss_nil)
 (pss_cons (ps_if (pt_cmpR op_lt (pv 4) pe_int (nomark _)) (pss_cons (ps_set (i := 5) sc__law_expression.nd rfl (Or.inl rfl) (pe_call G__law_expression hr rfl d__law_expression.m d__law_expression.F.kp d__law_expression.b .nil pass0 (pa_cons (pv 0) (pa_cons (pv 1) (pa_cons (pe_op op_sub (pv 2) pe_int) (pa_cons (pv 3) pa_nil))))))
 (pss_one (ps_ret (pe_tup (pa_cons pe_str (pa_cons (pv 5) (pa_cons (pe_call G__law_expression hr rfl d__law_expression.m d__law_expression.F.kp d__law_expression.b .nil pass0 (pa_cons (pv 0) (pa_cons (pv 1) (pa_cons (pe_op op_sub (pv 2) pe_int) (pa_cons (pv 3) pa_nil))))) pa_nil))))))) pss_nil)
 (C8.pss_cut (ps_set (i := 6) sc__law_expression.nd rfl (Or.inl rfl) (pe_ifExp (pt_truth (pv 3) (by intro _; rfl)) (pe_op op_add pe_int (pe_call G__law_draw (hr.mono (by omega)) rfl d__law_draw.m d__law_draw.F.kp d__law_draw.b .nil pass0 (pa_cons (pv 0) (pa_cons pe_int pa_nil)))) (pe_call G__law_number (hr.mono (by omega)) rfl d__law_number.m d__law_number.F.kp d__law_number.b .nil pass0 (pa_cons (pv 0) pa_nil))))
 (pss_one (ps_ret (pe_tup (pa_cons (pe_ix ix_list (pe_lst (pa_cons pe_str (pa_cons pe_str pa_nil))) (pe_op op_sub (pv 4) pe_int) (fun _ _ => rfl)) (pa_cons (pe_call G__law_expression hr rfl d__law_expression.m d__law_expression.F.kp d__law_expression.b .nil pass0 (pa_cons (pv 0) (pa_cons (pv 1) (pa_cons (pe_op op_sub (pv 2) pe_int) (pa_cons (pv 3) pa_nil))))) (pa_cons (pv 6) pa_nil)))))))))), ?_⟩
    refine ⟨_, rfl, r, 7, c, rfl, hR, by decide, by decide, fun way H1 w0 w1 R1 b1 => ?_⟩
    have hn1 := b1 _ _ nlr hnl
    -- a leaf
    have leaf : ∀ (G : Hp), RngC G r c → But r H G → ∀ t, G t = none → ExV K (upd G t (.tup [.str "x"])) (.ref t) .x → Q (.ref t) (upd G t (.tup [.str "x"])) := fun G RG bG t nt hx => by
      have s := Same.new nt (.tup [.str "x"])
      refine q (.ref t) .x _ hx trivial (fun m hm => nomatch hm) (by show 0 < n + 1; omega) ?_ (fun _ b k hp => nomatch hp) (RG.same s) (bG.trans (But.same s))
      show 1 + 2 ≤ 40 * 2 ^ (n + 1 - 1)
      rw [Nat.add_sub_cancel]
      omega
    have leafN : ∀ (G : Hp), RngC G r c → But r H G → ∀ m ∈ nms, ∀ t, G t = none → Q (.ref t) (upd G t (.tup [.str "name", nmV m])) := fun G RG bG m hm t nt => by
      have s := Same.new nt (.tup [.str "name", nmV m])
      have hmA := hA m hm
      refine q (.ref t) (.nm m) _ ⟨t, rfl, SqT.here upd_same⟩ hmA.ok (fun m' hm' => by rw [List.mem_singleton.mp hm']; exact hm) (by show 0 < n + 1; omega) ?_ (fun _ b k hp => nomatch hp) (RG.same s) (bG.trans (But.same s))
      have := hmA.len
      show m.length + 2 ≤ 40 * 2 ^ (n + 1 - 1)
      rw [Nat.add_sub_cancel]
      omega
    refine ⟨fun σ G => (σ = [some (.ref r), some (.ref nl), some (.int deep), some (.bl sm), some (.int way), none, none] ∧ ¬ deep < 1 ∧ ¬ way < 2 ∧ RngC G r c ∧ But r H G), ?_, ?_⟩
    · refine ⟨_, rfl, _, _, rfl, rfl, _, rfl, ?_⟩
      refine ite2 (fun c0 => ?_) (fun c0 => ?_)
      · refine ⟨_, rfl, nl, _, rfl, .inl (SqL.here hn1), _, _, rfl, rfl, _, rfl, ?_⟩
        refine ite2 (fun c1 => ?_) (fun c1 => ?_)
        · have c1 : (0 : Int) < ((nms.map nmV).length : Nat) := of_decide_eq_true c1
          rw [List.length_map] at c1
          refine ⟨_, rfl, r, 3, c, rfl, R1, by decide, by decide, fun z H2 z0 z1 R2 b2 => ⟨_, _, rfl, rfl, _, rfl, ?_⟩⟩
          have hn2 := b2 _ _ nlr hn1
          refine ite2 (fun c2 => ?_) (fun c2 => ?_)
          · refine ⟨_, rfl, _, rfl, r, nl, c, nms.map nmV, rfl, R2, .inl (SqL.here hn2), by rw [List.length_map]; omega, by rw [List.length_map]; omega, nlr, fun v H3 hv R3 b3 => ⟨two_le, fun t nt => ?_⟩⟩
            obtain ⟨m, hm, rfl⟩ := List.mem_map.mp hv
            exact leafN H3 R3 (b1.trans (b2.trans b3)) m hm t nt
          · exact ⟨one_le, fun t nt => leaf H2 R2 (b1.trans b2) t nt ⟨t, rfl, SqT.here upd_same⟩⟩
        · exact ⟨one_le, fun t nt => leaf H1 R1 b1 t nt ⟨t, rfl, SqT.here upd_same⟩⟩
      · refine ⟨_, rfl, _, _, rfl, rfl, _, rfl, ?_⟩
        refine ite2 (fun c9 => ?_) (fun c9 => ?_)
        · refine ⟨_, rfl, nl, _, rfl, .inl (SqL.here hn1), _, _, rfl, rfl, _, rfl, ?_⟩
          refine ite2 (fun c1 => ?_) (fun c1 => ?_)
          · have c1 : (0 : Int) < ((nms.map nmV).length : Nat) := of_decide_eq_true c1
            rw [List.length_map] at c1
            refine ⟨_, rfl, r, 3, c, rfl, R1, by decide, by decide, fun z H2 z0 z1 R2 b2 => ⟨_, _, rfl, rfl, _, rfl, ?_⟩⟩
            have hn2 := b2 _ _ nlr hn1
            refine ite2 (fun c2 => ?_) (fun c2 => ?_)
            · refine ⟨_, rfl, _, rfl, r, nl, c, nms.map nmV, rfl, R2, .inl (SqL.here hn2), by rw [List.length_map]; omega, by rw [List.length_map]; omega, nlr, fun v H3 hv R3 b3 => ⟨two_le, fun t nt => ?_⟩⟩
              obtain ⟨m, hm, rfl⟩ := List.mem_map.mp hv
              exact leafN H3 R3 (b1.trans (b2.trans b3)) m hm t nt
            · exact ⟨one_le, fun t nt => leaf H2 R2 (b1.trans b2) t nt ⟨t, rfl, SqT.here upd_same⟩⟩
          · exact ⟨one_le, fun t nt => leaf H1 R1 b1 t nt ⟨t, rfl, SqT.here upd_same⟩⟩
        · exact ⟨rfl, fun z => c0 (decide_eq_true z), fun z => c9 (decide_eq_true z), R1, b1⟩
    · rintro σ G ⟨rfl, d1, w2, RG, bG⟩
      have hn : 1 ≤ n := by omega
      obtain ⟨n, rfl⟩ : ∃ j, n = j + 1 := ⟨n - 1, by omega⟩
      have hnG := bG _ _ nlr hnl
      have e2 : 40 * 2 ^ (n + 1) = 40 * 2 ^ n + 40 * 2 ^ n := by rw [Nat.pow_succ]; omega
      have p3 : 1 ≤ 2 ^ n := Nat.one_le_two_pow
      refine ⟨_, rfl, _, _, rfl, rfl, _, rfl, ?_⟩
      refine ite2 (fun c1 => ?_) (fun c1 => ?_)
      · refine ⟨_, rfl, _, rfl, _, rfl, _, _, rfl, rfl, _, rfl, r, c, nl, _, sm, nms, rfl, RG, hnG, nlr, by omega, by omega, by omega, hnm, hA, fun vl el H2 hvl okl nml dpl txl sml R2 b2 => ?_⟩
        have hn2 := b2 _ _ nlr hnG
        refine ⟨_, rfl, _, rfl, _, rfl, _, rfl, _, _, rfl, rfl, _, rfl, r, c, nl, _, sm, nms, rfl, R2, hn2, nlr, by omega, by omega, by omega, hnm, hA, fun vr er H3 hvr okr nmr dpr txr smr R3 b3 => ⟨by show 3 ≤ sizeLine; decide, fun t nt => ?_⟩⟩
        have st := Same.new nt (.tup [.str "upon", vl, vr])
        have tp3 := R2.tp b3
        refine q (.ref t) (.up el er) _ ⟨t, vl, vr, rfl, SqT.here upd_same, hvl.tp (tp3.trans (Tp.same st)), hvr.tp (Tp.same st)⟩ ⟨okl, okr⟩ (fun m hm => ?_) ?_ ?_ (fun z b k hp => ?_) (R3.same st) (bG.trans (b2.trans (b3.trans (But.same st))))
        · rcases List.mem_append.mp hm with hm | hm
          · exact nml m hm
          · exact nmr m hm
        · show 1 + max el.dep er.dep < n + 1 + 1
          omega
        · show (40 :: (el.txt ++ (er.txt ++ [41]))).length + 2 ≤ 40 * 2 ^ (n + 1 + 1 - 1)
          rw [show n + 1 + 1 - 1 = n + 1 from rfl]
          rw [show n + 1 - 1 = n from rfl] at txl txr
          rw [List.length_cons, List.length_append, List.length_append, List.length_singleton]
          omega
        · cases hp with
          | left hp => exact sml z _ _ hp
          | right hp => exact smr z _ _ hp
      · have w5 : 5 ≤ way := by
          have : ¬ way < 5 := fun z => c1 (decide_eq_true z)
          omega
        -- the number
        refine ⟨fun σ G => ∃ k : Nat, σ = [some (.ref r), some (.ref nl), some (.int deep), some (.bl sm), some (.int way), none, some (.int (k : Int))] ∧ 1 ≤ k ∧ k < 10 ^ 30 ∧ (sm = true → k ≤ 4) ∧ RngC G r c ∧ But r H G, ?_, ?_⟩
        · refine ⟨_, rfl, sm, rfl, ?_⟩
          cases sm with
          | true =>
            refine iteT ⟨_, rfl, r, 4, c, rfl, RG, by decide, by decide, fun z G2 z0 z1 R2 b2 => ⟨_, _, rfl, rfl, ?_⟩⟩
            obtain ⟨m, rfl⟩ : ∃ m : Nat, z = (m : Int) := ⟨z.toNat, by omega⟩
            have e : (1 : Int) + (m : Int) = ((m + 1 : Nat) : Int) := by omega
            exact ⟨m + 1, by rw [← e]; rfl, by omega, Nat.lt_of_lt_of_le (show m + 1 < 6 by omega) (by decide), (fun _ => by omega), R2, bG.trans b2⟩
          | false =>
            exact iteF ⟨_, rfl, r, c, rfl, RG, fun k G2 k1 k2 R2 b2 => ⟨k, rfl, k1, k2, (fun z => Bool.noConfusion z), R2, bG.trans b2⟩⟩
        · rintro σ G2 ⟨k, rfl, k1, k2, k4, R2, b2⟩
          have hn2 := b2 _ _ nlr hnl
          refine ⟨two_le, fun l1 n1 => ?_⟩
          have s1 := Same.new n1 (.lst [.str "right", .str "left"])
          obtain ⟨b, hb⟩ : ∃ b : Bool, atI [V.str "right", V.str "left"] (way - 5) = some (.str (if b = true then "right" else "left")) ∧ (b = true ↔ way = 5) := by
            have hw : way = 5 ∨ way = 6 := by omega
            rcases hw with rfl | rfl
            · exact ⟨true, rfl, by simp⟩
            · exact ⟨false, rfl, by simp⟩
          refine ⟨_, rfl, _, _, rfl, rfl, l1, _, _, _, rfl, rfl, SqL.here upd_same, hb.1, ?_⟩
          refine ⟨_, rfl, _, rfl, _, rfl, _, _, rfl, rfl, _, rfl, r, c, nl, _, sm, nms, rfl, R2.same s1, s1 _ _ hn2, nlr, by omega, by omega, by omega, hnm, hA, fun ve e H3 hve oke nme dpe txe sme R3 b3 => ⟨_, rfl, by show 3 ≤ sizeLine; decide, fun t nt => ?_⟩⟩
          have st := Same.new nt (.tup [.str (if b = true then "right" else "left"), ve, .int (k : Int)])
          refine q (.ref t) (.pw b e k) _ ⟨t, ve, rfl, SqT.here upd_same, hve.tp (Tp.same st)⟩ ⟨oke, k1, k2⟩ nme ?_ ?_ (fun z b' k' hp => ?_) (R3.same st) (b2.trans ((But.same s1).trans (b3.trans (But.same st))))
          · show 1 + e.dep < n + 1 + 1
            omega
          · have dl := natD_len (m := k) (k := 30) (by decide) k2
            show (e.txt ++ (pwS b :: natD k)).length + 2 ≤ 40 * 2 ^ (n + 1 + 1 - 1)
            rw [show n + 1 + 1 - 1 = n + 1 from rfl]
            rw [show n + 1 - 1 = n from rfl] at txe
            rw [List.length_append, List.length_cons]
            omega
          · cases hp with
            | here => exact k4 z
            | pw hp => exact sme z _ _ hp

abbrev s__law_expression_text : Stmt := top 51
theorem sc__law_expression_text : FnScope ["_law_told"] ["_law_told"] (defScope s__law_expression_text) := ⟨rfl, rfl, rfl, by decide +kernel, rfl, by decide +kernel, by decide +kernel⟩
theorem ok__law_expression_text (d__law_expression_text : D K mg "_law_expression_text" s__law_expression_text ["_law_told"] f fd) (B : Blt mg) : ∀ n : Nat, FnOk P w K mg base CX0 n f fd ["_law_told"] (spLTx K n)
  | 0 => fn_none fun vs H Q E h => by
    obtain ⟨_, _, _, _, _, h, _⟩ := h
    omega
  | n + 1 => by
    have G__law_expression_text := ok__law_expression_text d__law_expression_text B n
    refine d__law_expression_text.F.ok sc__law_expression_text (fun vs H Q E h => ?_) (fun cdv A outer s H vs Q E hr h => ?_)
    · obtain ⟨_, _, rfl, _⟩ := h
      rfl
    obtain ⟨v, e, rfl, hv, hok, hd, hl, q⟩ := h
    have x120 : Str.ofString "x" = sL [120] := by decide +kernel
    have pl : Str.ofString "(" = sL [40] := by decide +kernel
    have pr : Str.ofString ")" = sL [41] := by decide +kernel
    have pu : Str.ofString "^" = sL [94] := by decide +kernel
    have pd : Str.ofString "_" = sL [95] := by decide +kernel
    refine ⟨_, (pss_cons (ps_if (pt_cmpR op_eq (pe_ix ix_tup (pv 0) pe_int (fun _ _ => rfl)) pe_str (nomark _)) (pss_one (ps_ret pe_str)) pss_nil)
 (pss_cons (ps_if (pt_cmpR op_eq (pe_ix ix_tup (pv 0) pe_int (fun _ _ => rfl)) pe_str (nomark _)) (pss_one (ps_ret (pe_ix ix_tup (pv 0) pe_int (fun _ _ => rfl)))) pss_nil)
 (pss_cons (ps_if (pt_cmpR op_eq (pe_ix ix_tup (pv 0) pe_int (fun _ _ => rfl)) pe_str (nomark _)) (pss_one (ps_ret (pe_op op_add_str (pe_op op_add_str (pe_op op_add_str pe_str (pe_call G__law_expression_text hr rfl d__law_expression_text.m d__law_expression_text.F.kp d__law_expression_text.b .nil pass0 (pa_cons (pe_ix ix_tup (pv 0) pe_int (fun _ _ => rfl)) pa_nil))) (pe_call G__law_expression_text hr rfl d__law_expression_text.m d__law_expression_text.F.kp d__law_expression_text.b .nil pass0 (pa_cons (pe_ix ix_tup (pv 0) pe_int (fun _ _ => rfl)) pa_nil))) pe_str))) pss_nil)
 (pss_one (ps_ret (pe_op op_add_str (pe_op op_add_str (pe_call G__law_expression_text hr rfl d__law_expression_text.m d__law_expression_text.F.kp d__law_expression_text.b .nil pass0 (pa_cons (pe_ix ix_tup (pv 0) pe_int (fun _ _ => rfl)) pa_nil)) (pe_ifExp (pt_cmpR op_eq (pe_ix ix_tup (pv 0) pe_int (fun _ _ => rfl)) pe_str (nomark _)) pe_str pe_str)) (pe_callTy call_str_int (by rfl) B.str (by decide +kernel) (pa_cons (pe_ix ix_tup (pv 0) pe_int (fun _ _ => rfl)) pa_nil)))))))), ?_⟩
    cases e with
    | x =>
      obtain ⟨t, rfl, ht⟩ := hv
      refine ⟨_, rfl, t, _, 0, _, rfl, rfl, ht, rfl, rfl, _, rfl, ite_yes (decide_eq_true rfl) ?_⟩
      have z := q H (Same.refl _)
      rw [show Ex.txt .x = [120] from rfl, ← x120] at z
      exact z
    | nm m =>
      obtain ⟨t, rfl, ht⟩ := hv
      refine ⟨_, rfl, t, _, 0, _, rfl, rfl, ht, rfl, rfl, _, rfl, ite_no (by decide +kernel) ?_⟩
      refine ⟨_, rfl, t, _, 0, _, rfl, rfl, ht, rfl, rfl, _, rfl, ite_yes (decide_eq_true rfl) ?_⟩
      exact ⟨_, rfl, t, _, 1, _, rfl, rfl, ht, rfl, q H (Same.refl _)⟩
    | up el er =>
      obtain ⟨t, vl, vr, rfl, ht, hvl, hvr⟩ := hv
      have hd : 1 + max el.dep er.dep < n + 1 := hd
      have hl : (40 :: (el.txt ++ (er.txt ++ [41]))).length ≤ 10000 := hl
      rw [List.length_cons, List.length_append, List.length_append, List.length_singleton] at hl
      refine ⟨_, rfl, t, _, 0, _, rfl, rfl, ht, rfl, rfl, _, rfl, ite_no (by decide +kernel) ?_⟩
      refine ⟨_, rfl, t, _, 0, _, rfl, rfl, ht, rfl, rfl, _, rfl, ite_no (by decide +kernel) ?_⟩
      refine ⟨_, rfl, t, _, 0, _, rfl, rfl, ht, rfl, rfl, _, rfl, ite_yes (decide_eq_true rfl) ?_⟩
      refine ⟨_, rfl, t, _, 1, _, rfl, rfl, ht, rfl, vl, el, rfl, hvl, hok.1, by omega, by omega, fun H1 s1 => ⟨_, _, rfl, rfl, fits (by rw [sL_len, pl, sL_len, List.length_singleton]; omega), ?_⟩⟩
      rw [pl, sL_app]
      refine ⟨_, rfl, t, _, 2, _, rfl, rfl, (Tp.same s1).sqT ht, rfl, vr, er, rfl, hvr.tp (Tp.same s1), hok.2, by omega, by omega, fun H2 s2 => ⟨_, _, rfl, rfl, fits (by rw [sL_len, sL_len, List.length_append, List.length_singleton]; omega), ?_⟩⟩
      rw [sL_app]
      refine ⟨_, _, rfl, rfl, fits (by rw [pr, sL_len, sL_len, List.length_append, List.length_append, List.length_singleton]; show 1 + el.txt.length + er.txt.length + 1 ≤ 10000; omega), ?_⟩
      have z := q H2 (s1.trans s2)
      have e : ((([40] ++ el.txt) ++ er.txt) ++ [41]) = Ex.txt (.up el er) := by
        show _ = 40 :: (el.txt ++ (er.txt ++ [41]))
        simp
      rw [← e, ← sL_app, ← pr] at z
      exact z
    | pw b e k =>
      obtain ⟨t, ve, rfl, ht, hve⟩ := hv
      obtain ⟨hok, k1, k2⟩ := (show e.ok ∧ 1 ≤ k ∧ k < 10 ^ 30 from hok)
      have hd : 1 + e.dep < n + 1 := hd
      have hl : (e.txt ++ (pwS b :: natD k)).length ≤ 10000 := hl
      rw [List.length_append, List.length_cons] at hl
      have nx : ∀ z : String, (z = "x" ∨ z = "name" ∨ z = "upon") → decide (V.str (if b = true then "right" else "left") = V.str (Str.ofString z)) = false := fun z hz => by
        rcases hz with rfl | rfl | rfl <;> cases b <;> decide +kernel
      refine ⟨_, rfl, t, _, 0, _, rfl, rfl, ht, rfl, rfl, _, rfl, ite_no (nx "x" (.inl rfl)) ?_⟩
      refine ⟨_, rfl, t, _, 0, _, rfl, rfl, ht, rfl, rfl, _, rfl, ite_no (nx "name" (.inr (.inl rfl))) ?_⟩
      refine ⟨_, rfl, t, _, 0, _, rfl, rfl, ht, rfl, rfl, _, rfl, ite_no (nx "upon" (.inr (.inr rfl))) ?_⟩
      refine ⟨_, rfl, t, _, 1, _, rfl, rfl, ht, rfl, ve, e, rfl, hve, hok, by omega, by omega, fun H1 s1 => ?_⟩
      have ht1 := (Tp.same s1).sqT ht
      refine ⟨_, rfl, t, _, 0, _, rfl, rfl, ht1, rfl, rfl, _, rfl, ?_⟩
      have fin : sL (e.txt ++ (pwS b :: natD k)) = (sL e.txt ++ sL [pwS b]) ++ sL (natD k) := by
        rw [sL_app, sL_app, List.append_assoc]
        rfl
      have z := q H1 s1
      rw [show Ex.txt (.pw b e k) = e.txt ++ (pwS b :: natD k) from rfl, fin] at z
      have lg : ((k : Nat) : Int).natAbs.log2 < 1920 := log_small (Nat.lt_trans k2 (by decide))
      cases b with
      | true =>
        refine ite_yes (by decide +kernel) ⟨_, _, rfl, rfl, fits (by rw [sL_len, pu, sL_len, List.length_singleton]; omega), _, rfl, t, _, 2, _, rfl, rfl, ht1, rfl, _, rfl, lg, ?_⟩
        rw [num_txt, pu]
        exact ⟨_, _, rfl, rfl, fits (by rw [sL_app, sL_len, sL_len, List.length_append, List.length_singleton]; omega), z⟩
      | false =>
        refine ite_no (by decide +kernel) ⟨_, _, rfl, rfl, fits (by rw [sL_len, pd, sL_len, List.length_singleton]; omega), _, rfl, t, _, 2, _, rfl, rfl, ht1, rfl, _, rfl, lg, ?_⟩
        rw [num_txt, pd]
        exact ⟨_, _, rfl, rfl, fits (by rw [sL_app, sL_len, sL_len, List.length_append, List.length_singleton]; omega), z⟩

abbrev s__law_definitions : Stmt := top 52
theorem sc__law_definitions : FnScope ["_law_rng", "_law_many", "_law_small", "_law_rows", "_law_names", "_law_turn", "_law_name_here", "_law_told"] ["_law_rng", "_law_many", "_law_small"] (defScope s__law_definitions) := ⟨rfl, rfl, rfl, by decide +kernel, rfl, by decide +kernel, by decide +kernel⟩
theorem ok__law_definitions {f1 f2 f3 f4 f5 f6 : Addr} {e1 e2 e3 e4 e5 e6 : FuncData} (d__law_definitions : D K mg "_law_definitions" s__law_definitions ["_law_rng", "_law_many", "_law_small"] f fd) (B : Blt mg) (d__law_draw : D K mg "_law_draw" s__law_draw ["_law_rng", "_law_amount"] f1 e1) (d__law_pick : D K mg "_law_pick" s__law_pick ["_law_rng", "_law_terms"] f2 e2) (d__law_name : D K mg "_law_name" s__law_name ["_law_rng"] f3 e3) (d__law_number : D K mg "_law_number" s__law_number ["_law_rng"] f4 e4)
    (d__law_expression : D K mg "_law_expression" s__law_expression ["_law_rng", "_law_names", "_law_deep", "_law_small"] f5 e5) (d__law_expression_text : D K mg "_law_expression_text" s__law_expression_text ["_law_told"] f6 e6) : FnOk P w K mg base CX0 8 f fd ["_law_rng", "_law_many", "_law_small"] (spLDf K) := by
  have G__law_draw : FnOk P w K mg base CX0 1 f1 e1 ["_law_rng", "_law_amount"] spDrawW := ok__law_drawW d__law_draw B
  have G__law_name : FnOk P w K mg base CX0 3 f3 e3 ["_law_rng"] (spLNm K) := ok__law_name d__law_name B d__law_draw d__law_pick
  have G__law_expression : FnOk P w K mg base CX0 7 f5 e5 ["_law_rng", "_law_names", "_law_deep", "_law_small"] (spLEx K 4) := ok__law_expression d__law_expression B d__law_draw d__law_pick d__law_number 4
  have G__law_expression_text : FnOk P w K mg base CX0 4 f6 e6 ["_law_told"] (spLTx K 4) := ok__law_expression_text d__law_expression_text B 4
  refine d__law_definitions.F.ok sc__law_definitions (fun vs H Q E h => ?_) (fun cdv A outer s H vs Q E hr h => ?_)
  · obtain ⟨_, _, _, _, rfl, _⟩ := h
    rfl
  obtain ⟨r, c, many, sm, rfl, hR, hm, q⟩ := h
  refine ⟨_, (pss_cons (ps_par (i := 3) (j := 4) (by rfl) sc__law_definitions.nd rfl rfl (by decide) rfl rfl (pa_cons (pe_lst pa_nil) (pa_cons (pe_lst pa_nil) pa_nil)) (by rfl))
 (pss_cons (ps_for PassesOwn.never rfl (pi_range1 (by rfl) B.range (pa_cons (pv 1) pa_nil)) (pg_name (i := 5) sc__law_definitions.nd rfl (Or.inl rfl))
  (pss_cons (ps_set (i := 6) sc__law_definitions.nd rfl (Or.inl rfl) (pe_call G__law_name (hr.mono (by decide)) rfl d__law_name.m d__law_name.F.kp d__law_name.b .nil pass0 (pa_cons (pv 0) pa_nil)))
 (pss_cons (ps_set (i := 7) sc__law_definitions.nd rfl (Or.inl rfl) (pe_call G__law_expression (hr.mono (by decide)) rfl d__law_expression.m d__law_expression.F.kp d__law_expression.b .nil pass0 (pa_cons (pv 0) (pa_cons (pv 4) (pa_cons (pe_op op_add pe_int (pe_call G__law_draw (hr.mono (by decide)) rfl d__law_draw.m d__law_draw.F.kp d__law_draw.b .nil pass0 (pa_cons (pv 0) (pa_cons pe_int pa_nil)))) (pa_cons (pv 2) pa_nil))))))
 (pss_one (ps_if (PW.pt (pw_and (pt_cmpR op_notIn_seq (pv 6) (pv 4) (by with_unfolding_all rfl)) (pw_and1 (pt_cmpR op_lt (pe_callB call_len_str (by rfl) B.len PySem.boot_len (pa_cons (pe_call G__law_expression_text (hr.mono (by decide)) rfl d__law_expression_text.m d__law_expression_text.F.kp d__law_expression_text.b .nil pass0 (pa_cons (pv 7) pa_nil)) pa_nil)) pe_int (nomark _))))) (pss_cons (ps_expr (pe_bm PySem.F.plainAttrs_list PySem.F.slot_list_append PySem.F.type_list_append mt_append (pv 3) (pa_cons (pe_tup (pa_cons (pv 6) (pa_cons (pv 7) pa_nil))) pa_nil)))
 (pss_one (ps_expr (pe_bm PySem.F.plainAttrs_list PySem.F.slot_list_append PySem.F.type_list_append mt_append (pv 4) (pa_cons (pv 6) pa_nil))))) pss_nil)))))
 (pss_one (ps_ret (pv 3))))), ?_⟩
  refine ⟨zero_le', fun l nl => ⟨zero_le', fun nl2 nnl2 => ?_⟩⟩
  have s1 := Same.new nl (.lst [])
  have s2 := s1.trans (Same.new nnl2 (.lst []))
  have hl0 : (upd (upd H l (.lst [])) nl2 (.lst [])) l = some (.lst []) := (Same.new nnl2 _) _ _ upd_same
  have n12 : nl2 ≠ l := fun z => by rw [z, upd_same] at nnl2; cases nnl2
  have lr : l ≠ r := (hR.ne nl).1
  have lc : l ≠ c := (hR.ne nl).2
  have l2r : nl2 ≠ r := ((hR.same s1).ne nnl2).1
  have l2c : nl2 ≠ c := ((hR.same s1).ne nnl2).2
  refine ⟨_, _, rfl, ?_⟩
  refine ⟨_, rfl, _, rfl, by omega, by omega, for_range (lo := 0) (n := ((many : Int)).toNat) (fun i σ G => ∃ (x5 x6 x7 : Option V) (us : List V) (rs : List Row), σ = [some (.ref r), some (.int (many : Int)), some (.bl sm), some (.ref l), some (.ref nl2), x5, x6, x7] ∧ RngC G r c ∧ But r H G ∧ G l = some (.lst us) ∧ RwAll K G us rs ∧ G nl2 = some (.lst ((rs.map Row.nm).map nmV)) ∧ RowsOk [] rs ∧ rs.length ≤ i ∧ (∀ w ∈ rs, NmA w.nm) ∧ (sm = true → ∀ w ∈ rs, ∀ b k, Ex.pwIn w.e b k → k ≤ 4) ∧ (∀ w ∈ rs, w.e.dep ≤ 3)) ⟨none, none, none, [], [], rfl, hR.same s2, But.same s2, hl0, .nil, upd_same, .nil, Nat.le_refl _, (fun w hw => nomatch hw), (fun _ w hw => nomatch hw), (fun w hw => nomatch hw)⟩ ?_ ?_⟩
  · rintro i σ G hi ⟨x5, x6, x7, us, rs, rfl, RG, bG, hlG, hW, hnG, hok, hlen, hA, hsm, hdp⟩
    have hmi : i < many := by omega
    refine ⟨_, rfl, r, c, rfl, RG, fun n H1 hn R1 b1 => ?_⟩
    refine ⟨_, rfl, _, rfl, _, rfl, r, 3, c, rfl, R1, by decide, by decide, fun x H2 x0 x1 R2 b2 => ⟨_, _, rfl, rfl, _, rfl, ?_⟩⟩
    have hn2 := b2 _ _ l2r (b1 _ _ l2r hnG)
    refine ⟨r, c, nl2, _, sm, rs.map Row.nm, rfl, R2, hn2, l2r, by omega, by omega, by omega, by rw [List.length_map]; omega, fun m hm' => ?_, fun v e H3 hv heok hnms hdep htl hsmall R3 b3 => ?_⟩
    · obtain ⟨w, hw, rfl⟩ := List.mem_map.mp hm'
      exact hA w hw
    have hn3 := b3 _ _ l2r hn2
    have hl3 := b3 _ _ lr (b2 _ _ lr (b1 _ _ lr hlG))
    have b13 : But r G H3 := b1.trans (b2.trans b3)
    have hW3 := hW.tp (RG.tp b13)
    have htl : e.txt.length + 2 ≤ 320 := htl
    have stay : ∀ (G' : Hp), Same H3 G' → ∃ (x5 x6 x7 : Option V) (us : List V) (rs : List Row), [some (V.ref r), some (.int (many : Int)), some (.bl sm), some (.ref l), some (.ref nl2), some (.int (0 + (i : Int))), some (nmV n), some v] = [some (.ref r), some (.int (many : Int)), some (.bl sm), some (.ref l), some (.ref nl2), x5, x6, x7] ∧ RngC G' r c ∧ But r H G' ∧ G' l = some (.lst us) ∧ RwAll K G' us rs ∧ G' nl2 = some (.lst ((rs.map Row.nm).map nmV)) ∧ RowsOk [] rs ∧ rs.length ≤ i + 1 ∧ (∀ w ∈ rs, NmA w.nm) ∧ (sm = true → ∀ w ∈ rs, ∀ b k, Ex.pwIn w.e b k → k ≤ 4) ∧ (∀ w ∈ rs, w.e.dep ≤ 3) := fun G' s =>
      ⟨_, _, _, us, rs, rfl, R3.same s, bG.trans (b13.trans (But.same s)), s _ _ hl3, hW3.tp (Tp.same s), s _ _ hn3, hok, by omega, hA, hsm, hdp⟩
    refine ⟨_, rfl, _, rfl, nl2, _, rfl, .inl (SqL.here hn3), rfl, flat_nms _, _, rfl, ?_⟩
    show if (!inV (nmV n) ((rs.map Row.nm).map nmV)) = true then _ else _
    rw [inV_nm]
    by_cases hin : n ∈ rs.map Row.nm
    · rw [decide_eq_true hin]
      exact iteF (stay H3 (Same.refl _))
    · rw [decide_eq_false hin]
      refine iteT ⟨_, rfl, v, e, rfl, hv, heok, hdep, by omega, fun H4 s4 => ⟨_, rfl, fits (by rw [sL_len]; omega), _, _, rfl, rfl, _, rfl, ?_⟩⟩
      refine ite2 (fun c2 => ?_) (fun c2 => ?_)
      · have c2 : (((sL e.txt).length : Nat) : Int) < 60 := of_decide_eq_true c2
        rw [sL_len] at c2
        have R4 := R3.same s4
        have hl4 := s4 _ _ hl3
        have hn4 := s4 _ _ hn3
        refine ⟨_, rfl, .inl ⟨rfl, _, SqL.here hl4⟩, _, rfl, _, rfl, two_le, fun t nt => ?_⟩
        have s5 := Same.new nt (.tup [nmV n, v])
        have hl5 := s5 _ _ hl4
        have hn5 := s5 _ _ hn4
        have us_len := hW.len
        refine ⟨l, _, _, rfl, rfl, hl5, small1000 (by omega), ?_⟩
        have tp45 : Tp H3 (upd H4 t (.tup [nmV n, v])) := Tp.same (s4.trans s5)
        have hW5 := hW3.tp tp45
        have htt : (upd H4 t (.tup [nmV n, v])) t = some (.tup [nmV n, v]) := upd_same
        have R5 := R4.same s5
        have b05 := bG.trans (b13.trans (But.same (s4.trans s5)))
        have hv5 := hv.tp tp45
        generalize (upd H4 t (.tup [nmV n, v])) = H5 at *
        have tp6 := Tp.but hl5 (But.set (o := .lst (us ++ [.ref t])))
        have hn6 : (upd H5 l (.lst (us ++ [.ref t]))) nl2 = some (.lst ((rs.map Row.nm).map nmV)) := by rw [upd_ne n12]; exact hn5
        have hl6 : (upd H5 l (.lst (us ++ [.ref t]))) l = some (.lst (us ++ [.ref t])) := upd_same
        have R6 : RngC (upd H5 l (.lst (us ++ [.ref t]))) r c := R5.set ⟨lr, lc⟩
        have hW6 := (hW5.tp tp6).app (RwAll.cons (s := ⟨n, e⟩) ⟨t, v, rfl, tp6.sqT (SqT.here htt), hv5.tp tp6⟩ .nil)
        have b06 : But r H (upd H5 l (.lst (us ++ [.ref t]))) := fun b o nb z => by
          rw [upd_ne (ne_of_none z nl)]
          exact b05 _ _ nb z
        generalize (upd H5 l (.lst (us ++ [.ref t]))) = H6 at *
        refine ⟨_, rfl, .inl ⟨rfl, _, SqL.here hn6⟩, _, rfl, nl2, _, _, rfl, rfl, hn6, small1000 (by rw [List.length_map, List.length_map]; omega), ?_⟩
        have tp7 := Tp.but hn6 (But.set (o := .lst ((rs.map Row.nm).map nmV ++ [nmV n])))
        refine ⟨_, _, _, us ++ [.ref t], rs ++ [⟨n, e⟩], rfl, R6.set ⟨l2r, l2c⟩, fun b o nb z => ?_, by rw [upd_ne n12.symm]; exact hl6, hW6.tp tp7, by rw [upd_same, List.map_append, List.map_append]; rfl, hok.snoc hn hin heok hnms (by show e.txt.length < 60; omega) (by show e.dep ≤ 9; omega), by rw [List.length_append, List.length_singleton]; omega, fun w hw => ?_, fun z w hw => ?_, fun w hw => ?_⟩
        · rw [upd_ne (ne_of_none z (s1.free nnl2))]
          exact b06 _ _ nb z
        · rcases List.mem_append.mp hw with hw | hw
          · exact hA w hw
          · rw [List.mem_singleton.mp hw]; exact hn
        · rcases List.mem_append.mp hw with hw | hw
          · exact hsm z w hw
          · rw [List.mem_singleton.mp hw]; exact hsmall z
        · rcases List.mem_append.mp hw with hw | hw
          · exact hdp w hw
          · rw [List.mem_singleton.mp hw]; show e.dep ≤ 3; omega
      · exact stay H4 s4
  · rintro σ G ⟨x5, x6, x7, us, rs, rfl, RG, bG, hlG, hW, hnG, hok, hlen, hA, hsm, hdp⟩
    exact ⟨_, rfl, q l us rs G hok (by omega) hsm hdp hlG hW lr lc nl RG bG⟩

abbrev s__law_source_text : Stmt := top 53
theorem sc__law_source_text : FnScope ["_law_rows", "_law_name_here", "_law_told"] ["_law_rows"] (defScope s__law_source_text) := ⟨rfl, rfl, rfl, by decide +kernel, rfl, by decide +kernel, by decide +kernel⟩
theorem ok__law_source_text {f1 : Addr} {e1 : FuncData} (d__law_source_text : D K mg "_law_source_text" s__law_source_text ["_law_rows"] f fd) (B : Blt mg) (d__law_expression_text : D K mg "_law_expression_text" s__law_expression_text ["_law_told"] f1 e1) : FnOk P w K mg base CX0 11 f fd ["_law_rows"] (spLStK K) := by
  have G__law_expression_text : FnOk P w K mg base CX0 10 f1 e1 ["_law_told"] (spLTx K 10) := ok__law_expression_text d__law_expression_text B 10
  refine d__law_source_text.F.ok sc__law_source_text (fun vs H Q E h => ?_) (fun cdv A outer s H vs Q E hr h => ?_)
  · obtain ⟨_, _, _, _, rfl, _⟩ := h
    rfl
  obtain ⟨kn, l, us, rs, rfl, hl, hW, hok, hn, q⟩ := h
  have hEq : Str.ofString "=" = sL [61] := by decide +kernel
  have hlu := hW.len
  have htx := hok.txl
  refine ⟨_, (pss_one (ps_ret (pe_join pe_str (pe_lc (own := [("_law_name_here", 1), ("_law_told", 2)]) (g := gTup K 2 (gCons (gName 1) (gCons (gName 2) gNil))) (tt := tYes) (by rfl) sc__law_source_text.nd (pi_list (pv 0)) (blkOk_by (own := [("_law_name_here", 1), ("_law_told", 2)]) (N := ["_law_rows", "_law_name_here", "_law_told"]) (sc := defScope s__law_source_text) (by decide +kernel)) (fun _ _ _ _ _ => (pg_tup (by rfl) (pgs_cons (pg_name (i := 1) sc__law_source_text.nd rfl (Or.inl rfl)) (pgs_cons (pg_name (i := 2) sc__law_source_text.nd rfl (Or.inl rfl)) pgs_nil)))) (fun _ _ _ _ _ => pts_nil) (fun _ _ _ _ _ => (pe_op op_add_str (pe_op op_add_str (pv 1) pe_str) (pe_call G__law_expression_text (hr.mono (by decide)) rfl d__law_expression_text.m d__law_expression_text.F.kp d__law_expression_text.b .nil pass0 (pa_cons (pv 2) pa_nil)))))))), ?_⟩
  refine ⟨⟨_, rfl⟩, _, rfl, l, rfl, ⟨us, SqL.here hl⟩, fun D hD => ?_⟩
  refine lc_list (K := K) (a := l) (xs := us) (tt := tYes) (fun i G => Same H G ∧ G D = some (.lst ((rs.take i).map fun w => V.str (sL w.txt)))) ⟨Same.new hD _, upd_same⟩ (fun i G _ z => SqL.here (z.1 _ _ hl)) ?_ ?_
  · rintro j x G hx ⟨sG, hG⟩
    have hj := (List.getElem?_eq_some_iff.mp hx).1
    obtain ⟨w0, hw, q1, ve, rfl, hq1, hve⟩ := hW.at hx
    have hjr := (List.getElem?_eq_some_iff.mp hw).1
    have hm := List.mem_of_getElem? hw
    have hq := (Tp.same sG).sqT hq1
    have etk : rs.take (j + 1) = rs.take j ++ [w0] := by rw [List.take_succ_eq_append_getElem hjr, (List.getElem?_eq_some_iff.mp hw).2]
    have ok0 := hok.ok w0 hm
    have l0 := htx w0 hm
    have el : w0.txt = w0.nm ++ (61 :: w0.e.txt) := rfl
    rw [el, List.length_append, List.length_cons] at l0
    refine ⟨q1, _, rfl, hq, rfl, _, _, rfl, _, _, rfl, rfl, ?_⟩
    refine ⟨rfl, ?_⟩
    refine ⟨_, rfl, _, _, rfl, rfl, fits (by rw [hEq, sL_len, sL_len, List.length_singleton]; omega), ?_⟩
    rw [hEq, sL_app]
    refine ⟨_, rfl, ve, w0.e, rfl, hve.tp (Tp.same sG), ok0.2.1, ?_, by omega, fun H2 s2 => ⟨_, _, rfl, rfl, fits (by rw [sL_len, sL_len, List.length_append, List.length_singleton]; omega), ?_⟩⟩
    · have := hok.dpl w0 hm
      omega
    · have h2 := s2 _ _ hG
      refine ⟨_, h2, small1000 (by rw [List.length_map, List.length_take]; omega), fun b u z => ?_, ?_⟩
      · rw [upd_ne (ne_of_none z hD)]
        exact s2 _ _ (sG _ _ z)
      · rw [upd_same, etk, List.map_append, List.map_singleton, sL_app, List.append_assoc]
        rfl
  · rintro G ⟨sG, hG⟩
    rw [hlu, List.take_length] at hG
    refine ⟨_, D, rs.map (fun w => sL w.txt), rfl, rfl, .inl (SqL.here ?_), ?_, ?_⟩
    · rw [List.map_map]
      exact hG
    · have hb : ((rs.map fun w => sL w.txt).map (·.length)).sum ≤ 100 * rs.length := by
        clear hG hlu hW hok hn q
        induction rs with
        | nil => exact Nat.zero_le _
        | cons w rs ih =>
          have h1 := htx w List.mem_cons_self
          have h2 := ih fun x hx => htx x (List.mem_cons_of_mem _ hx)
          rw [List.map_cons, List.map_cons, List.sum_cons, List.length_cons, sL_len]
          omega
      rw [List.length_map, show (Str.ofString ";").length = 1 by decide +kernel]
      omega
    · rw [join_rows]
      exact q G sG

abbrev s_Reader___init__ : Stmt := inClass (top 31) 0
theorem sc_Reader___init__ : FnScope ["self", "text"] ["self", "text"] (defScope s_Reader___init__) := ⟨rfl, rfl, rfl, by decide +kernel, rfl, by decide +kernel, by decide +kernel⟩
theorem ok_Reader___init__ {C : Addr} (F : Fun K "__init__" "Reader.__init__" s_Reader___init__ f fd) (T : RdT K mg C) : FnOk P w K mg base CX0 1 f fd ["self", "text"] (spRInit C) := by
  refine F.ok sc_Reader___init__ (fun vs H Q E h => ?_) (fun cdv A outer s H vs Q E hr h => ?_)
  · obtain ⟨_, _, _, rfl, _⟩ := h
    rfl
  obtain ⟨x, dx, cs, rfl, hx, hl, q⟩ := h
  refine ⟨_, (pss_cons (ps_fld (pv 0) (pv 1) rfl)
 (pss_cons (ps_fld (pv 0) pe_int rfl)
 (pss_one (ps_fld (pv 0) pe_int rfl)))), ?_⟩
  refine ⟨_, rfl, _, rfl, x, C, dx, [], rfl, hx, T.cl, T.n1, (by show 0 < 1000; decide), ?_⟩
  refine ⟨_, rfl, x, C, dx, _, rfl, upd_same, T.cl, T.n2, (by show 1 < 1000; decide), ?_⟩
  refine ⟨_, rfl, x, C, dx, _, rfl, upd_same, T.cl, T.n3, (by show 2 < 1000; decide), ?_⟩
  refine q _ ⟨⟨dx, ?_⟩, Nat.zero_le _, hl⟩ ((But.set.trans But.set).trans But.set)
  rw [upd_same, ← rf_new]

abbrev s_Reader_at_end : Stmt := inClass (top 31) 1
theorem sc_Reader_at_end : FnScope ["self"] ["self"] (defScope s_Reader_at_end) := ⟨rfl, rfl, rfl, by decide +kernel, rfl, by decide +kernel, by decide +kernel⟩
theorem ok_Reader_at_end {C : Addr} (F : Fun K "at_end" "Reader.at_end" s_Reader_at_end f fd) (T : RdT K mg C) (B : Blt mg) : FnOk P w K mg base CX0 1 f fd ["self"] (spREnd C) := by
  refine F.ok sc_Reader_at_end (fun vs H Q E h => ?_) (fun cdv A outer s H vs Q E hr h => ?_)
  · obtain ⟨_, _, _, _, rfl, _⟩ := h
    rfl
  obtain ⟨x, cs, p, d, rfl, hA, q⟩ := h
  obtain ⟨dx, hx⟩ := hA.ix
  refine ⟨_, (pss_one (ps_ret (pe_cmpR op_eq (pe_fld (pv 0) rfl) (pe_callB call_len_str (by rfl) B.len PySem.boot_len (pa_cons (pe_fld (pv 0) rfl) pa_nil)) (nomark _)))), ?_⟩
  refine ⟨_, rfl, x, C, dx, _, _, rfl, hx, T.cl, T.n2, rf_p _ _ _, _, rfl, x, C, dx, _, _, rfl, hx, T.cl, T.n1, rf_t _ _ _, _, rfl, fits (by rw [sL_len]; exact hA.hl), rfl, ?_⟩
  have e : decide (V.int (p : Int) = V.int ((sL cs).length : Nat)) = decide (p = cs.length) := by
    rw [sL_len]
    refine decide_eq_decide.mpr ⟨fun z => ?_, fun z => by rw [z]⟩
    have := V.int.inj z
    omega
  rw [e]
  exact q

abbrev s_Reader_sees : Stmt := inClass (top 31) 2
theorem sc_Reader_sees : FnScope ["self", "signs"] ["self", "signs"] (defScope s_Reader_sees) := ⟨rfl, rfl, rfl, by decide +kernel, rfl, by decide +kernel, by decide +kernel⟩
theorem ok_Reader_sees {C_Reader f1 : Addr} {e1 : FuncData} (F : Fun K "sees" "Reader.sees" s_Reader_sees f fd) (T_Reader : RdT K mg C_Reader) (B : Blt mg) (d_Reader_at_end : Mt K C_Reader "at_end" "Reader.at_end" s_Reader_at_end ["self"] f1 e1) : FnOk P w K mg base CX0 2 f fd ["self", "signs"] (spRSees C_Reader) := by
  have G_Reader_at_end : FnOk P w K mg base CX0 1 f1 e1 ["self"] (spREnd C_Reader) := ok_Reader_at_end d_Reader_at_end.F T_Reader B
  have T := T_Reader
  refine F.ok sc_Reader_sees (fun vs H Q E h => ?_) (fun cdv A outer s H vs Q E hr h => ?_)
  · obtain ⟨_, _, _, _, _, rfl, _⟩ := h
    rfl
  obtain ⟨x, cs, sg, p, d, rfl, hA, q⟩ := h
  obtain ⟨dx, hx⟩ := hA.ix
  refine ⟨_, (pss_one (ps_ret (pe_and (pe_not (pe_meth0 (pv 0) T_Reader.cl d_Reader_at_end.m G_Reader_at_end (hr.mono (by decide)) d_Reader_at_end.b .nil pass0)) (pe_one (pe_cmpR op_in_sign (pe_ix ix_str (pe_fld (pv 0) rfl) (pe_fld (pv 0) rfl) (fun _ _ => rfl)) (pv 1) (by with_unfolding_all rfl)))))), ?_⟩
  refine ⟨_, rfl, x, dx, _, rfl, hx, rf_no _ _ _ (by decide +kernel) (by decide +kernel) (by decide +kernel), x, cs, p, d, rfl, hA, _, rfl, _, rfl, ?_⟩
  refine ite2 (fun c => ?_) (fun c => ?_)
  · have e : p ≠ cs.length := fun z => by rw [decide_eq_true z] at c; cases c
    have hp := hA.hp
    obtain ⟨c, hc⟩ : ∃ c, cs[p]? = some c := ⟨_, List.getElem?_eq_getElem (by omega)⟩
    rw [sees_some hc] at q
    exact ⟨_, rfl, x, C_Reader, dx, _, _, rfl, hx, T.cl, T.n1, rf_t _ _ _, _, rfl, x, C_Reader, dx, _, _, rfl, hx, T.cl, T.n2, rf_p _ _ _, _, _, _, rfl, rfl, fits (by rw [sL_len]; exact hA.hl), atI_nat hc, _, rfl, c, sL sg, rfl, rfl, q⟩
  · have e : p = cs.length := by
      refine Classical.byContradiction fun z => c ?_
      rw [decide_eq_false z]
      rfl
    rw [sees_none (by rw [List.getElem?_eq_none_iff]; omega)] at q
    exact q

abbrev s_Reader_take : Stmt := inClass (top 31) 3
theorem sc_Reader_take : FnScope ["self", "signs"] ["self", "signs"] (defScope s_Reader_take) := ⟨rfl, rfl, rfl, by decide +kernel, rfl, by decide +kernel, by decide +kernel⟩
theorem ok_Reader_take {C_Reader f1 f2 : Addr} {e1 e2 : FuncData} (F : Fun K "take" "Reader.take" s_Reader_take f fd) (T_Reader : RdT K mg C_Reader) (B : Blt mg) (d_Reader_at_end : Mt K C_Reader "at_end" "Reader.at_end" s_Reader_at_end ["self"] f1 e1) (d_Reader_sees : Mt K C_Reader "sees" "Reader.sees" s_Reader_sees ["self", "signs"] f2 e2) : FnOk P w K mg base CX0 3 f fd ["self", "signs"] (spRTake C_Reader) := by
  have G_Reader_sees : FnOk P w K mg base CX0 2 f2 e2 ["self", "signs"] (spRSees C_Reader) := ok_Reader_sees d_Reader_sees.F T_Reader B d_Reader_at_end
  have T := T_Reader
  refine F.ok sc_Reader_take (fun vs H Q E h => ?_) (fun cdv A outer s H vs Q E hr h => ?_)
  · obtain ⟨_, _, _, _, _, _, rfl, _⟩ := h
    rfl
  obtain ⟨x, cs, sg, p, d, c, rfl, hA, hc, hs, q⟩ := h
  obtain ⟨dx, hx⟩ := hA.ix
  have hp := (List.getElem?_eq_some_iff.mp hc).1
  refine ⟨_, (pss_cons (ps_if (pt_not (pt_val (pe_meth (pv 0) T_Reader.cl d_Reader_sees.m G_Reader_sees (hr.mono (by decide)) d_Reader_sees.b .nil pass0 (pa_cons (pv 1) pa_nil)))) (pss_one ps_never) pss_nil)
 (pss_cons (ps_fldaug (pv 0) pe_int in_add)
 (pss_one (ps_ret (pe_ix ix_str (pe_fld (pv 0) rfl) (pe_op op_sub (pe_fld (pv 0) rfl) pe_int) (fun _ _ => rfl)))))), ?_⟩
  refine ⟨_, rfl, x, dx, _, rfl, hx, rf_no _ _ _ (by decide +kernel) (by decide +kernel) (by decide +kernel), _, rfl, x, cs, sg, p, d, rfl, hA, true, ?_, ?_⟩
  · rw [sees_some hc, decide_eq_true hs]
  refine iteF ⟨_, rfl, x, C_Reader, dx, _, _, rfl, hx, T.cl, T.n2, rf_p _ _ _, _, _, rfl, rfl, dx, _, hx, (by show 3 < 1000; decide), ?_⟩
  have ep : putF "place" (.int ((p : Int) + 1)) (rf (sL cs) p d) = rf (sL cs) (p + 1) d := rf_putp (sL cs) p d (p + 1)
  rw [ep]
  have hx2 : (upd H x (.ins C_Reader dx (rf (sL cs) (p + 1) d))) x = some (.ins C_Reader dx (rf (sL cs) (p + 1) d)) := upd_same
  refine ⟨_, rfl, x, C_Reader, dx, _, _, rfl, hx2, T.cl, T.n1, rf_t _ _ _, _, rfl, x, C_Reader, dx, _, _, rfl, hx2, T.cl, T.n2, rf_p _ _ _, _, _, rfl, rfl, _, _, c, rfl, rfl, fits (by rw [sL_len]; exact hA.hl), ?_, q _ ⟨⟨dx, hx2⟩, hp, hA.hl⟩ But.set⟩
  rw [show ((p + 1 : Nat) : Int) - 1 = (p : Int) by omega]
  exact atI_nat hc

abbrev s_Reader_take_digits : Stmt := inClass (top 31) 4
theorem sc_Reader_take_digits : FnScope ["self", "most", "digits"] ["self", "most"] (defScope s_Reader_take_digits) := ⟨rfl, rfl, rfl, by decide +kernel, rfl, by decide +kernel, by decide +kernel⟩
theorem ok_Reader_take_digits {C_Reader f1 f2 f3 : Addr} {e1 e2 e3 : FuncData} (F : Fun K "take_digits" "Reader.take_digits" s_Reader_take_digits f fd) (T_Reader : RdT K mg C_Reader) (B : Blt mg) (CR : CstR mg) (d_Reader_at_end : Mt K C_Reader "at_end" "Reader.at_end" s_Reader_at_end ["self"] f1 e1) (d_Reader_sees : Mt K C_Reader "sees" "Reader.sees" s_Reader_sees ["self", "signs"] f2 e2) (d_Reader_take : Mt K C_Reader "take" "Reader.take" s_Reader_take ["self", "signs"] f3 e3) : FnOk P w K mg base CX0 4 f fd ["self", "most"] (spRDig C_Reader) := by
  have G_Reader_sees : FnOk P w K mg base CX0 2 f2 e2 ["self", "signs"] (spRSees C_Reader) := ok_Reader_sees d_Reader_sees.F T_Reader B d_Reader_at_end
  have G_Reader_take : FnOk P w K mg base CX0 3 f3 e3 ["self", "signs"] (spRTake C_Reader) := ok_Reader_take d_Reader_take.F T_Reader B d_Reader_at_end d_Reader_sees
  have T := T_Reader
  obtain ⟨tk, C_DIGITS⟩ := CR.DIGITS
  refine F.ok sc_Reader_take_digits (fun vs H Q E h => ?_) (fun cdv A outer s H vs Q E hr h => ?_)
  · obtain ⟨_, _, _, _, _, rfl, _⟩ := h
    rfl
  obtain ⟨x, cs, p, d, m, rfl, hA, hm, q⟩ := h
  have noS : ∀ (p d : Nat), (rf (sL cs) p d).lookup ("sees" : Str) = none := fun p d => rf_no _ _ _ (by decide +kernel) (by decide +kernel) (by decide +kernel)
  have noT : ∀ (p d : Nat), (rf (sL cs) p d).lookup ("take" : Str) = none := fun p d => rf_no _ _ _ (by decide +kernel) (by decide +kernel) (by decide +kernel)
  refine ⟨_, (pss_cons (ps_set (i := 2) sc_Reader_take_digits.nd rfl (Or.inl rfl) pe_str)
 (pss_cons (ps_while PassesOwn.never (PW.pt (pw_and (pt_cmpR op_lt (pe_callB call_len_str (by rfl) B.len PySem.boot_len (pa_cons (pv 2) pa_nil)) (pv 1) (nomark _)) (pw_and1 (pt_val (pe_meth (pv 0) T_Reader.cl d_Reader_sees.m G_Reader_sees (hr.mono (by decide)) d_Reader_sees.b .nil pass0 (pa_cons (pe_glob (v := .str "0123456789") rfl C_DIGITS ⟨_, rfl⟩) pa_nil)))))) (pss_one (ps_aug (i := 2) sc_Reader_take_digits.nd rfl (Or.inl rfl) (pe_meth (pv 0) T_Reader.cl d_Reader_take.m G_Reader_take (hr.mono (by decide)) d_Reader_take.b .nil pass0 (pa_cons (pe_glob (v := .str "0123456789") rfl C_DIGITS ⟨_, rfl⟩) pa_nil)) iop_add_str)))
 (pss_one (ps_ret (pv 2))))), ?_⟩
  obtain ⟨W, hW⟩ : ∃ W : Nat → L2.St → Hp → Prop, W = fun m' σ G => ∃ ds : List Nat, m' = m - ds.length ∧ σ = [some (.ref x), some (.int (m : Int)), some (.str (sL ds))] ∧ RdA C_Reader x cs (p + ds.length) d G ∧ But x H G ∧ ds.length ≤ m ∧ dgs cs p m = ds ++ dgs cs (p + ds.length) (m - ds.length) := ⟨_, rfl⟩
  refine ⟨W, ⟨m, by rw [hW]; exact ⟨[], rfl, rfl, hA, (fun _ _ _ e => e), Nat.zero_le _, rfl⟩⟩, fun m' σ G hw => ?_⟩
  rw [hW] at hw
  obtain ⟨ds, rfl, rfl, hG, hb, hdm, hds⟩ := hw
  obtain ⟨dx, hx⟩ := hG.ix
  have fin : seesB cs (p + ds.length) DIGS = false ∨ m = ds.length → RdA C_Reader x cs (p + (dgs cs p m).length) d G ∧ sL (dgs cs p m) = sL ds := fun z => by
    have e : dgs cs p m = ds := by
      rw [hds]
      rcases z with z | z
      · rw [dgs_stop z, List.append_nil]
      · rw [show m - ds.length = 0 by omega]
        show ds ++ [] = ds
        rw [List.append_nil]
    rw [e]
    exact ⟨hG, rfl⟩
  refine ⟨_, rfl, _, rfl, fits (by rw [sL_len]; omega), _, rfl, _, _, rfl, rfl, _, rfl, ?_⟩
  refine ite2 (fun c => ?_) (fun c => ?_)
  · have c : (((sL ds).length : Nat) : Int) < (m : Int) := of_decide_eq_true c
    rw [sL_len] at c
    have c : ds.length < m := by omega
    refine ⟨_, rfl, x, dx, _, rfl, hx, noS _ _, x, cs, DIGS, _, d, rfl, hG, _, rfl, ?_⟩
    refine ite2 (fun c2 => ?_) (fun c2 => ?_)
    · obtain ⟨a, ha, hd⟩ := sees_get c2
      refine ⟨W (m - (ds.length + 1)), fun σ' G' z => ⟨_, by omega, z⟩, ?_⟩
      refine ⟨_, rfl, _, rfl, x, dx, _, rfl, hx, noT _ _, x, cs, DIGS, _, d, a, rfl, hG, ha, hd, fun G2 hG2 b2 => ⟨_, _, rfl, rfl, fits (by rw [sL_len, sL_len, List.length_singleton]; omega), ?_⟩⟩
      rw [sL_app]
      have el : (ds ++ [a]).length = ds.length + 1 := by rw [List.length_append]; rfl
      show W (m - (ds.length + 1)) _ _
      rw [hW]
      refine ⟨ds ++ [a], by rw [el], rfl, ?_, hb.trans b2, by rw [el]; omega, ?_⟩
      · rw [el, ← Nat.add_assoc]
        exact hG2
      · rw [hds, el, show m - ds.length = (m - (ds.length + 1)) + 1 by omega, dgs_step ha hd, List.append_assoc, ← Nat.add_assoc]
        rfl
    · have c2 : seesB cs (p + ds.length) DIGS = false := by
        cases e : seesB cs (p + ds.length) DIGS with
        | false => rfl
        | true => exact absurd e c2
      obtain ⟨z1, z2⟩ := fin (.inl c2)
      refine ⟨_, rfl, ?_⟩
      rw [← z2]
      exact q G z1 hb
  · have c : ¬ ds.length < m := fun z => c (decide_eq_true (by rw [sL_len]; omega))
    obtain ⟨z1, z2⟩ := fin (.inr (by omega))
    refine ⟨_, rfl, ?_⟩
    rw [← z2]
    exact q G z1 hb

abbrev s_Reader_take_name : Stmt := inClass (top 31) 5
theorem sc_Reader_take_name : FnScope ["self"] ["self"] (defScope s_Reader_take_name) := ⟨rfl, rfl, rfl, by decide +kernel, rfl, by decide +kernel, by decide +kernel⟩
theorem ok_Reader_take_name {C_Reader f1 f2 f3 f4 : Addr} {e1 e2 e3 e4 : FuncData} (F : Fun K "take_name" "Reader.take_name" s_Reader_take_name f fd) (T_Reader : RdT K mg C_Reader) (B : Blt mg) (CR : CstR mg) (d_Reader_at_end : Mt K C_Reader "at_end" "Reader.at_end" s_Reader_at_end ["self"] f1 e1) (d_Reader_sees : Mt K C_Reader "sees" "Reader.sees" s_Reader_sees ["self", "signs"] f2 e2) (d_Reader_take : Mt K C_Reader "take" "Reader.take" s_Reader_take ["self", "signs"] f3 e3)
    (d_Reader_take_digits : Mt K C_Reader "take_digits" "Reader.take_digits" s_Reader_take_digits ["self", "most"] f4 e4) : FnOk P w K mg base CX0 5 f fd ["self"] (spRName C_Reader) := by
  have G_Reader_take : FnOk P w K mg base CX0 3 f3 e3 ["self", "signs"] (spRTake C_Reader) := ok_Reader_take d_Reader_take.F T_Reader B d_Reader_at_end d_Reader_sees
  have G_Reader_take_digits : FnOk P w K mg base CX0 4 f4 e4 ["self", "most"] (spRDig C_Reader) := ok_Reader_take_digits d_Reader_take_digits.F T_Reader B CR d_Reader_at_end d_Reader_sees d_Reader_take
  have T := T_Reader
  obtain ⟨t1, C_CAPITALS⟩ := CR.CAPITALS
  obtain ⟨t2, C_MAX_NAME_DIGITS⟩ := CR.MAX_NAME_DIGITS
  refine F.ok sc_Reader_take_name (fun vs H Q E h => ?_) (fun cdv A outer s H vs Q E hr h => ?_)
  · obtain ⟨_, _, _, _, _, rfl, _⟩ := h
    rfl
  obtain ⟨x, cs, p, d, c, rfl, hA, hc, hs, q⟩ := h
  obtain ⟨dx, hx⟩ := hA.ix
  refine ⟨_, (pss_one (ps_ret (pe_op op_add_str (pe_meth (pv 0) T_Reader.cl d_Reader_take.m G_Reader_take (hr.mono (by decide)) d_Reader_take.b .nil pass0 (pa_cons (pe_glob (v := .str "ABCDEFGHIJKLMNOPQRSTUVWXYZ") rfl C_CAPITALS ⟨_, rfl⟩) pa_nil)) (pe_meth (pv 0) T_Reader.cl d_Reader_take_digits.m G_Reader_take_digits (hr.mono (by decide)) d_Reader_take_digits.b .nil pass0 (pa_cons (pe_glob (v := .int 2) rfl C_MAX_NAME_DIGITS ⟨_, rfl⟩) pa_nil))))), ?_⟩
  refine ⟨_, rfl, x, dx, _, rfl, hx, rf_no _ _ _ (by decide +kernel) (by decide +kernel) (by decide +kernel), x, cs, CAPS, p, d, c, rfl, hA, hc, hs, fun H2 hA2 b2 => ?_⟩
  obtain ⟨dx2, hx2⟩ := hA2.ix
  refine ⟨_, rfl, x, dx2, _, rfl, hx2, rf_no _ _ _ (by decide +kernel) (by decide +kernel) (by decide +kernel), x, cs, p + 1, d, 2, rfl, hA2, by decide, fun H3 hA3 b3 => ?_⟩
  have := dgs_len cs (p + 1) 2
  refine ⟨_, _, rfl, rfl, fits (by rw [sL_len, sL_len, List.length_singleton]; omega), ?_⟩
  rw [sL_app]
  exact q H3 hA3 (b2.trans b3)

abbrev s_Reader_take_powers : Stmt := inClass (top 31) 6
theorem sc_Reader_take_powers : FnScope ["self", "powers", "sign", "number"] ["self"] (defScope s_Reader_take_powers) := ⟨rfl, rfl, rfl, by decide +kernel, rfl, by decide +kernel, by decide +kernel⟩
theorem int_digits {cs : List Nat} {p c : Nat} (hc : c ∈ FDGS) : PySem.intText? (sL (c :: dgs cs p 29)) = some ((PySem.NumText.digitsVal (c :: dgs cs p 29) : Nat) : Int) := by
  refine PySem.intText_digits (x := sL (c :: dgs cs p 29)) (fun a ha => ?_) (fun z => nomatch z) ?_
  · have ha : a ∈ c :: dgs cs p 29 := ha
    rcases List.mem_cons.mp ha with rfl | ha
    · have := (fdgs_iff _).mp hc
      omega
    · exact (digs_iff _).mp (dgs_all _ _ _ _ ha)
  · have := dgs_len cs p 29
    rw [sL_len, List.length_cons]
    omega
theorem ok_Reader_take_powers {C_Reader f1 f2 f3 f4 : Addr} {e1 e2 e3 e4 : FuncData} (F : Fun K "take_powers" "Reader.take_powers" s_Reader_take_powers f fd) (T_Reader : RdT K mg C_Reader) (B : Blt mg) (CR : CstR mg) (d_Reader_at_end : Mt K C_Reader "at_end" "Reader.at_end" s_Reader_at_end ["self"] f1 e1) (d_Reader_sees : Mt K C_Reader "sees" "Reader.sees" s_Reader_sees ["self", "signs"] f2 e2) (d_Reader_take : Mt K C_Reader "take" "Reader.take" s_Reader_take ["self", "signs"] f3 e3)
    (d_Reader_take_digits : Mt K C_Reader "take_digits" "Reader.take_digits" s_Reader_take_digits ["self", "most"] f4 e4) : FnOk P w K mg base CX0 5 f fd ["self"] (spRPows K C_Reader) := by
  have G_Reader_sees : FnOk P w K mg base CX0 2 f2 e2 ["self", "signs"] (spRSees C_Reader) := ok_Reader_sees d_Reader_sees.F T_Reader B d_Reader_at_end
  have G_Reader_take : FnOk P w K mg base CX0 3 f3 e3 ["self", "signs"] (spRTake C_Reader) := ok_Reader_take d_Reader_take.F T_Reader B d_Reader_at_end d_Reader_sees
  have G_Reader_take_digits : FnOk P w K mg base CX0 4 f4 e4 ["self", "most"] (spRDig C_Reader) := ok_Reader_take_digits d_Reader_take_digits.F T_Reader B CR d_Reader_at_end d_Reader_sees d_Reader_take
  have T := T_Reader
  obtain ⟨t1, C_FIRST_DIGITS⟩ := CR.FIRST_DIGITS
  obtain ⟨t2, C_MAX_POWER_DIGITS⟩ := CR.MAX_POWER_DIGITS
  refine F.ok sc_Reader_take_powers (fun vs H Q E h => ?_) (fun cdv A outer s H vs Q E hr h => ?_)
  · obtain ⟨_, _, _, _, _, _, rfl, _⟩ := h
    rfl
  obtain ⟨x, cs, p, d, p', ps, rfl, hA, hP, q⟩ := h
  have noA : ∀ (p d : Nat) {m : Str}, ¬ m = "text" → ¬ m = "place" → ¬ m = "deepest" → (rf (sL cs) p d).lookup m = none := fun p d m h1 h2 h3 => rf_no _ _ _ h1 h2 h3
  refine ⟨_, (pss_cons (ps_set (i := 1) sc_Reader_take_powers.nd rfl (Or.inl rfl) (pe_lst pa_nil))
 (pss_cons (ps_while PassesOwn.never (pt_val (pe_meth (pv 0) T_Reader.cl d_Reader_sees.m G_Reader_sees (hr.mono (by decide)) d_Reader_sees.b .nil pass0 (pa_cons pe_str pa_nil))) (pss_cons (ps_set (i := 2) sc_Reader_take_powers.nd rfl (Or.inl rfl) (pe_meth (pv 0) T_Reader.cl d_Reader_take.m G_Reader_take (hr.mono (by decide)) d_Reader_take.b .nil pass0 (pa_cons pe_str pa_nil)))
 (pss_cons (ps_set (i := 3) sc_Reader_take_powers.nd rfl (Or.inl rfl) (pe_op op_add_str (pe_meth (pv 0) T_Reader.cl d_Reader_take.m G_Reader_take (hr.mono (by decide)) d_Reader_take.b .nil pass0 (pa_cons (pe_glob (v := .str "123456789") rfl C_FIRST_DIGITS ⟨_, rfl⟩) pa_nil)) (pe_meth (pv 0) T_Reader.cl d_Reader_take_digits.m G_Reader_take_digits (hr.mono (by decide)) d_Reader_take_digits.b .nil pass0 (pa_cons (pe_op op_sub (pe_glob (v := .int 30) rfl C_MAX_POWER_DIGITS ⟨_, rfl⟩) pe_int) pa_nil))))
 (pss_one (ps_expr (pe_bm PySem.F.plainAttrs_list PySem.F.slot_list_append PySem.F.type_list_append mt_append (pv 1) (pa_cons (pe_tup (pa_cons (pv 2) (pa_cons (pe_callTy call_int_str (by rfl) B.int (by decide +kernel) (pa_cons (pv 3) pa_nil)) pa_nil))) pa_nil)))))))
 (pss_one (ps_ret (pv 1))))), ?_⟩
  refine ⟨zero_le', fun l nl => ?_⟩
  obtain ⟨dx0, hx0⟩ := hA.ix
  have nlx : l ≠ x := fun z => by rw [z, hx0] at nl; cases nl
  obtain ⟨W, hW⟩ : ∃ W : Nat → L2.St → Hp → Prop, W = fun m' σ G => ∃ (p1 : Nat) (ps0 ps1 : List St1) (us : List V) (x2 x3 : Option V), m' = cs.length - p1 ∧ σ = [some (.ref x), some (.ref l), x2, x3] ∧ RdA C_Reader x cs p1 d G ∧ But x H G ∧ G l = some (.lst us) ∧ StAll K G us ps0 ∧ ps = ps0 ++ ps1 ∧ Pw cs p1 ps1 p' ∧ ps0.length ≤ p1 := ⟨_, rfl⟩
  have sl := Same.new nl (.lst [])
  refine ⟨W, ⟨cs.length - p, by rw [hW]; exact ⟨p, [], ps, [], none, none, rfl, rfl, hA.same sl, But.same sl, upd_same, .nil, rfl, hP, Nat.zero_le _⟩⟩, fun m' σ G hw => ?_⟩
  rw [hW] at hw
  obtain ⟨p1, ps0, ps1, us, x2, x3, rfl, rfl, hG, hb, hl, hS, hps, hP1, hlen⟩ := hw
  obtain ⟨dx, hx⟩ := hG.ix
  refine ⟨_, rfl, x, dx, _, rfl, hx, noA _ _ (by decide +kernel) (by decide +kernel) (by decide +kernel), x, cs, PWRS, _, d, rfl, hG, _, rfl, ?_⟩
  cases hP1 with
  | stop h0 =>
    rw [h0]
    refine iteF ⟨_, rfl, ?_⟩
    rw [List.append_nil] at hps
    rw [hps] at q
    exact q l us G hG hb nl hl hS
  | @more _ s c _ ps2 h1 h2 h3 h4 h5 =>
    rw [show seesB cs p1 PWRS = true by rw [sees_some h1, decide_eq_true h2]]
    have hp1 := (List.getElem?_eq_some_iff.mp h1).1
    refine iteT ⟨W (cs.length - (p1 + 2 + (dgs cs (p1 + 2) 29).length)), fun σ' G' z => ⟨_, by omega, z⟩, ?_⟩
    refine ⟨_, rfl, x, dx, _, rfl, hx, noA _ _ (by decide +kernel) (by decide +kernel) (by decide +kernel), x, cs, PWRS, p1, d, s, rfl, hG, h1, h2, fun G2 hG2 b2 => ?_⟩
    obtain ⟨dx2, hx2⟩ := hG2.ix
    refine ⟨_, rfl, x, dx2, _, rfl, hx2, noA _ _ (by decide +kernel) (by decide +kernel) (by decide +kernel), x, cs, FDGS, p1 + 1, d, c, rfl, hG2, h3, h4, fun G3 hG3 b3 => ?_⟩
    obtain ⟨dx3, hx3⟩ := hG3.ix
    refine ⟨_, rfl, x, dx3, _, rfl, hx3, noA _ _ (by decide +kernel) (by decide +kernel) (by decide +kernel), _, _, rfl, rfl, x, cs, p1 + 2, d, 29, rfl, hG3, by decide, fun G4 hG4 b4 => ?_⟩
    have dl := dgs_len cs (p1 + 2) 29
    refine ⟨_, _, rfl, rfl, fits (by rw [sL_len, sL_len, List.length_singleton]; omega), ?_⟩
    rw [sL_app]
    have b24 : But x G G4 := (b2.trans b3).trans b4
    have hl4 := b24 _ _ nlx hl
    have hS4 := hS.tp (tp_ins hx b24)
    refine ⟨_, rfl, .inl ⟨rfl, _, SqL.here hl4⟩, _, rfl, _, rfl, _, _, rfl, int_digits h4, by rw [sL_len]; show (dgs cs (p1 + 2) 29).length + 1 ≤ 640; omega, two_le, fun t nt => ?_⟩
    have st := Same.new nt (.tup [.str (sL [s]), .int ((PySem.NumText.digitsVal (c :: dgs cs (p1 + 2) 29) : Nat) : Int)])
    have hl5 := st _ _ hl4
    have hul : us.length = ps0.length := hS.len
    have hcl := hG.hl
    refine ⟨l, _, _, rfl, rfl, hl5, Nat.lt_of_le_of_lt (show us.length ≤ 10000 by omega) (by decide), ?_⟩
    show W _ _ _
    rw [hW]
    have tp5 := (Tp.same st).trans (Tp.but hl5 (But.set (o := .lst (us ++ [.ref t]))))
    refine ⟨_, ps0 ++ [.pw s ((PySem.NumText.digitsVal (c :: dgs cs (p1 + 2) 29) : Nat) : Int)], ps2, us ++ [.ref t], _, _, rfl, rfl, ?_, ?_, upd_same, (hS4.tp tp5).app (.cons ⟨t, rfl, ?_⟩ .nil), by rw [hps, List.append_assoc]; rfl, h5, ?_⟩
    · obtain ⟨dx4, hx4⟩ := hG4.ix
      exact ⟨⟨dx4, by rw [upd_ne nlx.symm]; exact st _ _ hx4⟩, hG4.hp, hG4.hl⟩
    · intro b o nb e
      rw [upd_ne (ne_of_none e nl)]
      exact st _ _ (b24 _ _ nb (hb _ _ nb e))
    · exact (Tp.but hl5 (But.set (o := .lst (us ++ [.ref t])))).sqT (SqT.here upd_same)
    · rw [List.length_append, List.length_singleton]
      omega

abbrev s_Reader_take_atom : Stmt := inClass (top 31) 7
theorem sc_Reader_take_atom : FnScope ["self"] ["self"] (defScope s_Reader_take_atom) := ⟨rfl, rfl, rfl, by decide +kernel, rfl, by decide +kernel, by decide +kernel⟩
theorem ok_Reader_take_atom {C_Reader f1 f2 f3 f4 f5 : Addr} {e1 e2 e3 e4 e5 : FuncData} (F : Fun K "take_atom" "Reader.take_atom" s_Reader_take_atom f fd) (T_Reader : RdT K mg C_Reader) (B : Blt mg) (CR : CstR mg) (d_Reader_at_end : Mt K C_Reader "at_end" "Reader.at_end" s_Reader_at_end ["self"] f1 e1) (d_Reader_sees : Mt K C_Reader "sees" "Reader.sees" s_Reader_sees ["self", "signs"] f2 e2) (d_Reader_take : Mt K C_Reader "take" "Reader.take" s_Reader_take ["self", "signs"] f3 e3)
    (d_Reader_take_digits : Mt K C_Reader "take_digits" "Reader.take_digits" s_Reader_take_digits ["self", "most"] f4 e4) (d_Reader_take_name : Mt K C_Reader "take_name" "Reader.take_name" s_Reader_take_name ["self"] f5 e5) : FnOk P w K mg base CX0 6 f fd ["self"] (spRAtom K C_Reader) := by
  have G_Reader_sees : FnOk P w K mg base CX0 2 f2 e2 ["self", "signs"] (spRSees C_Reader) := ok_Reader_sees d_Reader_sees.F T_Reader B d_Reader_at_end
  have G_Reader_take : FnOk P w K mg base CX0 3 f3 e3 ["self", "signs"] (spRTake C_Reader) := ok_Reader_take d_Reader_take.F T_Reader B d_Reader_at_end d_Reader_sees
  have G_Reader_take_name : FnOk P w K mg base CX0 5 f5 e5 ["self"] (spRName C_Reader) := ok_Reader_take_name d_Reader_take_name.F T_Reader B CR d_Reader_at_end d_Reader_sees d_Reader_take d_Reader_take_digits
  refine F.ok sc_Reader_take_atom (fun vs H Q E h => ?_) (fun cdv A outer s H vs Q E hr h => ?_)
  · obtain ⟨_, _, _, _, _, _, rfl, _⟩ := h
    rfl
  obtain ⟨x, cs, p, d, p', st, rfl, hA, hat, q⟩ := h
  obtain ⟨dx, hx⟩ := hA.ix
  have noA : ∀ {m : Str}, ¬ m = "text" → ¬ m = "place" → ¬ m = "deepest" → (rf (sL cs) p d).lookup m = none := fun h1 h2 h3 => rf_no _ _ _ h1 h2 h3
  refine ⟨_, (pss_cons (ps_if (pt_val (pe_meth (pv 0) T_Reader.cl d_Reader_sees.m G_Reader_sees (hr.mono (by decide)) d_Reader_sees.b .nil pass0 (pa_cons pe_str pa_nil))) (pss_one (ps_ret (pe_tup (pa_cons (pe_meth (pv 0) T_Reader.cl d_Reader_take.m G_Reader_take (hr.mono (by decide)) d_Reader_take.b .nil pass0 (pa_cons pe_str pa_nil)) (pa_cons pe_int pa_nil))))) pss_nil)
 (pss_one (ps_ret (pe_tup (pa_cons pe_str (pa_cons (pe_meth0 (pv 0) T_Reader.cl d_Reader_take_name.m G_Reader_take_name (hr.mono (by decide)) d_Reader_take_name.b .nil pass0) pa_nil)))))), ?_⟩
  have hXL : (Str.ofString "x") = sL [120] := by decide +kernel
  refine ⟨_, rfl, x, dx, _, rfl, hx, noA (by decide +kernel) (by decide +kernel) (by decide +kernel), x, cs, [120], p, d, by rw [← hXL]; rfl, hA, _, rfl, ?_⟩
  cases hat with
  | gen hc =>
    rw [show seesB cs p [120] = true by rw [sees_some hc]; rfl]
    refine iteT ⟨_, rfl, x, dx, _, rfl, hx, noA (by decide +kernel) (by decide +kernel) (by decide +kernel), x, cs, [120], p, d, 120, by rw [← hXL]; rfl, hA, hc, List.mem_singleton.mpr rfl, fun H2 hA2 b2 => ⟨two_le, fun t nt => ?_⟩⟩
    have st := Same.new nt (.tup [.str (sL [120]), .int 1])
    exact q (.ref t) _ (hA2.same st) (b2.trans (But.same st)) ⟨t, rfl, by rw [show St1.kind .gen = sL [120] from hXL]; exact SqT.here upd_same⟩
  | @nm c hc hs =>
    have hcc := (caps_iff c).mp hs
    rw [show seesB cs p [120] = false by rw [sees_some hc]; exact decide_eq_false (fun z => by have := List.mem_singleton.mp z; omega)]
    refine iteF ⟨_, rfl, x, dx, _, rfl, hx, noA (by decide +kernel) (by decide +kernel) (by decide +kernel), x, cs, p, d, c, rfl, hA, hc, hs, fun H2 hA2 b2 => ⟨two_le, fun t nt => ?_⟩⟩
    have st := Same.new nt (.tup [.str "name", .str (sL (c :: dgs cs (p + 1) 2))])
    exact q (.ref t) _ (hA2.same st) (b2.trans (But.same st)) ⟨t, rfl, SqT.here upd_same⟩

abbrev s_Reader_take_expression : Stmt := inClass (top 31) 8
theorem sc_Reader_take_expression : FnScope ["self", "steps", "halves"] ["self"] (defScope s_Reader_take_expression) := ⟨rfl, rfl, rfl, by decide +kernel, rfl, by decide +kernel, by decide +kernel⟩
def hbV (H : List Bool) : List V := H.map V.bl
theorem hbV_snoc (H : List Bool) (b : Bool) : hbV (H ++ [b]) = hbV H ++ [.bl b] := by
  unfold hbV
  rw [List.map_append]
  rfl
theorem hbV_len (H : List Bool) : (hbV H).length = H.length := List.length_map _
theorem ok_Reader_take_expression {C_Reader f1 f2 f3 f4 f5 f6 f7 : Addr} {e1 e2 e3 e4 e5 e6 e7 : FuncData} (F : Fun K "take_expression" "Reader.take_expression" s_Reader_take_expression f fd) (T_Reader : RdT K mg C_Reader) (B : Blt mg) (CR : CstR mg) (d_Reader_at_end : Mt K C_Reader "at_end" "Reader.at_end" s_Reader_at_end ["self"] f1 e1) (d_Reader_sees : Mt K C_Reader "sees" "Reader.sees" s_Reader_sees ["self", "signs"] f2 e2) (d_Reader_take : Mt K C_Reader "take" "Reader.take" s_Reader_take ["self", "signs"] f3 e3)
    (d_Reader_take_digits : Mt K C_Reader "take_digits" "Reader.take_digits" s_Reader_take_digits ["self", "most"] f4 e4) (d_Reader_take_name : Mt K C_Reader "take_name" "Reader.take_name" s_Reader_take_name ["self"] f5 e5) (d_Reader_take_powers : Mt K C_Reader "take_powers" "Reader.take_powers" s_Reader_take_powers ["self"] f6 e6) (d_Reader_take_atom : Mt K C_Reader "take_atom" "Reader.take_atom" s_Reader_take_atom ["self"] f7 e7) : FnOk P w K mg base CX0 7 f fd ["self"] (spRExpr K C_Reader) := by
  have G_Reader_sees : FnOk P w K mg base CX0 2 f2 e2 ["self", "signs"] (spRSees C_Reader) := ok_Reader_sees d_Reader_sees.F T_Reader B d_Reader_at_end
  have G_Reader_take : FnOk P w K mg base CX0 3 f3 e3 ["self", "signs"] (spRTake C_Reader) := ok_Reader_take d_Reader_take.F T_Reader B d_Reader_at_end d_Reader_sees
  have G_Reader_take_powers : FnOk P w K mg base CX0 5 f6 e6 ["self"] (spRPows K C_Reader) := ok_Reader_take_powers d_Reader_take_powers.F T_Reader B CR d_Reader_at_end d_Reader_sees d_Reader_take d_Reader_take_digits
  have G_Reader_take_atom : FnOk P w K mg base CX0 6 f7 e7 ["self"] (spRAtom K C_Reader) := ok_Reader_take_atom d_Reader_take_atom.F T_Reader B CR d_Reader_at_end d_Reader_sees d_Reader_take d_Reader_take_digits d_Reader_take_name
  have T := T_Reader
  refine F.ok sc_Reader_take_expression (fun vs H Q E h => ?_) (fun cdv A outer s H vs Q E hr h => ?_)
  · obtain ⟨_, _, _, _, _, _, _, rfl, _⟩ := h
    rfl
  obtain ⟨x, cs, p0, d0, p', d', S', rfl, hA, hR, q⟩ := h
  have noA : ∀ (p d : Nat) {m : Str}, ¬ m = "text" → ¬ m = "place" → ¬ m = "deepest" → (rf (sL cs) p d).lookup m = none := fun p d m h1 h2 h3 => rf_no _ _ _ h1 h2 h3
  have hPL : (Str.ofString "(") = sL [40] := by decide +kernel
  have hPR : (Str.ofString ")") = sL [41] := by decide +kernel
  refine ⟨_, (pss_cons (ps_set (i := 1) sc_Reader_take_expression.nd rfl (Or.inl rfl) (pe_lst pa_nil))
 (pss_cons (ps_set (i := 2) sc_Reader_take_expression.nd rfl (Or.inl rfl) (pe_lst pa_nil))
 (pss_one (ps_while PassesOwn.never (pt_truth pe_bl (by intro _; rfl)) (pss_cons (ps_while PassesOwn.never (pt_val (pe_meth (pv 0) T_Reader.cl d_Reader_sees.m G_Reader_sees (hr.mono (by decide)) d_Reader_sees.b .nil pass0 (pa_cons pe_str pa_nil))) (pss_cons (ps_expr (pe_meth (pv 0) T_Reader.cl d_Reader_take.m G_Reader_take (hr.mono (by decide)) d_Reader_take.b .nil pass0 (pa_cons pe_str pa_nil)))
 (pss_cons (ps_expr (pe_bm PySem.F.plainAttrs_list PySem.F.slot_list_append PySem.F.type_list_append mt_append (pv 2) (pa_cons pe_bl pa_nil)))
 (pss_one (ps_fld (pv 0) (pe_callB (call_max2 rfl) (by rfl) B.max (by decide +kernel) (pa_cons (pe_fld (pv 0) rfl) (pa_cons (pe_callB call_len_seq (by rfl) B.len PySem.boot_len (pa_cons (pv 2) pa_nil)) pa_nil))) rfl)))))
 (pss_cons (ps_expr (pe_bm PySem.F.plainAttrs_list PySem.F.slot_list_append PySem.F.type_list_append mt_append (pv 1) (pa_cons (pe_meth0 (pv 0) T_Reader.cl d_Reader_take_atom.m G_Reader_take_atom (hr.mono (by decide)) d_Reader_take_atom.b .nil pass0) pa_nil)))
 (pss_cons (ps_aug (i := 1) sc_Reader_take_expression.nd rfl (Or.inl rfl) (pe_meth0 (pv 0) T_Reader.cl d_Reader_take_powers.m G_Reader_take_powers (hr.mono (by decide)) d_Reader_take_powers.b .nil pass0) iop_ext)
 (pss_cons (ps_while PassesOwn.never (PW.pt (pw_and (pt_truth (pv 2) (by intro _; rfl)) (pw_and1 (pt_truth (pe_ix ix_list (pv 2) (pe_un un_neg pe_int) (fun _ _ => rfl)) (by intro _; rfl))))) (pss_cons (ps_expr (pe_meth (pv 0) T_Reader.cl d_Reader_take.m G_Reader_take (hr.mono (by decide)) d_Reader_take.b .nil pass0 (pa_cons pe_str pa_nil)))
 (pss_cons (ps_expr (pe_bm0 PySem.F.plainAttrs_list PySem.F.slot_list_pop PySem.F.type_list_pop mt_pop (pv 2)))
 (pss_cons (ps_expr (pe_bm PySem.F.plainAttrs_list PySem.F.slot_list_append PySem.F.type_list_append mt_append (pv 1) (pa_cons (pe_tup (pa_cons pe_str (pa_cons pe_int pa_nil))) pa_nil)))
 (pss_one (ps_aug (i := 1) sc_Reader_take_expression.nd rfl (Or.inl rfl) (pe_meth0 (pv 0) T_Reader.cl d_Reader_take_powers.m G_Reader_take_powers (hr.mono (by decide)) d_Reader_take_powers.b .nil pass0) iop_ext))))))
 (pss_cons (ps_if (pt_not (pt_truth (pv 2) (by intro _; rfl))) (pss_one (ps_ret (pv 1))) pss_nil)
 (pss_one (ps_asg pe_bl (pg_sub (pv 2) (pe_un un_neg pe_int) set_list)))))))))))), ?_⟩
  refine ⟨zero_le', fun l nl => ⟨zero_le', fun hv nhv => ?_⟩⟩
  obtain ⟨dx0, hx0⟩ := hA.ix
  have nlx : l ≠ x := fun z => by rw [z, hx0] at nl; cases nl
  have s1 := Same.new nl (.lst [])
  have nhx : hv ≠ x := fun z => by rw [z, s1 _ _ hx0] at nhv; cases nhv
  have nhl : hv ≠ l := fun z => by rw [z, upd_same] at nhv; cases nhv
  have hv0 : H hv = none := s1.free nhv
  have s2 := s1.trans (Same.new nhv (.lst []))
  -- what stands at each head of the loops
  obtain ⟨J, hJ⟩ : ∃ J : Bool → Nat → List Bool → List St1 → L2.St → Hp → Prop, J = fun b p Hs S σ G => ∃ (d : Nat) (us : List V), σ = [some (.ref x), some (.ref l), some (.ref hv)] ∧ RdA C_Reader x cs p d G ∧ But x H G ∧ G l = some (.lst us) ∧ StAll K G us S ∧ G hv = some (.lst (hbV Hs)) ∧ Run cs b p Hs S d (p', S', d') ∧ S.length ≤ p ∧ Hs.length ≤ p := ⟨_, rfl⟩
  have keep : ∀ {G G' : Hp} {b : Bool} {dx : Addr} {fs : List (Str × V)}, But x H G → G x = some (.ins C_Reader dx fs) → But x G G' → But x H G' := fun h1 _ h2 => h1.trans h2
  have app : ∀ {G : Hp} {us : List V} {S : List St1} {v : V} {s : St1}, G l = some (.lst us) → StAll K G us S → StV K G v s → StAll K (upd G l (.lst (us ++ [v]))) (us ++ [v]) (S ++ [s]) := fun hl hS hv' =>
    (hS.tp (Tp.but hl But.set)).app (.cons (hv'.tp (Tp.but hl But.set)) .nil)
  have lt10 : ∀ {n : Nat}, n ≤ 10000 → n < sizeLine := fun h => Nat.lt_of_le_of_lt h (by decide)
  refine ⟨fun m σ G => ∃ p Hs S, m = cs.length - p ∧ J true p Hs S σ G, ⟨_, p0, [], [], rfl, by
    rw [hJ]
    exact ⟨d0, [], rfl, hA.same s2, But.same s2, (Same.new nhv (.lst [])) _ _ upd_same, .nil, upd_same, hR, Nat.zero_le _, Nat.zero_le _⟩⟩, ?_⟩
  rintro m σ G ⟨p, Hs, S, rfl, hj⟩
  have Jp : ∀ {b : Bool} {p : Nat} {Hs : List Bool} {S : List St1} {σ : L2.St} {G : Hp}, J b p Hs S σ G → p ≤ cs.length := fun h => by
    rw [hJ] at h
    obtain ⟨_, _, _, hA, _⟩ := h
    exact hA.hp
  refine ⟨true, rfl, iteT ⟨fun σ' G' => ∃ p1 Hs S, p < p1 ∧ J true p1 Hs S σ' G', fun σ' G' z => ?_, ?_⟩⟩
  · obtain ⟨p1, Hs1, S1, h1, h2⟩ := z
    have := Jp h2
    exact ⟨cs.length - p1, by omega, p1, Hs1, S1, rfl, h2⟩
  -- the open brackets
  refine ⟨fun m1 σ G => ∃ p1 Hs1, p ≤ p1 ∧ m1 = cs.length - p1 ∧ J true p1 Hs1 S σ G, ⟨_, p, Hs, Nat.le_refl _, rfl, hj⟩, ?_⟩
  rintro m1 σ G ⟨p1, Hs1, hp1, rfl, hj1⟩
  rw [hJ] at hj1
  obtain ⟨d, us, rfl, hG, hb, hl, hS, hh, hRun, lS, lH⟩ := hj1
  obtain ⟨dx, hx⟩ := hG.ix
  have hcl := hG.hl
  refine ⟨_, rfl, x, dx, _, rfl, hx, noA _ _ (by decide +kernel) (by decide +kernel) (by decide +kernel), x, cs, [40], p1, d, by rw [← hPL]; rfl, hG, _, rfl, ?_⟩
  rcases run_head hRun with ⟨hc, hRun⟩ | ⟨hns, s, ps, p2, p3, hat, h12, hPw, hRun⟩
  · have hp1l := (List.getElem?_eq_some_iff.mp hc).1
    rw [show seesB cs p1 [40] = true by rw [sees_some hc]; rfl]
    refine iteT ⟨fun σ' G' => J true (p1 + 1) (Hs1 ++ [false]) S σ' G', fun σ' G' z => ⟨cs.length - (p1 + 1), by omega, p1 + 1, _, by omega, rfl, z⟩, ?_⟩
    refine ⟨_, rfl, x, dx, _, rfl, hx, noA _ _ (by decide +kernel) (by decide +kernel) (by decide +kernel), x, cs, [40], p1, d, 40, by rw [← hPL]; rfl, hG, hc, List.mem_singleton.mpr rfl, fun G2 hG2 b2 => ?_⟩
    have hl2 := b2 _ _ nlx hl
    have hh2 := b2 _ _ nhx hh
    have hS2 := hS.tp (tp_ins hx b2)
    refine ⟨_, rfl, .inl ⟨rfl, _, SqL.here hh2⟩, hv, _, _, rfl, rfl, hh2, lt10 (by rw [hbV_len]; omega), ?_⟩
    have hh3 : (upd G2 hv (.lst (hbV Hs1 ++ [.bl false]))) hv = some (.lst (hbV (Hs1 ++ [false]))) := by rw [hbV_snoc, upd_same]
    obtain ⟨dx2, hx2⟩ := hG2.ix
    have hx3 : (upd G2 hv (.lst (hbV Hs1 ++ [.bl false]))) x = some (.ins C_Reader dx2 (rf (sL cs) (p1 + 1) d)) := by rw [upd_ne nhx.symm]; exact hx2
    have hl3 : (upd G2 hv (.lst (hbV Hs1 ++ [.bl false]))) l = some (.lst us) := by rw [upd_ne nhl.symm]; exact hl2
    have hS3 := hS2.tp (Tp.but hh2 (But.set (o := .lst (hbV Hs1 ++ [.bl false]))))
    have hb3 : But x H (upd G2 hv (.lst (hbV Hs1 ++ [.bl false]))) := fun b o nb e => by
      rw [upd_ne (ne_of_none e hv0)]
      exact b2 _ _ nb (hb _ _ nb e)
    generalize (upd G2 hv (.lst (hbV Hs1 ++ [.bl false]))) = G3 at *
    refine ⟨_, rfl, x, C_Reader, dx2, _, _, rfl, hx3, T.cl, T.n3, rf_d _ _ _, _, rfl, hv, _, rfl, .inl (SqL.here hh3), _, _, rfl, _, rfl, x, C_Reader, dx2, _, rfl, hx3, T.cl, T.n3, (by show 3 < 1000; decide), ?_⟩
    have hlen : ((hbV (Hs1 ++ [false])).length : Int) = ((Hs1.length + 1 : Nat) : Int) := by rw [hbV_len, List.length_append]; rfl
    have emax : (if ((hbV (Hs1 ++ [false])).length : Int) > (d : Int) then ((hbV (Hs1 ++ [false])).length : Int) else (d : Int)) = ((max d (Hs1.length + 1) : Nat) : Int) := by
      rw [hlen]
      split
      · congr 1; omega
      · congr 1; omega
    rw [emax, rf_putd]
    show J true (p1 + 1) (Hs1 ++ [false]) S _ _
    rw [hJ]
    refine ⟨_, us, rfl, ⟨⟨dx2, upd_same⟩, hp1l, hG.hl⟩, hb3.trans But.set, by rw [upd_ne nlx]; exact hl3, hS3.tp (tp_ins hx3 But.set), by rw [upd_ne nhx]; exact hh3, hRun, by omega, by rw [List.length_append, List.length_singleton]; omega⟩
  rw [hns]
  refine iteF ?_
  -- the atom
  refine ⟨_, rfl, .inl ⟨rfl, _, SqL.here hl⟩, _, rfl, x, dx, _, rfl, hx, noA _ _ (by decide +kernel) (by decide +kernel) (by decide +kernel), x, cs, p1, d, p2, s, rfl, hG, hat, fun v G2 hG2 b2 hv2 => ?_⟩
  have hl2 := b2 _ _ nlx hl
  have hh2 := b2 _ _ nhx hh
  have hS2 := hS.tp (tp_ins hx b2)
  have hb2 := hb.trans b2
  have lus : us.length = S.length := hS.len
  refine ⟨l, _, _, rfl, rfl, hl2, lt10 (by have := hG.hp; omega), ?_⟩
  have hS3 := app hl2 hS2 hv2
  have hl3 : (upd G2 l (.lst (us ++ [v]))) l = some (.lst (us ++ [v])) := upd_same
  have hh3 : (upd G2 l (.lst (us ++ [v]))) hv = some (.lst (hbV Hs1)) := by rw [upd_ne nhl]; exact hh2
  obtain ⟨dx2, hx2⟩ := hG2.ix
  have hx3 : (upd G2 l (.lst (us ++ [v]))) x = some (.ins C_Reader dx2 (rf (sL cs) p2 d)) := by rw [upd_ne nlx.symm]; exact hx2
  have hb3 : But x H (upd G2 l (.lst (us ++ [v]))) := fun b o nb e => by
    rw [upd_ne (ne_of_none e nl)]
    exact hb2 _ _ nb e
  clear hl2 hh2 hS2 hx2 hv2 hb2 b2
  generalize (upd G2 l (.lst (us ++ [v]))) = G3 at *
  have hp2 := hG2.hp
  have rest : ∀ (p2 p3 d : Nat) (Hs : List Bool) (S ps : List St1) (us : List V) (G3 : Hp) (dx2 : Addr), p2 ≤ cs.length → Pw cs p2 ps p3 → Run cs false p3 Hs (S ++ ps) d (p', S', d') → G3 l = some (.lst us) → StAll K G3 us S → G3 hv = some (.lst (hbV Hs)) → G3 x = some (.ins C_Reader dx2 (rf (sL cs) p2 d)) → But x H G3 → S.length ≤ p2 → Hs.length ≤ p2 →
      ∀ (l2 : Addr) (us2 : List V) (G4 : Hp), RdA C_Reader x cs p3 d G4 → But x G3 G4 → G4 l2 = some (.lst us2) → StAll K G4 us2 ps → G4 l = some (.lst us) ∧ us.length + us2.length ≤ sizeLine ∧ J false p3 Hs (S ++ ps) [some (.ref x), some (.ref l), some (.ref hv)] (upd G4 l (.lst (us ++ us2))) := by
    intro p2 p3 d Hs S ps us G3 dx2 hp2 hPw hRun hl3 hS3 hh3 hx3 hb3 lS lH l2 us2 G4 hG4 b4 hl2 hS4
    have hl4 := b4 _ _ nlx hl3
    have hh4 := b4 _ _ nhx hh3
    have hS5 := hS3.tp (tp_ins hx3 b4)
    have pl := hPw.len
    have pe := hPw.end hp2
    have hcl := hG4.hl
    have e1 : us.length = S.length := hS3.len
    have e2 : us2.length = ps.length := hS4.len
    refine ⟨hl4, fits16 (by omega), ?_⟩
    rw [hJ]
    obtain ⟨dx4, hx4⟩ := hG4.ix
    have tp := Tp.but hl4 (But.set (o := .lst (us ++ us2)))
    refine ⟨d, us ++ us2, rfl, ⟨⟨dx4, by rw [upd_ne nlx.symm]; exact hx4⟩, pe, hcl⟩, fun b o nb e => ?_, upd_same, (hS5.tp tp).app (hS4.tp tp), by rw [upd_ne nhl]; exact hh4, hRun, by rw [List.length_append]; omega, by omega⟩
    rw [upd_ne (ne_of_none e nl)]
    exact b4 _ _ nb (hb3 _ _ nb e)
  have hRun : Run cs false p3 Hs1 ((S ++ [s]) ++ ps) d (p', S', d') := by
    rw [List.append_assoc]
    exact hRun
  have hR2 : RdA C_Reader x cs p2 d G3 := ⟨⟨dx2, hx3⟩, hp2, hcl⟩
  refine ⟨_, rfl, _, rfl, x, dx2, _, rfl, hx3, noA _ _ (by decide +kernel) (by decide +kernel) (by decide +kernel), x, cs, p2, d, p3, ps, rfl, hR2, hPw, fun l2 us2 G4 hG4 b4 nl2 hl2 hS4 => ?_⟩
  obtain ⟨r1, r2, r3⟩ := rest p2 p3 d Hs1 (S ++ [s]) ps (us ++ [v]) G3 dx2 hp2 hPw hRun hl3 hS3 hh3 hx3 hb3 (by rw [List.length_append, List.length_singleton]; omega) (by omega) l2 us2 G4 hG4 b4 hl2 hS4
  refine ⟨l, l2, _, us2, rfl, rfl, r1, hl2, r2, ?_⟩
  have hpw := hPw.le
  -- the brackets that close
  refine ⟨fun m2 σ G => ∃ p3 Hs S, p < p3 ∧ m2 = Hs.length ∧ J false p3 Hs S σ G, ⟨_, p3, Hs1, _, by omega, rfl, r3⟩, ?_⟩
  clear r1 r2 r3 hl2 hS4 nl2 hG4 b4 hR2 hRun hPw hb3 hx3 hh3 hl3 hS3 hG2 hat hns hpw lus lS lH hb hS hl hh hG hx
  rintro m2 σ G ⟨p3, Hs, S, hp3, rfl, hj3⟩
  rw [hJ] at hj3
  obtain ⟨d, us, rfl, hG, hb, hl, hS, hh, hRun, lS, lH⟩ := hj3
  obtain ⟨dx, hx⟩ := hG.ix
  have hcl := hG.hl
  rcases run_cl hRun with ⟨rfl, er⟩ | ⟨H0, rfl, hRun2⟩ | ⟨H0, ps, p5, rfl, hc, hPw, hRun2⟩
  · cases er
    refine ⟨_, rfl, false, .inl ⟨_, SqL.here hh, rfl⟩, iteF ?_⟩
    refine ⟨_, rfl, false, .inl ⟨_, SqL.here hh, rfl⟩, iteT ?_⟩
    exact ⟨_, rfl, q l us G hG hb nl hl hS⟩
  · rw [hbV_snoc] at hh
    have ne : (hbV H0 ++ [V.bl false]).isEmpty = false := by cases hbV H0 <;> rfl
    refine ⟨_, rfl, true, .inl ⟨_, SqL.here hh, by rw [ne]; rfl⟩, iteT ?_⟩
    refine ⟨_, rfl, _, rfl, hv, _, _, _, rfl, rfl, SqL.here hh, atI_last _ _, false, rfl, iteF ?_⟩
    refine ⟨_, rfl, true, .inl ⟨_, SqL.here hh, by rw [ne]; rfl⟩, iteF ?_⟩
    have ix : ixN (hbV H0 ++ [V.bl false]).length (-1) = some (hbV H0).length := by
      rw [List.length_append, List.length_singleton]
      unfold ixN
      rw [if_neg (by decide), if_pos (by omega)]
      congr 1
      omega
    refine ⟨_, rfl, _, rfl, hv, _, _, _, rfl, rfl, hh, ix, p3, H0 ++ [true], S, hp3, ?_⟩
    rw [hJ]
    have es : (hbV H0 ++ [V.bl false]).set (hbV H0).length (.bl true) = hbV (H0 ++ [true]) := by
      rw [hbV_snoc, List.set_append, if_neg (by omega), Nat.sub_self]
      rfl
    refine ⟨d, us, rfl, ⟨⟨dx, by rw [upd_ne nhx.symm]; exact hx⟩, hG.hp, hG.hl⟩, fun b o nb e => ?_, by rw [upd_ne nhl.symm]; exact hl, hS.tp (Tp.but hh But.set), by rw [es, upd_same], hRun2, lS, by rw [List.length_append] at lH ⊢; exact lH⟩
    rw [upd_ne (ne_of_none e hv0)]
    exact hb _ _ nb e
  · rw [hbV_snoc] at hh
    have hpl := (List.getElem?_eq_some_iff.mp hc).1
    have ne : (hbV H0 ++ [V.bl true]).isEmpty = false := by cases hbV H0 <;> rfl
    refine ⟨_, rfl, true, .inl ⟨_, SqL.here hh, by rw [ne]; rfl⟩, iteT ?_⟩
    refine ⟨_, rfl, _, rfl, hv, _, _, _, rfl, rfl, SqL.here hh, atI_last _ _, true, rfl, iteT ?_⟩
    have hle := hPw.le
    refine ⟨fun σ' G' => J false p5 H0 ((S ++ [.pr]) ++ ps) σ' G', fun σ' G' z => ⟨H0.length, by rw [List.length_append, List.length_singleton]; omega, p5, H0, _, by omega, rfl, z⟩, ?_⟩
    refine ⟨_, rfl, x, dx, _, rfl, hx, noA _ _ (by decide +kernel) (by decide +kernel) (by decide +kernel), x, cs, [41], p3, d, 41, by rw [← hPR]; rfl, hG, hc, List.mem_singleton.mpr rfl, fun G2 hG2 b2 => ?_⟩
    have hl2 := b2 _ _ nlx hl
    have hh2 := b2 _ _ nhx hh
    have hS2 := hS.tp (tp_ins hx b2)
    have hb2 := hb.trans b2
    have lus : us.length = S.length := hS.len
    refine ⟨_, rfl, .inl ⟨rfl, _, SqL.here hh2⟩, hv, _, .bl true, rfl, rfl, hh2, by simp, ?_⟩
    rw [List.dropLast_concat]
    have hh3 : (upd G2 hv (.lst (hbV H0))) hv = some (.lst (hbV H0)) := upd_same
    have hl3 : (upd G2 hv (.lst (hbV H0))) l = some (.lst us) := by rw [upd_ne nhl.symm]; exact hl2
    have hS3 := hS2.tp (Tp.but hh2 (But.set (o := .lst (hbV H0))))
    obtain ⟨dx2, hx2⟩ := hG2.ix
    have hx3 : (upd G2 hv (.lst (hbV H0))) x = some (.ins C_Reader dx2 (rf (sL cs) (p3 + 1) d)) := by rw [upd_ne nhx.symm]; exact hx2
    have hb3 : But x H (upd G2 hv (.lst (hbV H0))) := fun b o nb e => by
      rw [upd_ne (ne_of_none e hv0)]
      exact hb2 _ _ nb e
    clear hl2 hh2 hS2 hx2 hb2 b2
    generalize (upd G2 hv (.lst (hbV H0))) = G3 at *
    refine ⟨_, rfl, .inl ⟨rfl, _, SqL.here hl3⟩, two_le, fun t nt => ?_⟩
    have st := Same.new nt (.tup [.str "pair", .int 2])
    have hl4 := st _ _ hl3
    refine ⟨l, _, _, rfl, rfl, hl4, lt10 (by omega), ?_⟩
    have hS4 := app (v := .ref t) (s := .pr) hl4 (hS3.tp (Tp.same st)) ⟨t, rfl, SqT.here upd_same⟩
    have hl5 : (upd (upd G3 t (.tup [.str "pair", .int 2])) l (.lst (us ++ [.ref t]))) l = some (.lst (us ++ [.ref t])) := upd_same
    have hh5 : (upd (upd G3 t (.tup [.str "pair", .int 2])) l (.lst (us ++ [.ref t]))) hv = some (.lst (hbV H0)) := by rw [upd_ne nhl]; exact st _ _ hh3
    have hx5 : (upd (upd G3 t (.tup [.str "pair", .int 2])) l (.lst (us ++ [.ref t]))) x = some (.ins C_Reader dx2 (rf (sL cs) (p3 + 1) d)) := by rw [upd_ne nlx.symm]; exact st _ _ hx3
    have hb5 : But x H (upd (upd G3 t (.tup [.str "pair", .int 2])) l (.lst (us ++ [.ref t]))) := fun b o nb e => by
      rw [upd_ne (ne_of_none e nl)]
      exact st _ _ (hb3 _ _ nb e)
    clear hl4 hl3 hh3 hx3 hb3 hS3
    generalize (upd (upd G3 t (.tup [.str "pair", .int 2])) l (.lst (us ++ [.ref t]))) = G5 at *
    have hRun : Run cs false p5 H0 ((S ++ [.pr]) ++ ps) d (p', S', d') := by
      rw [List.append_assoc]
      exact hRun2
    refine ⟨_, rfl, _, rfl, x, dx2, _, rfl, hx5, noA _ _ (by decide +kernel) (by decide +kernel) (by decide +kernel), x, cs, p3 + 1, d, p5, ps, rfl, ⟨⟨dx2, hx5⟩, hpl, hcl⟩, hPw, fun l2 us2 G6 hG6 b6 nl6 hl6 hS6 => ?_⟩
    obtain ⟨r1, r2, r3⟩ := rest (p3 + 1) p5 d H0 (S ++ [.pr]) ps (us ++ [.ref t]) G5 dx2 hpl hPw hRun hl5 hS4 hh5 hx5 hb5 (by rw [List.length_append, List.length_singleton]; omega) (by rw [List.length_append, List.length_singleton] at lH; omega) l2 us2 G6 hG6 b6 hl6 hS6
    exact ⟨l, l2, _, us2, rfl, rfl, r1, hl6, r2, r3⟩

abbrev s_Reader_take_definition : Stmt := inClass (top 31) 9
theorem sc_Reader_take_definition : FnScope ["self", "start", "name", "steps"] ["self"] (defScope s_Reader_take_definition) := ⟨rfl, rfl, rfl, by decide +kernel, rfl, by decide +kernel, by decide +kernel⟩
theorem cut_drop {cs : List Nat} {a b : Nat} (ha : a ≤ b) (hb : b ≤ cs.length) : cutS (sL cs) (some (a : Int)) (some (b : Int)) = sL ((cs.drop a).take (b - a)) := by
  unfold cutS
  rw [HT.sIx_nat, HT.sIx_nat, sL_len, Nat.min_eq_left hb, Nat.min_eq_left (by omega)]
  rfl
theorem ok_Reader_take_definition {C_Reader f1 f2 f3 f4 f5 f6 f7 f8 : Addr} {e1 e2 e3 e4 e5 e6 e7 e8 : FuncData} (F : Fun K "take_definition" "Reader.take_definition" s_Reader_take_definition f fd) (T_Reader : RdT K mg C_Reader) (B : Blt mg) (CR : CstR mg) (d_Reader_at_end : Mt K C_Reader "at_end" "Reader.at_end" s_Reader_at_end ["self"] f1 e1) (d_Reader_sees : Mt K C_Reader "sees" "Reader.sees" s_Reader_sees ["self", "signs"] f2 e2) (d_Reader_take : Mt K C_Reader "take" "Reader.take" s_Reader_take ["self", "signs"] f3 e3)
    (d_Reader_take_digits : Mt K C_Reader "take_digits" "Reader.take_digits" s_Reader_take_digits ["self", "most"] f4 e4) (d_Reader_take_name : Mt K C_Reader "take_name" "Reader.take_name" s_Reader_take_name ["self"] f5 e5) (d_Reader_take_powers : Mt K C_Reader "take_powers" "Reader.take_powers" s_Reader_take_powers ["self"] f6 e6) (d_Reader_take_atom : Mt K C_Reader "take_atom" "Reader.take_atom" s_Reader_take_atom ["self"] f7 e7) (d_Reader_take_expression : Mt K C_Reader "take_expression" "Reader.take_expression" s_Reader_take_expression ["self"] f8 e8) : FnOk P w K mg base CX0 8 f fd ["self"] (spRDef K C_Reader) := by
  have G_Reader_take : FnOk P w K mg base CX0 3 f3 e3 ["self", "signs"] (spRTake C_Reader) := ok_Reader_take d_Reader_take.F T_Reader B d_Reader_at_end d_Reader_sees
  have G_Reader_take_name : FnOk P w K mg base CX0 5 f5 e5 ["self"] (spRName C_Reader) := ok_Reader_take_name d_Reader_take_name.F T_Reader B CR d_Reader_at_end d_Reader_sees d_Reader_take d_Reader_take_digits
  have G_Reader_take_expression : FnOk P w K mg base CX0 7 f8 e8 ["self"] (spRExpr K C_Reader) := ok_Reader_take_expression d_Reader_take_expression.F T_Reader B CR d_Reader_at_end d_Reader_sees d_Reader_take d_Reader_take_digits d_Reader_take_name d_Reader_take_powers d_Reader_take_atom
  have T := T_Reader
  refine F.ok sc_Reader_take_definition (fun vs H Q E h => ?_) (fun cdv A outer s H vs Q E hr h => ?_)
  · obtain ⟨_, _, _, _, _, _, _, _, rfl, _⟩ := h
    rfl
  obtain ⟨H0, x, cs, p, d, p', d', df, rfl, hA, hD, h0, q⟩ := h
  have noA : ∀ (p d : Nat) {m : Str}, ¬ m = "text" → ¬ m = "place" → ¬ m = "deepest" → (rf (sL cs) p d).lookup m = none := fun p d m h1 h2 h3 => rf_no _ _ _ h1 h2 h3
  have hEq : (Str.ofString "=") = sL [61] := by decide +kernel
  cases hD with
  | mk h1 h2 h3 h4 =>
    rename_i c S
    obtain ⟨dx, hx⟩ := hA.ix
    refine ⟨_, (pss_cons (ps_set (i := 1) sc_Reader_take_definition.nd rfl (Or.inl rfl) (pe_fld (pv 0) rfl))
 (pss_cons (ps_set (i := 2) sc_Reader_take_definition.nd rfl (Or.inl rfl) (pe_meth0 (pv 0) T_Reader.cl d_Reader_take_name.m G_Reader_take_name (hr.mono (by decide)) d_Reader_take_name.b .nil pass0))
 (pss_cons (ps_expr (pe_meth (pv 0) T_Reader.cl d_Reader_take.m G_Reader_take (hr.mono (by decide)) d_Reader_take.b .nil pass0 (pa_cons pe_str pa_nil)))
 (pss_cons (ps_set (i := 3) sc_Reader_take_definition.nd rfl (Or.inl rfl) (pe_meth0 (pv 0) T_Reader.cl d_Reader_take_expression.m G_Reader_take_expression (hr.mono (by decide)) d_Reader_take_expression.b .nil pass0))
 (pss_one (ps_ret (pe_tup (pa_cons (pv 2) (pa_cons (pv 3) (pa_cons (pe_slice sl_str (pe_fld (pv 0) rfl) (po_some (pv 1)) (po_some (pe_fld (pv 0) rfl))) pa_nil)))))))))), ?_⟩
    refine ⟨_, rfl, x, C_Reader, dx, _, _, rfl, hx, T.cl, T.n2, rf_p _ _ _, ?_⟩
    refine ⟨_, rfl, x, dx, _, rfl, hx, noA _ _ (by decide +kernel) (by decide +kernel) (by decide +kernel), x, cs, p, d, c, rfl, hA, h1, h2, fun H2 hA2 b2 => ?_⟩
    obtain ⟨dx2, hx2⟩ := hA2.ix
    refine ⟨_, rfl, x, dx2, _, rfl, hx2, noA _ _ (by decide +kernel) (by decide +kernel) (by decide +kernel), x, cs, [61], _, d, 61, by rw [← hEq]; rfl, hA2, h3, List.mem_singleton.mpr rfl, fun H3 hA3 b3 => ?_⟩
    obtain ⟨dx3, hx3⟩ := hA3.ix
    have h4 : Run cs true (p + 1 + (dgs cs (p + 1) 2).length + 1) [] [] d (p', S, d') := by
      rw [show p + 1 + (dgs cs (p + 1) 2).length + 1 = p + 2 + (dgs cs (p + 1) 2).length by omega]
      exact h4
    have hle : p + 1 + (dgs cs (p + 1) 2).length + 1 ≤ p' := h4.le
    refine ⟨_, rfl, x, dx3, _, rfl, hx3, noA _ _ (by decide +kernel) (by decide +kernel) (by decide +kernel), x, cs, _, d, p', d', S, rfl, hA3, h4, fun l us H4 hA4 b4 nl hl hS => ?_⟩
    obtain ⟨dx4, hx4⟩ := hA4.ix
    refine ⟨_, rfl, _, rfl, _, rfl, x, C_Reader, dx4, _, _, rfl, hx4, T.cl, T.n1, rf_t _ _ _, _, rfl, (p : Int), rfl, _, rfl, x, C_Reader, dx4, _, _, rfl, hx4, T.cl, T.n2, rf_p _ _ _, (p' : Int), rfl, _, rfl, fits (by rw [sL_len]; exact hA4.hl), ?_⟩
    rw [cut_drop (by omega) hA4.hp]
    refine ⟨by show 3 ≤ sizeLine; decide, fun t nt => ?_⟩
    have st := Same.new nt (.tup [.str (sL (c :: dgs cs (p + 1) 2)), .ref l, .str (sL ((cs.drop p).take (p' - p)))])
    have bb : But x H H4 := (b2.trans b3).trans b4
    have hl0 : H0 l = none := by
      cases e : H0 l with
      | none => rfl
      | some o =>
        exfalso
        cases e2 : H l with
        | none => rw [h0 l e2] at e; cases e
        | some o2 =>
          have nlx : l ≠ x := fun z => by rw [z, hx3] at nl; cases nl
          have := (b2.trans b3) _ _ nlx e2
          rw [nl] at this
          cases this
    exact q (.ref t) _ (hA4.same st) (bb.trans (But.same st)) ⟨t, l, us, rfl, SqT.here upd_same, hl0, st _ _ hl, hS.tp (Tp.same st)⟩

abbrev s_Reader_finish : Stmt := inClass (top 31) 10
theorem sc_Reader_finish : FnScope ["self"] ["self"] (defScope s_Reader_finish) := ⟨rfl, rfl, rfl, by decide +kernel, rfl, by decide +kernel, by decide +kernel⟩
theorem ok_Reader_finish {C_Reader f1 : Addr} {e1 : FuncData} (F : Fun K "finish" "Reader.finish" s_Reader_finish f fd) (T_Reader : RdT K mg C_Reader) (B : Blt mg) (CR : CstR mg) (d_Reader_at_end : Mt K C_Reader "at_end" "Reader.at_end" s_Reader_at_end ["self"] f1 e1) : FnOk P w K mg base CX0 2 f fd ["self"] (spRFin C_Reader) := by
  have G_Reader_at_end : FnOk P w K mg base CX0 1 f1 e1 ["self"] (spREnd C_Reader) := ok_Reader_at_end d_Reader_at_end.F T_Reader B
  have T := T_Reader
  obtain ⟨tk, C_MAX_NESTING⟩ := CR.MAX_NESTING
  refine F.ok sc_Reader_finish (fun vs H Q E h => ?_) (fun cdv A outer s H vs Q E hr h => ?_)
  · obtain ⟨_, _, _, rfl, _⟩ := h
    rfl
  obtain ⟨x, cs, d, rfl, hA, hd, q⟩ := h
  obtain ⟨dx, hx⟩ := hA.ix
  refine ⟨_, (pss_cons (ps_if (pt_not (pt_val (pe_meth0 (pv 0) T_Reader.cl d_Reader_at_end.m G_Reader_at_end (hr.mono (by decide)) d_Reader_at_end.b .nil pass0))) (pss_one ps_never) pss_nil)
 (pss_one (ps_if (pt_cmpR op_gt (pe_fld (pv 0) rfl) (pe_glob (v := .int 30) rfl C_MAX_NESTING ⟨_, rfl⟩) (nomark _)) (pss_one ps_never) pss_nil))), ?_⟩
  refine ⟨_, rfl, x, dx, _, rfl, hx, rf_no _ _ _ (by decide +kernel) (by decide +kernel) (by decide +kernel), x, cs, _, d, rfl, hA, _, rfl, ite_no (by rw [decide_eq_true rfl]; rfl) ?_⟩
  refine ⟨_, rfl, x, C_Reader, dx, _, _, rfl, hx, T.cl, T.n3, rf_d _ _ _, _, _, rfl, rfl, _, rfl, ite_no (decide_eq_false (by omega)) ?_⟩
  exact q

abbrev s_read_source : Stmt := top 33
theorem sc_read_source : FnScope ["text", "reader", "definitions"] ["text"] (defScope s_read_source) := ⟨rfl, rfl, rfl, by decide +kernel, rfl, by decide +kernel, by decide +kernel⟩
theorem ok_read_source {C_Reader fI f1 f2 f3 f4 f5 f6 f7 f8 f9 f10 : Addr} {fdI e1 e2 e3 e4 e5 e6 e7 e8 e9 e10 : FuncData} (d_read_source : D K mg "read_source" s_read_source ["text"] f fd) (T_Reader : RdT K mg C_Reader) (B : Blt mg) (CR : CstR mg) (M : L2.Mk K C_Reader fI) (FI : Fun K "__init__" "Reader.__init__" s_Reader___init__ fI fdI) (bI : Binds K fdI ["self", "text"] []) (d_Reader_at_end : Mt K C_Reader "at_end" "Reader.at_end" s_Reader_at_end ["self"] f1 e1) (d_Reader_sees : Mt K C_Reader "sees" "Reader.sees" s_Reader_sees ["self", "signs"] f2 e2) (d_Reader_take : Mt K C_Reader "take" "Reader.take" s_Reader_take ["self", "signs"] f3 e3)
    (d_Reader_take_digits : Mt K C_Reader "take_digits" "Reader.take_digits" s_Reader_take_digits ["self", "most"] f4 e4) (d_Reader_take_name : Mt K C_Reader "take_name" "Reader.take_name" s_Reader_take_name ["self"] f5 e5) (d_Reader_take_powers : Mt K C_Reader "take_powers" "Reader.take_powers" s_Reader_take_powers ["self"] f6 e6) (d_Reader_take_atom : Mt K C_Reader "take_atom" "Reader.take_atom" s_Reader_take_atom ["self"] f7 e7) (d_Reader_take_expression : Mt K C_Reader "take_expression" "Reader.take_expression" s_Reader_take_expression ["self"] f8 e8)
    (d_Reader_take_definition : Mt K C_Reader "take_definition" "Reader.take_definition" s_Reader_take_definition ["self"] f9 e9) (d_Reader_finish : Mt K C_Reader "finish" "Reader.finish" s_Reader_finish ["self"] f10 e10) : FnOk P w K mg base CX0 9 f fd ["text"] (spRS K) := by
  have GI : FnOk P w K mg base CX0 1 fI fdI ["self", "text"] (spRInit C_Reader) := ok_Reader___init__ FI T_Reader
  have G_Reader_sees : FnOk P w K mg base CX0 2 f2 e2 ["self", "signs"] (spRSees C_Reader) := ok_Reader_sees d_Reader_sees.F T_Reader B d_Reader_at_end
  have G_Reader_take : FnOk P w K mg base CX0 3 f3 e3 ["self", "signs"] (spRTake C_Reader) := ok_Reader_take d_Reader_take.F T_Reader B d_Reader_at_end d_Reader_sees
  have G_Reader_take_definition : FnOk P w K mg base CX0 8 f9 e9 ["self"] (spRDef K C_Reader) := ok_Reader_take_definition d_Reader_take_definition.F T_Reader B CR d_Reader_at_end d_Reader_sees d_Reader_take d_Reader_take_digits d_Reader_take_name d_Reader_take_powers d_Reader_take_atom d_Reader_take_expression
  have G_Reader_finish : FnOk P w K mg base CX0 2 f10 e10 ["self"] (spRFin C_Reader) := ok_Reader_finish d_Reader_finish.F T_Reader B CR d_Reader_at_end
  have T := T_Reader
  refine d_read_source.F.ok sc_read_source (fun vs H Q E h => ?_) (fun cdv A outer s H vs Q E hr h => ?_)
  · obtain ⟨_, _, rfl, _⟩ := h
    rfl
  obtain ⟨cs, dfs, rfl, hl, hS, q⟩ := h
  have noA : ∀ (p d : Nat) {m : Str}, ¬ m = "text" → ¬ m = "place" → ¬ m = "deepest" → (rf (sL cs) p d).lookup m = none := fun p d m h1 h2 h3 => rf_no _ _ _ h1 h2 h3
  have hSc : (Str.ofString ";") = sL [59] := by decide +kernel
  refine ⟨_, (pss_cons (ps_if (pt_cmpR op_eq (pv 0) pe_str (nomark _)) (pss_one (ps_ret (pe_lst pa_nil))) pss_nil)
 (pss_cons (ps_set (i := 1) sc_read_source.nd rfl (Or.inl rfl) (pe_make M GI (hr.mono (by decide)) rfl T_Reader.mgC bI .nil pass0 (pa_cons (pv 0) pa_nil)))
 (pss_cons (ps_set (i := 2) sc_read_source.nd rfl (Or.inl rfl) (pe_lst (pa_cons (pe_meth0 (pv 1) T_Reader.cl d_Reader_take_definition.m G_Reader_take_definition (hr.mono (by decide)) d_Reader_take_definition.b .nil pass0) pa_nil)))
 (pss_cons (ps_while PassesOwn.never (pt_val (pe_meth (pv 1) T_Reader.cl d_Reader_sees.m G_Reader_sees (hr.mono (by decide)) d_Reader_sees.b .nil pass0 (pa_cons pe_str pa_nil))) (pss_cons (ps_expr (pe_meth (pv 1) T_Reader.cl d_Reader_take.m G_Reader_take (hr.mono (by decide)) d_Reader_take.b .nil pass0 (pa_cons pe_str pa_nil)))
 (pss_one (ps_expr (pe_bm PySem.F.plainAttrs_list PySem.F.slot_list_append PySem.F.type_list_append mt_append (pv 2) (pa_cons (pe_meth0 (pv 1) T_Reader.cl d_Reader_take_definition.m G_Reader_take_definition (hr.mono (by decide)) d_Reader_take_definition.b .nil pass0) pa_nil))))))
 (pss_cons (ps_expr (pe_meth0 (pv 1) T_Reader.cl d_Reader_finish.m G_Reader_finish (hr.mono (by decide)) d_Reader_finish.b .nil pass0))
 (pss_one (ps_ret (pv 2)))))))), ?_⟩
  have hE : ∀ {cs : List Nat}, decide (V.str (sL cs) = V.str (Str.ofString "")) = decide (cs = []) := fun {cs} => by
    refine decide_eq_decide.mpr ⟨fun z => sL_inj ((V.str.inj z).trans (show Str.ofString "" = sL [] by decide +kernel)), fun z => by rw [z]; exact congrArg V.str (by decide +kernel)⟩
  cases hS with
  | nil he =>
    subst he
    refine ⟨_, rfl, rfl, _, rfl, ite_yes (by rw [hE]; rfl) ⟨zero_le', fun l nl => ?_⟩⟩
    exact q l [] _ (Same.new nl _) nl upd_same .nil
  | cons hD hSr hd30 =>
    rename_i p d dE df dfs
    have hne : cs ≠ [] := fun z => by
      subst z
      cases hD with
      | mk h1 _ _ _ => simp at h1
    refine ⟨_, rfl, rfl, _, rfl, ite_no (by rw [hE]; exact decide_eq_false hne) ?_⟩
    refine ⟨_, rfl, ?_⟩
    intro x dx nx ndx nex
    have s0 : But x H (upd (upd H dx (.own x)) x (.ins C_Reader dx [])) := fun b o nb e => by
      rw [upd_ne nb, upd_ne (ne_of_none e ndx)]
      exact e
    refine ⟨x, dx, cs, rfl, upd_same, hl, fun H1 hA1 b1 => ⟨rfl, ?_⟩⟩
    have b01 : But x H H1 := s0.trans b1
    obtain ⟨dx1, hx1⟩ := hA1.ix
    have fr : ∀ {H' : Hp}, But x H H' → ∀ b, H' b = none → H b = none := fun {H'} hb b e => by
      cases e2 : H b with
      | none => rfl
      | some o =>
        have nb : b ≠ x := fun z => by rw [z, nx] at e2; cases e2
        have := hb b o nb e2
        rw [e] at this
        cases this
    refine ⟨_, rfl, x, dx1, _, rfl, hx1, noA _ _ (by decide +kernel) (by decide +kernel) (by decide +kernel), H, x, cs, 0, 0, p, d, df, rfl, hA1, hD, fr b01, fun v H2 hA2 b2 hv2 => ⟨one_le, fun l nl => ?_⟩⟩
    have s3 := Same.new nl (.lst [v])
    have b03 : But x H (upd H2 l (.lst [v])) := (b01.trans b2).trans (But.same s3)
    obtain ⟨dx2, hx2⟩ := hA2.ix
    have nlx : l ≠ x := fun z => by rw [z, hx2] at nl; cases nl
    have hl0 : H l = none := fr (b01.trans b2) l nl
    obtain ⟨HL, hHL⟩ : ∃ HL : Hp, HL = upd H l (.lst []) := ⟨_, rfl⟩
    have hLl : HL l ≠ none := by rw [hHL, upd_same]; exact fun z => nomatch z
    have wkL : ∀ b, HL b = none → H b = none := fun b e => by
      by_cases z : b = l
      · rw [z]; exact hl0
      · rw [hHL, upd_ne z] at e; exact e
    have frL : ∀ {H' : Hp}, But x H H' → H' l ≠ none → ∀ b, H' b = none → HL b = none := fun {H'} hb hn b e => by
      have z : b ≠ l := fun z => hn (by rw [← z]; exact e)
      rw [hHL, upd_ne z]
      exact fr hb b e
    have hvL : DfV K HL (upd H2 l (.lst [v])) v df := by
      obtain ⟨q1, l1, us1, e1, e2, e3, e4, e5⟩ := hv2
      exact ⟨q1, l1, us1, e1, (Tp.same s3).sqT e2, by rw [hHL, upd_ne (ne_of_none e4 nl)]; exact e3, s3 _ _ e4, e5.tp (Tp.same s3)⟩
    refine ⟨fun m σ G => ∃ (p d : Nat) (us : List V) (ds0 ds1 : List Df), m = cs.length - p ∧ σ = [some (.str (sL cs)), some (.ref x), some (.ref l)] ∧ RdA C_Reader x cs p d G ∧ But x H G ∧ G l = some (.lst us) ∧ DfAll K HL G us ds0 ∧ df :: dfs = ds0 ++ ds1 ∧ Src cs p d ds1 dE ∧ ds0.length ≤ p, ⟨_, p, d, [v], [df], dfs, rfl, rfl, hA2.same s3, b03, upd_same, .cons hvL .nil, rfl, hSr, hD.lt⟩, ?_⟩
    rintro m σ G ⟨p1, d1, us, ds0, ds1, rfl, rfl, hG, hb, hlG, hDs, hds, hS1, hlen⟩
    obtain ⟨dxG, hxG⟩ := hG.ix
    refine ⟨_, rfl, x, dxG, _, rfl, hxG, noA _ _ (by decide +kernel) (by decide +kernel) (by decide +kernel), x, cs, [59], p1, d1, by rw [← hSc]; rfl, hG, _, rfl, ?_⟩
    have hcl := hG.hl
    cases hS1 with
    | stop =>
      rw [show seesB cs cs.length [59] = false from sees_none (List.getElem?_eq_none_iff.mpr (Nat.le_refl _))]
      refine iteF ⟨_, rfl, x, dxG, _, rfl, hxG, noA _ _ (by decide +kernel) (by decide +kernel) (by decide +kernel), x, cs, _, rfl, hG, hd30, ?_⟩
      rw [List.append_nil] at hds
      refine ⟨_, rfl, q l us G (fun b o e => hb b o (fun z => by rw [z, nx] at e; cases e) e) hl0 hlG ?_⟩
      rw [hds]
      exact hDs.weak wkL
    | more h1 h2 h3 =>
      rename_i p2 d2 df2 dfs2
      have hp1 := (List.getElem?_eq_some_iff.mp h1).1
      have hlt := h2.lt
      rw [show seesB cs p1 [59] = true by rw [sees_some h1]; rfl]
      refine iteT ⟨fun σ' G' => ∃ (us : List V), σ' = [some (.str (sL cs)), some (.ref x), some (.ref l)] ∧ RdA C_Reader x cs p2 d2 G' ∧ But x H G' ∧ G' l = some (.lst us) ∧ DfAll K HL G' us (ds0 ++ [df2]), fun σ' G' ⟨us', z1, z2, z3, z4, z5⟩ => ⟨cs.length - p2, by have := z2.hp; omega, p2, d2, us', ds0 ++ [df2], dfs2, rfl, z1, z2, z3, z4, z5, by rw [hds, List.append_assoc]; rfl, h3, by rw [List.length_append, List.length_singleton]; omega⟩, ?_⟩
      refine ⟨_, rfl, x, dxG, _, rfl, hxG, noA _ _ (by decide +kernel) (by decide +kernel) (by decide +kernel), x, cs, [59], p1, d1, 59, by rw [← hSc]; rfl, hG, h1, List.mem_singleton.mpr rfl, fun G2 hG2 b2 => ?_⟩
      have hl2 := b2 _ _ nlx hlG
      have hD2 := hDs.but hxG b2
      have hb2 := hb.trans b2
      obtain ⟨dx3, hx3⟩ := hG2.ix
      refine ⟨_, rfl, .inl ⟨rfl, _, SqL.here hl2⟩, _, rfl, x, dx3, _, rfl, hx3, noA _ _ (by decide +kernel) (by decide +kernel) (by decide +kernel), HL, x, cs, p1 + 1, d1, p2, d2, df2, rfl, hG2, h2, frL hb2 (by rw [hl2]; exact fun z => nomatch z), fun v2 G3 hG3 b3 hv3 => ?_⟩
      have hl3 := b3 _ _ nlx hl2
      have hD3 := hD2.but hx3 b3
      have hb3 := hb2.trans b3
      have lus : us.length = ds0.length := hDs.len
      refine ⟨l, _, _, rfl, rfl, hl3, Nat.lt_of_le_of_lt (show us.length ≤ 10000 by omega) (by decide), us ++ [v2], rfl, ?_, fun b o nb e => ?_, upd_same, ?_⟩
      · obtain ⟨dx4, hx4⟩ := hG3.ix
        exact ⟨⟨dx4, by rw [upd_ne nlx.symm]; exact hx4⟩, hG3.hp, hG3.hl⟩
      · rw [upd_ne (ne_of_none e hl0)]
        exact hb3 _ _ nb e
      · exact (hD3.set hl3 hLl).app (.cons (hv3.set hl3 hLl) .nil)

abbrev s_read_definition : Stmt := top 32
theorem sc_read_definition : FnScope ["text", "reader", "definition"] ["text"] (defScope s_read_definition) := ⟨rfl, rfl, rfl, by decide +kernel, rfl, by decide +kernel, by decide +kernel⟩
theorem ok_read_definition {C_Reader fI f1 f2 f3 f4 f5 f6 f7 f8 f9 f10 : Addr} {fdI e1 e2 e3 e4 e5 e6 e7 e8 e9 e10 : FuncData} (d_read_definition : D K mg "read_definition" s_read_definition ["text"] f fd) (T_Reader : RdT K mg C_Reader) (B : Blt mg) (CR : CstR mg) (M : L2.Mk K C_Reader fI) (FI : Fun K "__init__" "Reader.__init__" s_Reader___init__ fI fdI) (bI : Binds K fdI ["self", "text"] []) (d_Reader_at_end : Mt K C_Reader "at_end" "Reader.at_end" s_Reader_at_end ["self"] f1 e1) (d_Reader_sees : Mt K C_Reader "sees" "Reader.sees" s_Reader_sees ["self", "signs"] f2 e2) (d_Reader_take : Mt K C_Reader "take" "Reader.take" s_Reader_take ["self", "signs"] f3 e3)
    (d_Reader_take_digits : Mt K C_Reader "take_digits" "Reader.take_digits" s_Reader_take_digits ["self", "most"] f4 e4) (d_Reader_take_name : Mt K C_Reader "take_name" "Reader.take_name" s_Reader_take_name ["self"] f5 e5) (d_Reader_take_powers : Mt K C_Reader "take_powers" "Reader.take_powers" s_Reader_take_powers ["self"] f6 e6) (d_Reader_take_atom : Mt K C_Reader "take_atom" "Reader.take_atom" s_Reader_take_atom ["self"] f7 e7) (d_Reader_take_expression : Mt K C_Reader "take_expression" "Reader.take_expression" s_Reader_take_expression ["self"] f8 e8)
    (d_Reader_take_definition : Mt K C_Reader "take_definition" "Reader.take_definition" s_Reader_take_definition ["self"] f9 e9) (d_Reader_finish : Mt K C_Reader "finish" "Reader.finish" s_Reader_finish ["self"] f10 e10)
  : FnOk P w K mg base CX0 9 f fd ["text"] (spRD K) := by
  have GI : FnOk P w K mg base CX0 1 fI fdI ["self", "text"] (spRInit C_Reader) := ok_Reader___init__ FI T_Reader
  have G_Reader_take_definition : FnOk P w K mg base CX0 8 f9 e9 ["self"] (spRDef K C_Reader) := ok_Reader_take_definition d_Reader_take_definition.F T_Reader B CR d_Reader_at_end d_Reader_sees d_Reader_take d_Reader_take_digits d_Reader_take_name d_Reader_take_powers d_Reader_take_atom d_Reader_take_expression
  have G_Reader_finish : FnOk P w K mg base CX0 2 f10 e10 ["self"] (spRFin C_Reader) := ok_Reader_finish d_Reader_finish.F T_Reader B CR d_Reader_at_end
  have T := T_Reader
  refine d_read_definition.F.ok sc_read_definition (fun vs H Q E h => ?_) (fun cdv A outer s H vs Q E hr h => ?_)
  · obtain ⟨_, _, _, rfl, _⟩ := h
    rfl
  obtain ⟨cs, df, dE, rfl, hl, hD, hd30, q⟩ := h
  have noA : ∀ (p d : Nat) {m : Str}, ¬ m = "text" → ¬ m = "place" → ¬ m = "deepest" → (rf (sL cs) p d).lookup m = none := fun p d m h1 h2 h3 => rf_no _ _ _ h1 h2 h3
  refine ⟨_, (pss_cons (ps_set (i := 1) sc_read_definition.nd rfl (Or.inl rfl) (pe_make M GI (hr.mono (by decide)) rfl T_Reader.mgC bI .nil pass0 (pa_cons (pv 0) pa_nil)))
 (pss_cons (ps_set (i := 2) sc_read_definition.nd rfl (Or.inl rfl) (pe_meth0 (pv 1) T_Reader.cl d_Reader_take_definition.m G_Reader_take_definition (hr.mono (by decide)) d_Reader_take_definition.b .nil pass0))
 (pss_cons (ps_expr (pe_meth0 (pv 1) T_Reader.cl d_Reader_finish.m G_Reader_finish (hr.mono (by decide)) d_Reader_finish.b .nil pass0))
 (pss_one (ps_ret (pv 2)))))), ?_⟩
  refine ⟨_, rfl, fun x dx nx ndx nex => ?_⟩
  have s0 : But x H (upd (upd H dx (.own x)) x (.ins C_Reader dx [])) := fun b o nb e => by
    rw [upd_ne nb, upd_ne (ne_of_none e ndx)]
    exact e
  refine ⟨x, dx, cs, rfl, upd_same, hl, fun H1 hA1 b1 => ⟨rfl, ?_⟩⟩
  have b01 : But x H H1 := s0.trans b1
  obtain ⟨dx1, hx1⟩ := hA1.ix
  have fr : ∀ {H' : Hp}, But x H H' → ∀ b, H' b = none → H b = none := fun {H'} hb b e => by
    cases e2 : H b with
    | none => rfl
    | some o =>
      have nb : b ≠ x := fun z => by rw [z, nx] at e2; cases e2
      have := hb b o nb e2
      rw [e] at this
      cases this
  refine ⟨_, rfl, x, dx1, _, rfl, hx1, noA _ _ (by decide +kernel) (by decide +kernel) (by decide +kernel), H, x, cs, 0, 0, cs.length, dE, df, rfl, hA1, hD, fr b01, fun v H2 hA2 b2 hv2 => ?_⟩
  obtain ⟨dx2, hx2⟩ := hA2.ix
  have hb := b01.trans b2
  refine ⟨_, rfl, x, dx2, _, rfl, hx2, noA _ _ (by decide +kernel) (by decide +kernel) (by decide +kernel), x, cs, _, rfl, hA2, hd30, ?_⟩
  exact ⟨_, rfl, q v H2 (fun b o e => hb b o (fun z => by rw [z, nx] at e; cases e) e) hv2⟩

abbrev s_check_names : Stmt := top 34
theorem sc_check_names : FnScope ["known", "definitions", "names", "name", "steps", "text", "kind", "worth"] ["known", "definitions"] (defScope s_check_names) := ⟨rfl, rfl, rfl, by decide +kernel, rfl, by decide +kernel, by decide +kernel⟩
theorem ok_check_names (d : D K mg "check_names" s_check_names ["known", "definitions"] f fd) (B : Blt mg) (CR : CstR mg) : FnOk P w K mg base CX0 1 f fd ["known", "definitions"] (spChkN K) := by
  obtain ⟨tk, C_MAX_DEFINITIONS⟩ := CR.MAX_DEFINITIONS
  refine d.F.ok sc_check_names (fun vs H Q E h => ?_) (fun cdv A outer s H vs Q E hr h => ?_)
  · obtain ⟨_, _, _, _, _, _, _, rfl, _⟩ := h
    rfl
  obtain ⟨H0, kd, l, kvs, kn, us, dfs, rfl, hkd, hkeys, hl, hD, hO, hn, hok, q⟩ := h
  refine ⟨_, (pss_cons (ps_set (i := 2) sc_check_names.nd rfl (Or.inl rfl) (pe_callTy (call_listD (by rfl)) (by rfl) B.list (by decide +kernel) (pa_cons (pv 0) pa_nil)))
 (pss_cons (ps_for PassesOwn.never rfl (pi_list (pv 1)) (pg_tup (by rfl) (pgs_cons (pg_name (i := 3) sc_check_names.nd rfl (Or.inl rfl)) (pgs_cons (pg_name (i := 4) sc_check_names.nd rfl (Or.inl rfl)) (pgs_cons (pg_name (i := 5) sc_check_names.nd rfl (Or.inl rfl)) pgs_nil))))
  (pss_cons (ps_for PassesOwn.never rfl (pi_list (pv 4)) (pg_tup (by rfl) (pgs_cons (pg_name (i := 6) sc_check_names.nd rfl (Or.inl rfl)) (pgs_cons (pg_name (i := 7) sc_check_names.nd rfl (Or.inl rfl)) pgs_nil)))
  (pss_one (ps_if (PW.pt (pw_and (pt_cmpR op_eq (pv 6) pe_str (nomark _)) (pw_and1 (pt_cmpR op_notIn_seq (pv 7) (pv 2) (by with_unfolding_all rfl))))) (pss_one ps_never) pss_nil)))
 (pss_cons (ps_if (pt_cmpR op_in_seq (pv 3) (pv 2) (by with_unfolding_all rfl)) (pss_one ps_never) pss_nil)
 (pss_one (ps_expr (pe_bm PySem.F.plainAttrs_list PySem.F.slot_list_append PySem.F.type_list_append mt_append (pv 2) (pa_cons (pv 3) pa_nil)))))))
 (pss_one (ps_if (pt_cmpR op_gt (pe_callB call_len_seq (by rfl) B.len PySem.boot_len (pa_cons (pv 2) pa_nil)) (pe_glob (v := .int 30) rfl C_MAX_DEFINITIONS ⟨_, rfl⟩) (nomark _)) (pss_one ps_never) pss_nil)))), ?_⟩
  refine ⟨_, rfl, kd, kvs, rfl, .inl hkd, fun nl nnl => ?_⟩
  have s1 := Same.new nnl (.lst (kvs.map fun kv => kV kv.1))
  have ek : (kvs.map fun kv => kV kv.1) = kn.map nmV := by
    have e := congrArg (List.map kV) hkeys
    rw [List.map_map, List.map_map] at e
    exact e
  rw [ek] at s1 ⊢
  have nll : nl ≠ l := ne_of_none hl nnl |>.symm
  refine ⟨_, rfl, l, rfl, ⟨us, SqL.here (s1 _ _ hl)⟩, for_list (xs := us) (fun j σ G => ∃ (x3 x4 x5 x6 x7 : Option V) (kn' : List (List Nat)), σ = [some (.ref kd), some (.ref l), some (.ref nl), x3, x4, x5, x6, x7] ∧ Same H G ∧ G nl = some (.lst (kn'.map nmV)) ∧ OkSeq kn' (dfs.drop j) ∧ kn'.length = kn.length + j) ⟨none, none, none, none, none, kn, rfl, s1, upd_same, hO, rfl⟩ (fun j σ G _ ⟨_, _, _, _, _, _, _, sm, _⟩ => SqL.here (sm _ _ hl)) ?_ ?_⟩
  · rintro j v σ G hv ⟨x3, x4, x5, x6, x7, kn', rfl, sm, hnl, hO, hlen⟩
    have hj := (List.getElem?_eq_some_iff.mp hv).1
    have hlu := hD.len
    obtain ⟨df, hdf, qd, ls, su, rfl, hq, hl0, hls, hst⟩ := hD.at hv
    have hjd := (List.getElem?_eq_some_iff.mp hdf).1
    have edr : dfs.drop j = df :: dfs.drop (j + 1) := by
      rw [List.drop_eq_getElem_cons hjd, (List.getElem?_eq_some_iff.mp hdf).2]
    rw [edr] at hO
    obtain ⟨o1, o2, o3⟩ := hO
    have hdok : ∀ x ∈ df.ss, StOk x := hok df (List.mem_of_getElem? hdf)
    have hqG := (Tp.same sm).sqT hq
    refine ⟨qd, _, rfl, hqG, rfl, _, _, rfl, _, _, rfl, _, _, rfl, rfl, ?_⟩
    have hlsG := sm _ _ hls
    refine ⟨_, rfl, ls, rfl, ⟨su, SqL.here hlsG⟩, for_list (xs := su) (fun i σ G => ∃ (x6 x7 : Option V), σ = [some (.ref kd), some (.ref l), some (.ref nl), some (.str (sL df.nm)), some (.ref ls), some (.str (sL df.tx)), x6, x7] ∧ Same H G ∧ G nl = some (.lst (kn'.map nmV))) ⟨_, _, rfl, sm, hnl⟩ (fun i σ G _ ⟨_, _, _, sm, _⟩ => SqL.here (sm _ _ hls)) ?_ ?_⟩
    · rintro i v σ G hv ⟨x6, x7, rfl, sm, hnl⟩
      obtain ⟨st, hst1, qs, rfl, hqs⟩ := hst.at hv
      have hm := List.mem_of_getElem? hst1
      have hqsG := (Tp.same sm).sqT hqs
      refine ⟨qs, _, rfl, hqsG, rfl, _, _, rfl, _, _, rfl, rfl, ?_⟩
      refine ⟨_, rfl, rfl, _, rfl, ?_⟩
      rw [kind_is "name" (.inr (.inl rfl)) st (hdok st hm)]
      cases st with
      | gen => exact ite_no (by decide +kernel) (ite_no rfl ⟨_, _, rfl, sm, hnl⟩)
      | pr => exact ite_no (by decide +kernel) (ite_no rfl ⟨_, _, rfl, sm, hnl⟩)
      | pw s k => exact ite_no rfl (ite_no rfl ⟨_, _, rfl, sm, hnl⟩)
      | nm n =>
        refine ite_yes (show decide (Str.ofString "name" = Str.ofString "name") = true by decide +kernel) ⟨_, rfl, _, rfl, nl, _, rfl, .inl (SqL.here hnl), rfl, flat_nms _, _, rfl, ?_⟩
        have e : inV (V.str (sL n)) (kn'.map nmV) = true := (inV_nm n kn').trans (decide_eq_true (o1 n hm))
        show if (!inV (V.str (sL n)) (kn'.map nmV)) = true then _ else _
        rw [e]
        exact iteF ⟨_, _, rfl, sm, hnl⟩
    · rintro σ G ⟨x6, x7, rfl, sm, hnl⟩
      refine ⟨_, rfl, _, rfl, nl, _, rfl, .inl (SqL.here hnl), rfl, flat_nms _, _, rfl, ?_⟩
      have e : inV (V.str (sL df.nm)) (kn'.map nmV) = false := (inV_nm df.nm kn').trans (decide_eq_false o2)
      show if inV (V.str (sL df.nm)) (kn'.map nmV) = true then _ else _
      rw [e]
      refine iteF ⟨_, rfl, .inl ⟨rfl, _, SqL.here hnl⟩, _, rfl, nl, _, _, rfl, rfl, hnl, small1000 (by rw [List.length_map]; omega), ?_⟩
      refine ⟨_, _, _, _, _, kn' ++ [df.nm], rfl, fun b o z => ?_, by rw [upd_same, List.map_append]; rfl, o3, by rw [List.length_append, List.length_singleton]; omega⟩
      rw [upd_ne (ne_of_none z nnl)]
      exact sm _ _ z
  · rintro σ G ⟨x3, x4, x5, x6, x7, kn', rfl, sm, hnl, hO, hlen⟩
    have hlu := hD.len
    refine ⟨_, rfl, nl, _, rfl, .inl (SqL.here hnl), _, _, rfl, rfl, _, rfl, ite_no (decide_eq_false ?_) (q G sm)⟩
    rw [List.length_map]
    omega

abbrev s_computed : Stmt := top 35
theorem sc_computed : FnScope ["steps", "known", "generator", "join", "power", "values", "kind", "worth", "right", "left"] ["steps", "known", "generator", "join", "power"] (defScope s_computed) := ⟨rfl, rfl, rfl, by decide +kernel, rfl, by decide +kernel, by decide +kernel⟩
theorem evS_cons {α : Type} {g : α} {j : α → α → α} {pw : Nat → α → Int → α} {kn : List Nat → Option α} {s : St1} {ss : List St1} {st : List α} {r : List α} (h : evS g j pw kn (s :: ss) st = some r) :
    (s = .gen ∧ evS g j pw kn ss (g :: st) = some r) ∨ (∃ n a, s = .nm n ∧ kn n = some a ∧ evS g j pw kn ss (a :: st) = some r) ∨ (∃ a b st', s = .pr ∧ st = b :: a :: st' ∧ evS g j pw kn ss (j a b :: st') = some r) ∨ ∃ c k a st', s = .pw c k ∧ st = a :: st' ∧ evS g j pw kn ss (pw c a k :: st') = some r := by
  cases s with
  | gen => exact .inl ⟨rfl, h⟩
  | nm n =>
    have h : (match kn n with | some a => evS g j pw kn ss (a :: st) | none => none) = some r := h
    cases e : kn n with
    | none => rw [e] at h; cases h
    | some a =>
      rw [e] at h
      exact .inr (.inl ⟨n, a, rfl, e, h⟩)
  | pr =>
    match st, h with
    | b :: a :: st', h => exact .inr (.inr (.inl ⟨a, b, st', rfl, rfl, h⟩))
    | [_], h => exact nomatch (show (none : Option (List α)) = some r from h)
    | [], h => exact nomatch (show (none : Option (List α)) = some r from h)
  | pw c k =>
    match st, h with
    | a :: st', h => exact .inr (.inr (.inr ⟨c, k, a, st', rfl, rfl, h⟩))
    | [], h => exact nomatch (show (none : Option (List α)) = some r from h)
theorem ok_computed {α : Type} (d : D K mg "computed" s_computed ["steps", "known", "generator", "join", "power"] f fd) (B : Blt mg) (k : Nat) (ok : St1 → Prop) (oks : ∀ s, ok s → StOk s) (R : Nat → Hp → V → α → Prop) (g : α) (j : α → α → α) (pw : Nat → α → Int → α) (Rs : ∀ n H H' v a, Tp H H' → R n H v a → R n H' v a) (Ru : ∀ n H v a, R n H v a → R (n + 1) H v a) : FnOk P w K mg base CX0 (k + 1) f fd ["steps", "known", "generator", "join", "power"] (spComp P w K mg base k ok R g j pw) := by
  refine d.F.ok sc_computed (fun vs H Q E h => ?_) (fun cdv A outer s H vs Q E hr h => ?_)
  · obtain ⟨_, _, _, _, _, _, _, _, _, _, _, rfl, _⟩ := h
    rfl
  obtain ⟨l, kd, fj, fp, gv, us, ss, kvs, kn, J, a, rfl, hl, hS, hok, hkd, hkn, hg, hJ, hP, hev, hsJ, hsl, q⟩ := h
  refine ⟨_, (pss_cons (ps_set (i := 5) sc_computed.nd rfl (Or.inl rfl) (pe_lst pa_nil))
 (pss_cons (ps_for PassesOwn.never rfl (pi_list (pv 0)) (pg_tup (by rfl) (pgs_cons (pg_name (i := 6) sc_computed.nd rfl (Or.inl rfl)) (pgs_cons (pg_name (i := 7) sc_computed.nd rfl (Or.inl rfl)) pgs_nil)))
  (pss_one (ps_if (pt_cmpR op_eq (pv 6) pe_str (nomark _)) (pss_one (ps_expr (pe_bm PySem.F.plainAttrs_list PySem.F.slot_list_append PySem.F.type_list_append mt_append (pv 5) (pa_cons (pv 2) pa_nil)))) (pss_one (ps_if (pt_cmpR op_eq (pv 6) pe_str (nomark _)) (pss_one (ps_expr (pe_bm PySem.F.plainAttrs_list PySem.F.slot_list_append PySem.F.type_list_append mt_append (pv 5) (pa_cons (pe_dget (hu_of hr) (pv 1) (pv 7) (fun _ _ => rfl)) pa_nil)))) (pss_one (ps_if (pt_cmpR op_eq (pv 6) pe_str (nomark _)) (pss_cons (ps_set (i := 8) sc_computed.nd rfl (Or.inl rfl) (pe_bm0 PySem.F.plainAttrs_list PySem.F.slot_list_pop PySem.F.type_list_pop mt_pop (pv 5)))
 (pss_cons (ps_set (i := 9) sc_computed.nd rfl (Or.inl rfl) (pe_bm0 PySem.F.plainAttrs_list PySem.F.slot_list_pop PySem.F.type_list_pop mt_pop (pv 5)))
 (pss_one (ps_expr (pe_bm PySem.F.plainAttrs_list PySem.F.slot_list_append PySem.F.type_list_append mt_append (pv 5) (pa_cons (pe_lamQC (k := k) (i := 3) hr (by exact Nat.le_refl _) rfl (.inl rfl) (pa_cons (pv 9) (pa_cons (pv 8) pa_nil))) pa_nil)))))) (pss_one (ps_expr (pe_bm PySem.F.plainAttrs_list PySem.F.slot_list_append PySem.F.type_list_append mt_append (pv 5) (pa_cons (pe_lamQC (k := k) (i := 4) hr (by exact Nat.le_refl _) rfl (.inl rfl) (pa_cons (pv 6) (pa_cons (pe_bm0 PySem.F.plainAttrs_list PySem.F.slot_list_pop PySem.F.type_list_pop mt_pop (pv 5)) (pa_cons (pv 7) pa_nil)))) pa_nil)))))))))))
 (pss_one (ps_ret (pe_ix ix_list (pv 5) pe_int (fun _ _ => rfl)))))), ?_⟩
  refine ⟨zero_le', fun lv nlv => ?_⟩
  have s1 := Same.new nlv (.lst [])
  have hlu := hS.len
  have Rup : ∀ n m H v a, n ≤ m → R n H v a → R m H v a := fun n m H v a hm h => by
    induction hm with
    | refl => exact h
    | step _ ih => exact Ru _ _ _ _ ih
  have nlv0 : ∀ b o, H b = some o → b ≠ lv := fun b o e => ne_of_none e nlv
  refine ⟨_, rfl, l, rfl, ⟨us, SqL.here (s1 _ _ hl)⟩, for_list (xs := us) (fun i σ G => ∃ (x6 x7 x8 x9 : Option V) (ws : List V) (st : List α), σ = [some (.ref l), some (.ref kd), some gv, some (.ref fj), some (.ref fp), some (.ref lv), x6, x7, x8, x9] ∧ Same H G ∧ G lv = some (.lst ws.reverse) ∧ RAll (R i G) ws st ∧ evS g j pw kn (ss.drop i) st = some [a] ∧ st.length ≤ i) ⟨none, none, none, none, [], [], rfl, s1, upd_same, .nil, hev, Nat.le_refl _⟩ (fun i σ G _ ⟨_, _, _, _, _, _, _, sm, _⟩ => SqL.here (sm _ _ hl)) ?_ ?_⟩
  · rintro i v σ G hv ⟨x6, x7, x8, x9, ws, st, rfl, sm, hlv, hR, hev, hst⟩
    have hi := (List.getElem?_eq_some_iff.mp hv).1
    obtain ⟨s0, hs0, qs, rfl, hqs⟩ := hS.at hv
    have hid := (List.getElem?_eq_some_iff.mp hs0).1
    have edr : ss.drop i = s0 :: ss.drop (i + 1) := by
      rw [List.drop_eq_getElem_cons hid, (List.getElem?_eq_some_iff.mp hs0).2]
    rw [edr] at hev
    have hso := hok s0 (List.mem_of_getElem? hs0)
    have hwl := hR.len
    have fit : ∀ {zs : List V}, zs.length ≤ ws.length → zs.reverse.length < sizeLine := fun hz => by
      rw [List.length_reverse]
      exact Nat.lt_of_le_of_lt (show _ ≤ 10000 by omega) (by decide)
    -- a new value stands on top
    have fin : ∀ (G' : Hp) (vn : V) (b : α) (zs : List V) (st' : List α), Same H G' → G' lv = some (.lst zs.reverse) → RAll (R i G') zs st' → R (i + 1) G' vn b → evS g j pw kn (ss.drop (i + 1)) (b :: st') = some [a] → st'.length ≤ i →
        ∃ (ws' : List V) (st2 : List α), Same H (upd G' lv (.lst (zs.reverse ++ [vn]))) ∧ (upd G' lv (.lst (zs.reverse ++ [vn]))) lv = some (.lst ws'.reverse) ∧ RAll (R (i + 1) (upd G' lv (.lst (zs.reverse ++ [vn])))) ws' st2 ∧ evS g j pw kn (ss.drop (i + 1)) st2 = some [a] ∧ st2.length ≤ i + 1 := fun G' vn b zs st' k1 k2 k3 k4 k5 k6 => by
      have tp : Tp G' (upd G' lv (.lst (zs.reverse ++ [vn]))) := Tp.but k2 But.set
      refine ⟨vn :: zs, b :: st', fun c o e => ?_, by rw [upd_same, List.reverse_cons], .cons (Rs _ _ _ _ _ tp k4) (k3.imp fun v a z => Rs _ _ _ _ _ tp (Ru _ _ _ _ z)), k5, by rw [List.length_cons]; omega⟩
      rw [upd_ne (nlv0 c o e)]
      exact k1 _ _ e
    -- the top value is taken off
    have pop : ∀ (G' : Hp) (v : V) (zs : List V), Same H G' → G' lv = some (.lst (v :: zs).reverse) → (v :: zs).reverse[(v :: zs).reverse.length - 1]? = some v ∧ (v :: zs).reverse.dropLast = zs.reverse ∧ Same H (upd G' lv (.lst zs.reverse)) ∧ Tp G' (upd G' lv (.lst zs.reverse)) := fun G' v zs k1 k2 => by
      refine ⟨?_, ?_, fun c o e => ?_, Tp.but k2 But.set⟩
      · rw [List.reverse_cons]
        simp
      · rw [List.reverse_cons, List.dropLast_concat]
      · rw [upd_ne (nlv0 c o e)]
        exact k1 _ _ e
    refine ⟨qs, _, rfl, (Tp.same sm).sqT hqs, rfl, _, _, rfl, _, _, rfl, rfl, ?_⟩
    refine ⟨_, rfl, rfl, _, rfl, ?_⟩
    rw [kind_is "x" (.inl (by decide +kernel)) s0 (oks _ hso)]
    have nx1 : decide (Str.ofString "x" = Str.ofString "name") = false := by decide +kernel
    have nx2 : decide (Str.ofString "x" = Str.ofString "pair") = false := by decide +kernel
    have nn1 : decide (Str.ofString "name" = Str.ofString "pair") = false := by decide +kernel
    have np1 : decide (Str.ofString "pair" = Str.ofString "name") = false := by decide +kernel
    rcases evS_cons hev with ⟨rfl, hev⟩ | ⟨n, b, rfl, hb, hev⟩ | ⟨a1, b1, st', rfl, rfl, hev⟩ | ⟨c, kk, a1, st', rfl, rfl, hev⟩
    · refine ite_yes (by decide +kernel) ⟨_, rfl, .inl ⟨rfl, _, SqL.here hlv⟩, _, rfl, lv, _, _, rfl, rfl, hlv, fit (Nat.le_refl _), ?_⟩
      obtain ⟨ws', st2, z⟩ := fin G gv g ws st sm hlv hR (Rup 0 (i + 1) _ _ _ (Nat.zero_le _) (Rs _ _ _ _ _ (Tp.same sm) hg)) hev hst
      exact ⟨_, _, _, _, ws', st2, rfl, z⟩
    · refine ite_no (show decide (Str.ofString "x" = Str.ofString "name") = false from nx1) ⟨_, rfl, rfl, _, rfl, ?_⟩
      rw [kind_is "name" (.inr (.inl rfl)) _ (oks _ hso)]
      obtain ⟨v, hv1, hv2⟩ := hkn n b hb
      have hg : DGet G kd (V.str (sL n)) (some v) := by
        have z := DGet.k (k := nmK n) (sm _ _ hkd)
        rw [hv1] at z
        exact z
      refine ite_yes (show decide (Str.ofString "name" = Str.ofString "name") = true by decide +kernel) ⟨_, rfl, .inl ⟨rfl, _, SqL.here hlv⟩, _, rfl, _, rfl, kd, v, rfl, hg, lv, _, _, rfl, rfl, hlv, fit (Nat.le_refl _), ?_⟩
      obtain ⟨ws', st2, z⟩ := fin G v b ws st sm hlv hR (Rup 0 (i + 1) _ _ _ (Nat.zero_le _) (Rs _ _ _ _ _ (Tp.same sm) hv2)) hev hst
      exact ⟨_, _, _, _, ws', st2, rfl, z⟩
    · refine ite_no (show decide (Str.ofString "x" = Str.ofString "pair") = false from nx2) ⟨_, rfl, rfl, _, rfl, ?_⟩
      rw [kind_is "name" (.inr (.inl rfl)) _ (oks _ hso)]
      refine ite_no (show decide (Str.ofString "name" = Str.ofString "pair") = false from nn1) ⟨_, rfl, rfl, _, rfl, ?_⟩
      rw [kind_is "pair" (.inr (.inr rfl)) _ (oks _ hso)]
      cases hR with
      | @cons vb _ ws1 _ r1 hR =>
      cases hR with
      | @cons va _ ws2 _ r2 hR =>
      refine ite_yes (show decide (Str.ofString "pair" = Str.ofString "pair") = true by decide +kernel) ?_
      obtain ⟨p1, p2, p3, p4⟩ := pop G vb (va :: ws2) sm hlv
      refine ⟨_, rfl, .inl ⟨rfl, _, SqL.here hlv⟩, lv, _, vb, rfl, rfl, hlv, p1, ?_⟩
      rw [p2]
      have hlv2 : (upd G lv (.lst (va :: ws2).reverse)) lv = some (.lst (va :: ws2).reverse) := upd_same
      obtain ⟨q1, q2, q3, q4⟩ := pop _ va ws2 p3 hlv2
      refine ⟨_, rfl, .inl ⟨rfl, _, SqL.here hlv2⟩, lv, _, va, rfl, rfl, hlv2, q1, ?_⟩
      rw [q2]
      have hlv3 : (upd (upd G lv (.lst (va :: ws2).reverse)) lv (.lst ws2.reverse)) lv = some (.lst ws2.reverse) := upd_same
      have tp := p4.trans q4
      generalize (upd (upd G lv (.lst (va :: ws2).reverse)) lv (.lst ws2.reverse)) = G3 at *
      have w2 : ws2.length ≤ (vb :: va :: ws2).length := by rw [List.length_cons, List.length_cons]; omega
      refine ⟨_, rfl, .inl ⟨rfl, _, SqL.here hlv3⟩, fj, _, rfl, hJ.same q3, _, rfl, _, rfl, hJ.same q3, i, va, vb, a1, b1, rfl, by omega, Rs _ _ _ _ _ tp r2, Rs _ _ _ _ _ tp r1, fun u G4 s4 r4 => ?_⟩
      have hlv4 := s4 _ _ hlv3
      refine ⟨lv, _, _, rfl, rfl, hlv4, fit w2, ?_⟩
      obtain ⟨ws', st2, z⟩ := fin G4 u (j a1 b1) ws2 st' (q3.trans s4) hlv4 (hR.imp fun v a z => Rs _ _ _ _ _ (tp.trans (Tp.same s4)) z) r4 hev (by rw [List.length_cons, List.length_cons] at hst; omega)
      exact ⟨_, _, _, _, ws', st2, rfl, z⟩
    · refine ite_no rfl ⟨_, rfl, rfl, _, rfl, ?_⟩
      rw [kind_is "name" (.inr (.inl rfl)) _ (oks _ hso)]
      refine ite_no rfl ⟨_, rfl, rfl, _, rfl, ?_⟩
      rw [kind_is "pair" (.inr (.inr rfl)) _ (oks _ hso)]
      refine ite_no rfl ?_
      cases hR with
      | @cons va _ ws2 _ r2 hR =>
      obtain ⟨p1, p2, p3, p4⟩ := pop G va ws2 sm hlv
      refine ⟨_, rfl, .inl ⟨rfl, _, SqL.here hlv⟩, fp, _, rfl, hP.same sm, _, rfl, _, rfl, .inl ⟨rfl, _, SqL.here hlv⟩, lv, _, va, rfl, rfl, hlv, p1, ?_⟩
      rw [p2]
      have hlv3 : (upd G lv (.lst ws2.reverse)) lv = some (.lst ws2.reverse) := upd_same
      generalize (upd G lv (.lst ws2.reverse)) = G3 at *
      refine ⟨_, rfl, hP.same p3, i, c, va, kk, a1, rfl, by omega, hso, Rs _ _ _ _ _ p4 r2, fun u G4 s4 r4 => ?_⟩
      have hlv4 := s4 _ _ hlv3
      have w2 : ws2.length ≤ (va :: ws2).length := by rw [List.length_cons]; omega
      refine ⟨lv, _, _, rfl, rfl, hlv4, fit w2, ?_⟩
      obtain ⟨ws', st2, z⟩ := fin G4 u (pw c a1 kk) ws2 st' (p3.trans s4) hlv4 (hR.imp fun v a z => Rs _ _ _ _ _ (p4.trans (Tp.same s4)) z) r4 hev (by rw [List.length_cons] at hst; omega)
      exact ⟨_, _, _, _, ws', st2, rfl, z⟩
  · rintro σ G ⟨x6, x7, x8, x9, ws, st, rfl, sm, hlv, hR, hev, hst⟩
    rw [hlu, List.drop_length] at hev
    have hev : some st = some [a] := hev
    cases hev
    cases hR with
    | @cons v _ ws2 _ r1 hR =>
    cases hR
    refine ⟨_, rfl, lv, _, 0, _, rfl, rfl, SqL.here hlv, rfl, q v G sm ?_⟩
    rw [← hlu]
    exact r1
theorem ok_computedE {T : List (Addr × Str)} (d : D K mg "computed" s_computed ["steps", "known", "generator", "join", "power"] f fd) (B : Blt mg) (k : Nat) : FnOk P w K mg base CX0 (k + 1) f fd ["steps", "known", "generator", "join", "power"] (spCompE P w K mg base T k) := by
  refine d.F.ok sc_computed (fun vs H Q E h => ?_) (fun cdv A outer s H vs Q E hr h => ?_)
  · obtain ⟨_, _, _, _, _, _, _, _, _, _, _, _, rfl, _⟩ := h
    rfl
  obtain ⟨l, kd, fj, fp, us, ss, kvs, kn, N, j, pw, a, rfl, hT, hl, hS, hok, hkd, hkn, hN1, hJ, hP, hj, hpw, hev, hsl, q⟩ := h
  refine ⟨_, (pss_cons (ps_set (i := 5) sc_computed.nd rfl (Or.inl rfl) (pe_lst pa_nil))
 (pss_cons (ps_for PassesOwn.never rfl (pi_list (pv 0)) (pg_tup (by rfl) (pgs_cons (pg_name (i := 6) sc_computed.nd rfl (Or.inl rfl)) (pgs_cons (pg_name (i := 7) sc_computed.nd rfl (Or.inl rfl)) pgs_nil)))
  (pss_one (ps_if (pt_cmpR op_eq (pv 6) pe_str (nomark _)) (pss_one (ps_expr (pe_bm PySem.F.plainAttrs_list PySem.F.slot_list_append PySem.F.type_list_append mt_append (pv 5) (pa_cons (pv 2) pa_nil)))) (pss_one (ps_if (pt_cmpR op_eq (pv 6) pe_str (nomark _)) (pss_one (ps_expr (pe_bm PySem.F.plainAttrs_list PySem.F.slot_list_append PySem.F.type_list_append mt_append (pv 5) (pa_cons (pe_dget (hu_of hr) (pv 1) (pv 7) (fun _ _ => rfl)) pa_nil)))) (pss_one (ps_if (pt_cmpR op_eq (pv 6) pe_str (nomark _)) (pss_cons (ps_set (i := 8) sc_computed.nd rfl (Or.inl rfl) (pe_bm0 PySem.F.plainAttrs_list PySem.F.slot_list_pop PySem.F.type_list_pop mt_pop (pv 5)))
 (pss_cons (ps_set (i := 9) sc_computed.nd rfl (Or.inl rfl) (pe_bm0 PySem.F.plainAttrs_list PySem.F.slot_list_pop PySem.F.type_list_pop mt_pop (pv 5)))
 (pss_one (ps_expr (pe_bm PySem.F.plainAttrs_list PySem.F.slot_list_append PySem.F.type_list_append mt_append (pv 5) (pa_cons (pe_lamRC (T := T) (k := k) (i := 3) hr (by exact Nat.le_refl _) rfl (.inl rfl) (pa_cons (pv 9) (pa_cons (pv 8) pa_nil))) pa_nil)))))) (pss_one (ps_expr (pe_bm PySem.F.plainAttrs_list PySem.F.slot_list_append PySem.F.type_list_append mt_append (pv 5) (pa_cons (pe_lamRC (T := T) (k := k) (i := 4) hr (by exact Nat.le_refl _) rfl (.inl rfl) (pa_cons (pv 6) (pa_cons (pe_bm0 PySem.F.plainAttrs_list PySem.F.slot_list_pop PySem.F.type_list_pop mt_pop (pv 5)) (pa_cons (pv 7) pa_nil)))) pa_nil)))))))))))
 (pss_one (ps_ret (pe_ix ix_list (pv 5) pe_int (fun _ _ => rfl)))))), ?_⟩
  refine ⟨zero_le', fun lv nlv => ?_⟩
  have s1 := Same.new nlv (.lst [])
  have hlu := hS.len
  have nlv0 : ∀ b o, H b = some o → b ≠ lv := fun b o e => ne_of_none e nlv
  have kne : kd ≠ lv := nlv0 _ _ hkd
  refine ⟨_, rfl, l, rfl, ⟨us, SqL.here (s1 _ _ hl)⟩, for_list (xs := us) (fun i σ G => ∃ (x6 x7 x8 x9 : Option V) (st : List Nat), σ = [some (.ref l), some (.ref kd), some (.int 1), some (.ref fj), some (.ref fp), some (.ref lv), x6, x7, x8, x9] ∧ LamX.ExtN H G ∧ LamX.Tabs T G ∧ G lv = some (.lst (nts st.reverse)) ∧ (∀ v ∈ st, 1 ≤ v ∧ v ≤ N) ∧ evS 1 j pw kn (ss.drop i) st = some [a] ∧ st.length ≤ i) ⟨none, none, none, none, [], rfl, LamX.ExtN.of s1, tabs_same s1 hT, upd_same, (fun _ z => nomatch z), hev, Nat.le_refl _⟩ (fun i σ G _ ⟨_, _, _, _, _, _, sm, _⟩ => SqL.here (sm _ _ hl (fun _ => nofun))) ?_ ?_⟩
  · rintro i v σ G hv ⟨x6, x7, x8, x9, st, rfl, sm, TG, hlv, hR, hev, hst⟩
    have hi := (List.getElem?_eq_some_iff.mp hv).1
    obtain ⟨s0, hs0, qs, rfl, hqs⟩ := hS.at hv
    have hid := (List.getElem?_eq_some_iff.mp hs0).1
    have edr : ss.drop i = s0 :: ss.drop (i + 1) := by
      rw [List.drop_eq_getElem_cons hid, (List.getElem?_eq_some_iff.mp hs0).2]
    rw [edr] at hev
    have hso := hok s0 (List.mem_of_getElem? hs0)
    have fit : ∀ {zs : List Nat}, zs.length ≤ st.length → (nts zs.reverse).length < sizeLine := fun hz => by
      rw [nts_len, List.length_reverse]
      exact Nat.lt_of_le_of_lt (show _ ≤ 10000 by omega) (by decide)
    have snoc : ∀ (zs : List Nat) (b : Nat), nts zs.reverse ++ [V.int (b : Int)] = nts (b :: zs).reverse := fun zs b => by
      rw [List.reverse_cons]
      unfold nts
      rw [List.map_append]
      rfl
    -- a new value stands on top
    have fin : ∀ (G' : Hp) (b : Nat) (zs : List Nat), LamX.ExtN H G' → LamX.Tabs T G' → G' lv = some (.lst (nts zs.reverse)) → (∀ v ∈ zs, 1 ≤ v ∧ v ≤ N) → (1 ≤ b ∧ b ≤ N) → evS 1 j pw kn (ss.drop (i + 1)) (b :: zs) = some [a] → zs.length ≤ i →
        ∃ (st2 : List Nat), LamX.ExtN H (upd G' lv (.lst (nts zs.reverse ++ [V.int (b : Int)]))) ∧ LamX.Tabs T (upd G' lv (.lst (nts zs.reverse ++ [V.int (b : Int)]))) ∧ (upd G' lv (.lst (nts zs.reverse ++ [V.int (b : Int)]))) lv = some (.lst (nts st2.reverse)) ∧ (∀ v ∈ st2, 1 ≤ v ∧ v ≤ N) ∧ evS 1 j pw kn (ss.drop (i + 1)) st2 = some [a] ∧ st2.length ≤ i + 1 := fun G' b zs k1 k2 k3 k4 k5 k6 k7 => by
      refine ⟨b :: zs, fun c o e n => ?_, tabs_setL k2 k3 But.set, by rw [upd_same, snoc], fun v hv => ?_, k6, by rw [List.length_cons]; omega⟩
      · rw [upd_ne (nlv0 c o e)]
        exact k1 _ _ e n
      · rcases List.mem_cons.mp hv with rfl | hv
        · exact k5
        · exact k4 v hv
    -- the top value is taken off
    have pop : ∀ (G' : Hp) (v : Nat) (zs : List Nat), LamX.ExtN H G' → LamX.Tabs T G' → G' lv = some (.lst (nts (v :: zs).reverse)) → (nts (v :: zs).reverse)[(nts (v :: zs).reverse).length - 1]? = some (V.int (v : Int)) ∧ (nts (v :: zs).reverse).dropLast = nts zs.reverse ∧ LamX.ExtN H (upd G' lv (.lst (nts zs.reverse))) ∧ LamX.Tabs T (upd G' lv (.lst (nts zs.reverse))) := fun G' v zs k1 k2 k3 => by
      refine ⟨?_, ?_, fun c o e n => ?_, tabs_setL k2 k3 But.set⟩
      · rw [← snoc]
        simp
      · rw [← snoc, List.dropLast_concat]
      · rw [upd_ne (nlv0 c o e)]
        exact k1 _ _ e n
    have hJG := hJ.ext sm
    have hPG := hP.ext sm
    refine ⟨qs, _, rfl, (Tp.extN sm).sqT hqs, rfl, _, _, rfl, _, _, rfl, rfl, ?_⟩
    refine ⟨_, rfl, rfl, _, rfl, ?_⟩
    rw [kind_is "x" (.inl (by decide +kernel)) s0 hso]
    have nx1 : decide (Str.ofString "x" = Str.ofString "name") = false := by decide +kernel
    have nx2 : decide (Str.ofString "x" = Str.ofString "pair") = false := by decide +kernel
    have nn1 : decide (Str.ofString "name" = Str.ofString "pair") = false := by decide +kernel
    rcases evS_cons hev with ⟨rfl, hev⟩ | ⟨n, b, rfl, hb, hev⟩ | ⟨a1, b1, st', rfl, rfl, hev⟩ | ⟨c, kk, a1, st', rfl, rfl, hev⟩
    · refine ite_yes (by decide +kernel) ⟨_, rfl, .inl ⟨rfl, _, SqL.here hlv⟩, _, rfl, lv, _, _, rfl, rfl, hlv, fit (Nat.le_refl _), ?_⟩
      obtain ⟨st2, z⟩ := fin G 1 st sm TG hlv hR ⟨Nat.le_refl _, hN1⟩ hev hst
      exact ⟨_, _, _, _, st2, rfl, z⟩
    · refine ite_no (show decide (Str.ofString "x" = Str.ofString "name") = false from nx1) ⟨_, rfl, rfl, _, rfl, ?_⟩
      rw [kind_is "name" (.inr (.inl rfl)) _ hso]
      obtain ⟨hv1, hv2⟩ := hkn n b hb
      have hg : DGet G kd (V.str (sL n)) (some (.int (b : Int))) := by
        have z := DGet.k (k := nmK n) (sm _ _ hkd (fun _ => nofun))
        rw [hv1] at z
        exact z
      refine ite_yes (show decide (Str.ofString "name" = Str.ofString "name") = true by decide +kernel) ⟨_, rfl, .inl ⟨rfl, _, SqL.here hlv⟩, _, rfl, _, rfl, kd, _, rfl, hg, lv, _, _, rfl, rfl, hlv, fit (Nat.le_refl _), ?_⟩
      obtain ⟨st2, z⟩ := fin G b st sm TG hlv hR hv2 hev hst
      exact ⟨_, _, _, _, st2, rfl, z⟩
    · refine ite_no (show decide (Str.ofString "x" = Str.ofString "pair") = false from nx2) ⟨_, rfl, rfl, _, rfl, ?_⟩
      rw [kind_is "name" (.inr (.inl rfl)) _ hso]
      refine ite_no (show decide (Str.ofString "name" = Str.ofString "pair") = false from nn1) ⟨_, rfl, rfl, _, rfl, ?_⟩
      rw [kind_is "pair" (.inr (.inr rfl)) _ hso]
      refine ite_yes (show decide (Str.ofString "pair" = Str.ofString "pair") = true by decide +kernel) ?_
      have r1 := hR b1 List.mem_cons_self
      have r2 := hR a1 (List.mem_cons_of_mem _ List.mem_cons_self)
      have hR2 : ∀ v ∈ st', 1 ≤ v ∧ v ≤ N := fun v hv => hR v (List.mem_cons_of_mem _ (List.mem_cons_of_mem _ hv))
      obtain ⟨p1, p2, p3, p4⟩ := pop G b1 (a1 :: st') sm TG hlv
      refine ⟨_, rfl, .inl ⟨rfl, _, SqL.here hlv⟩, lv, _, _, rfl, rfl, hlv, p1, ?_⟩
      rw [p2]
      have hlv2 : (upd G lv (.lst (nts (a1 :: st').reverse))) lv = some (.lst (nts (a1 :: st').reverse)) := upd_same
      obtain ⟨q1, q2, q3, q4⟩ := pop _ a1 st' p3 p4 hlv2
      refine ⟨_, rfl, .inl ⟨rfl, _, SqL.here hlv2⟩, lv, _, _, rfl, rfl, hlv2, q1, ?_⟩
      rw [q2]
      have hlv3 : (upd (upd G lv (.lst (nts (a1 :: st').reverse))) lv (.lst (nts st'.reverse))) lv = some (.lst (nts st'.reverse)) := upd_same
      generalize (upd (upd G lv (.lst (nts (a1 :: st').reverse))) lv (.lst (nts st'.reverse))) = G3 at *
      have w2 : st'.length ≤ (b1 :: a1 :: st').length := by rw [List.length_cons, List.length_cons]; omega
      refine ⟨_, rfl, .inl ⟨rfl, _, SqL.here hlv3⟩, fj, _, _, rfl, hJ.ext q3, _, rfl, _, rfl, hJ.ext q3, q4, ⟨a1, b1, rfl, r2, r1⟩, fun u G4 s4 t4 hp => ?_⟩
      obtain rfl := hp _ _ rfl
      have hlv4 := s4 _ _ hlv3 (fun _ => nofun)
      refine ⟨lv, _, _, rfl, rfl, hlv4, fit w2, ?_⟩
      obtain ⟨st2, z⟩ := fin G4 (j a1 b1) st' (q3.trans s4) t4 hlv4 hR2 (hj a1 b1 r2.1 r2.2 r1.1 r1.2) hev (by rw [List.length_cons, List.length_cons] at hst; omega)
      exact ⟨_, _, _, _, st2, rfl, z⟩
    · refine ite_no rfl ⟨_, rfl, rfl, _, rfl, ?_⟩
      rw [kind_is "name" (.inr (.inl rfl)) _ hso]
      refine ite_no rfl ⟨_, rfl, rfl, _, rfl, ?_⟩
      rw [kind_is "pair" (.inr (.inr rfl)) _ hso]
      refine ite_no rfl ?_
      have r2 := hR a1 List.mem_cons_self
      have hR2 : ∀ v ∈ st', 1 ≤ v ∧ v ≤ N := fun v hv => hR v (List.mem_cons_of_mem _ hv)
      obtain ⟨p1, p2, p3, p4⟩ := pop G a1 st' sm TG hlv
      refine ⟨_, rfl, .inl ⟨rfl, _, SqL.here hlv⟩, fp, _, _, rfl, hPG, _, rfl, _, rfl, .inl ⟨rfl, _, SqL.here hlv⟩, lv, _, _, rfl, rfl, hlv, p1, ?_⟩
      rw [p2]
      have hlv3 : (upd G lv (.lst (nts st'.reverse))) lv = some (.lst (nts st'.reverse)) := upd_same
      generalize (upd G lv (.lst (nts st'.reverse))) = G3 at *
      refine ⟨_, rfl, hP.ext p3, p4, ⟨c, a1, kk, rfl, hso, r2⟩, fun u G4 s4 t4 hp => ?_⟩
      obtain rfl := hp _ _ _ rfl
      have hlv4 := s4 _ _ hlv3 (fun _ => nofun)
      have w2 : st'.length ≤ (a1 :: st').length := by rw [List.length_cons]; omega
      refine ⟨lv, _, _, rfl, rfl, hlv4, fit w2, ?_⟩
      obtain ⟨st2, z⟩ := fin G4 (pw c a1 kk) st' (p3.trans s4) t4 hlv4 hR2 (hpw c a1 kk r2.1 r2.2) hev (by rw [List.length_cons] at hst; omega)
      exact ⟨_, _, _, _, st2, rfl, z⟩
  · rintro σ G ⟨x6, x7, x8, x9, st, rfl, sm, TG, hlv, hR, hev, hst⟩
    rw [hlu, List.drop_length] at hev
    have hev : some st = some [a] := hev
    cases hev
    obtain ⟨r1, r2⟩ := hR a (List.mem_singleton.mpr rfl)
    exact ⟨_, rfl, lv, _, 0, _, rfl, rfl, SqL.here hlv, rfl, q G sm TG r1 r2⟩

abbrev s_computed_size : Stmt := top 36
theorem sc_computed_size : FnScope ["steps", "sizes"] ["steps", "sizes"] (defScope s_computed_size) := ⟨rfl, rfl, rfl, by decide +kernel, rfl, by decide +kernel, by decide +kernel⟩
def szQ : Str := (PyProof.Rows.envOfC "computed_size" (defScope s_computed_size) 0 0 .none).qual ++ "<lambda>"
theorem ok_computed_size {ca Pa g1 : Addr} {h1 : FuncData} {T : List (Addr × Str)} {oc kV doc pm ct : Value} {od an : Option Addr} {osl : Array (Option Value)} (lk : K.lookup f = some ⟨oc, od, .func (PySem.W.fnOf "computed_size" "computed_size" (defArgs s_computed_size) (defBody s_computed_size) (defScope s_computed_size) .none kV doc pm an (.ref ca) ct), osl⟩) (hcd : PySem.W.codeIn K (.ref ca) "computed_size" = true) (B : Blt mg)
    (TB : LamX.TabB base mg ca Pa) (hT1 : (Pa, szQ) ∈ T) (hT2 : ∀ p ∈ T, p.1 = Pa → p.2 = szQ) (d_computed : D K mg "computed" s_computed ["steps", "known", "generator", "join", "power"] g1 h1) :
    FnOk P w K mg base CX0 3 f (PySem.W.fnOf "computed_size" "computed_size" (defArgs s_computed_size) (defBody s_computed_size) (defScope s_computed_size) .none kV doc pm an (.ref ca) ct) ["steps", "sizes"] (spCSz T K 1 sJ sP) := by
  refine fn_of (k := 2) lk hcd sc_computed_size (fun vs H Q E h => ?_) (fun A outer s H vs Q E hr h => ?_)
  · obtain ⟨_, _, _, _, _, _, _, _, rfl, _⟩ := h
    rfl
  obtain ⟨l, kd, us, ss, kvs, kn, Bb, a, rfl, hT, hl, hS, hok, hkd, hkn, hB1, hB2, hev, hss, q⟩ := h
  have G_computed : FnOk P w K mg base CX0 2 g1 h1 ["steps", "known", "generator", "join", "power"] (spComp P w K mg base 1 StOk (RI Bb) 1 sJ sP) := ok_computed d_computed B 1 StOk (fun _ h => h) (RI Bb) 1 sJ sP (fun _ _ _ _ _ _ h => h) (fun _ _ _ _ h => RI.up (H := fun _ => none) (H' := fun _ => none) h)
  refine ⟨_, (pss_one (ps_ret (pe_call G_computed (hr.mono (by decide)) rfl d_computed.m d_computed.F.kp d_computed.b .nil pass0 (pa_cons (pv 0) (pa_cons (pv 1) (pa_cons pe_int (pa_cons (pe_lamV (T := T) TB rfl hT1 hT2 rfl (NdefX.ndef_free (fr := []) (by rfl))) (pa_cons (pe_lamV (T := T) TB rfl hT1 hT2 rfl (NdefX.ndef_free (fr := []) (by rfl))) pa_nil)))))))), ?_⟩
  refine ⟨_, rfl, _, rfl, hT, fun fj cj H1 eN1 T1 nfj hfj hcj => ⟨T1, fun fp cp H2 eN2 T2 nfp hfp hcp => ?_⟩⟩
  have eN := eN1.trans eN2
  have hfj2 := eN2 _ _ hfj (fun ps => lamO_ne ps)
  have hcj2 := eN2 _ _ hcj LamX.codeO_ne
  refine ⟨l, kd, fj, fp, .int 1, us, ss, kvs, kn, 100, a, rfl, eN _ _ hl (fun _ => nofun), hS.tp (Tp.extN eN), hok, eN _ _ hkd (fun _ => nofun), fun n b hb => ?_, ?_, ?_, ?_, hev, hss, by omega, fun v H3 s3 hv => ?_⟩
  · obtain ⟨z1, z2⟩ := hkn n b hb
    exact ⟨_, z1, rfl, z2⟩
  · exact ⟨rfl, Nat.lt_of_lt_of_le (show (1 : Int).natAbs < 2 ^ 1 by decide) (Nat.pow_le_pow_right (by decide) (by omega))⟩
  · refine lamq_of (Nl := ["left", "right"]) (ps := ["left", "right"]) (NdefX.nscope_by (by rfl)) rfl (fun _ _ us hl => match us, hl with | [_, _], _ => rfl) hfj2 hcj2 ?hb (fun A2 o2 s2 H2 hr2 => (pe_op op_add (pe_var (i := 0) rfl (.inl rfl)) (pe_var (i := 1) rfl (.inl rfl))))
    intro vs H' Q' h
    obtain ⟨n, v, w', x, y, rfl, hn, ⟨rfl, b1⟩, ⟨rfl, b2⟩, q'⟩ := h
    refine ⟨rfl, _, rfl, _, rfl, _, _, rfl, rfl, q' _ H' (Same.refl _) ⟨rfl, ri_add b1 b2 (Int.natAbs_add_le x y)⟩⟩
  · refine lamq_of (Nl := ["sign", "base", "number"]) (ps := ["sign", "base", "number"]) (NdefX.nscope_by (by rfl)) rfl (fun _ _ us hl => match us, hl with | [_, _, _], _ => rfl) hfp hcp ?hb2 (fun A2 o2 s2 H2 hr2 => (pe_op op_mulW (pe_var (i := 1) rfl (.inl rfl)) (pe_var (i := 2) rfl (.inl rfl))))
    intro vs H' Q' h
    obtain ⟨n, c, v, k, x, rfl, hn, hso, ⟨rfl, b1⟩, q'⟩ := h
    refine ⟨rfl, _, rfl, _, rfl, _, _, rfl, rfl, wide_mul b1 hso.2.2 (by omega) (by decide) (by omega), q' _ H' (Same.refl _) ⟨rfl, ri_mul b1 hso.2.2⟩⟩
  · obtain ⟨rfl, hb⟩ := hv
    exact q H3 (eN.trans (LamX.ExtN.of s3)) (T2.ext s3) hb

abbrev s_computed_depth : Stmt := top 37
theorem sc_computed_depth : FnScope ["steps", "depths"] ["steps", "depths"] (defScope s_computed_depth) := ⟨rfl, rfl, rfl, by decide +kernel, rfl, by decide +kernel, by decide +kernel⟩
def dpQ : Str := (PyProof.Rows.envOfC "computed_depth" (defScope s_computed_depth) 0 0 .none).qual ++ "<lambda>"
theorem ok_computed_depth {ca Pa g1 : Addr} {h1 : FuncData} {T : List (Addr × Str)} {oc kV doc pm ct : Value} {od an : Option Addr} {osl : Array (Option Value)} (lk : K.lookup f = some ⟨oc, od, .func (PySem.W.fnOf "computed_depth" "computed_depth" (defArgs s_computed_depth) (defBody s_computed_depth) (defScope s_computed_depth) .none kV doc pm an (.ref ca) ct), osl⟩) (hcd : PySem.W.codeIn K (.ref ca) "computed_depth" = true) (B : Blt mg)
    (TB : LamX.TabB base mg ca Pa) (hT1 : (Pa, dpQ) ∈ T) (hT2 : ∀ p ∈ T, p.1 = Pa → p.2 = dpQ) (d_computed : D K mg "computed" s_computed ["steps", "known", "generator", "join", "power"] g1 h1) :
    FnOk P w K mg base CX0 3 f (PySem.W.fnOf "computed_depth" "computed_depth" (defArgs s_computed_depth) (defBody s_computed_depth) (defScope s_computed_depth) .none kV doc pm an (.ref ca) ct) ["steps", "depths"] (spCSz T K 0 dJ dP) := by
  refine fn_of (k := 2) lk hcd sc_computed_depth (fun vs H Q E h => ?_) (fun A outer s H vs Q E hr h => ?_)
  · obtain ⟨_, _, _, _, _, _, _, _, rfl, _⟩ := h
    rfl
  obtain ⟨l, kd, us, ss, kvs, kn, Bb, a, rfl, hT, hl, hS, hok, hkd, hkn, hB1, hB2, hev, hss, q⟩ := h
  have G_computed : FnOk P w K mg base CX0 2 g1 h1 ["steps", "known", "generator", "join", "power"] (spComp P w K mg base 1 StOk (RI Bb) 0 dJ dP) := ok_computed d_computed B 1 StOk (fun _ h => h) (RI Bb) 0 dJ dP (fun _ _ _ _ _ _ h => h) (fun _ _ _ _ h => RI.up (H := fun _ => none) (H' := fun _ => none) h)
  refine ⟨_, (pss_one (ps_ret (pe_call G_computed (hr.mono (by decide)) rfl d_computed.m d_computed.F.kp d_computed.b .nil pass0 (pa_cons (pv 0) (pa_cons (pv 1) (pa_cons pe_int (pa_cons (pe_lamV (T := T) TB rfl hT1 hT2 rfl (NdefX.ndef_free (fr := []) (by rfl))) (pa_cons (pe_lamV (T := T) TB rfl hT1 hT2 rfl (NdefX.ndef_free (fr := []) (by rfl))) pa_nil)))))))), ?_⟩
  refine ⟨_, rfl, _, rfl, hT, fun fj cj H1 eN1 T1 nfj hfj hcj => ⟨T1, fun fp cp H2 eN2 T2 nfp hfp hcp => ?_⟩⟩
  have eN := eN1.trans eN2
  have hfj2 := eN2 _ _ hfj (fun ps => lamO_ne ps)
  have hcj2 := eN2 _ _ hcj LamX.codeO_ne
  refine ⟨l, kd, fj, fp, .int 0, us, ss, kvs, kn, 100, a, rfl, eN _ _ hl (fun _ => nofun), hS.tp (Tp.extN eN), hok, eN _ _ hkd (fun _ => nofun), fun n b hb => ?_, ?_, ?_, ?_, hev, hss, by omega, fun v H3 s3 hv => ?_⟩
  · obtain ⟨z1, z2⟩ := hkn n b hb
    exact ⟨_, z1, rfl, z2⟩
  · exact ⟨rfl, Nat.lt_of_lt_of_le (show (0 : Int).natAbs < 2 ^ 1 by decide) (Nat.pow_le_pow_right (by decide) (by omega))⟩
  · refine lamq_of (Nl := ["left", "right"]) (ps := ["left", "right"]) (NdefX.nscope_by (by rfl)) rfl (fun _ _ us hl => match us, hl with | [_, _], _ => rfl) hfj2 hcj2 ?hb (fun A2 o2 s2 H2 hr2 => (pe_op op_add pe_int (pe_callB (call_max2 rfl) (by rfl) B.max (by decide +kernel) (pa_cons (pe_var (i := 0) rfl (.inl rfl)) (pa_cons (pe_var (i := 1) rfl (.inl rfl)) pa_nil)))))
    intro vs H' Q' h
    obtain ⟨n, v, w', x, y, rfl, hn, ⟨rfl, b1⟩, ⟨rfl, b2⟩, q'⟩ := h
    refine ⟨rfl, _, rfl, _, rfl, _, _, rfl, _, _, rfl, rfl, q' _ H' (Same.refl _) ⟨rfl, ?_⟩⟩
    show (dJ x y).natAbs < _
    unfold dJ
    by_cases z : y > x
    · rw [if_pos z]
      exact ri_addk b2 (k := 0) (by decide) (by omega)
    · rw [if_neg z]
      exact ri_addk b1 (k := 0) (by decide) (by omega)
  · refine lamq_of (Nl := ["sign", "base", "number"]) (ps := ["sign", "base", "number"]) (NdefX.nscope_by (by rfl)) rfl (fun _ _ us hl => match us, hl with | [_, _, _], _ => rfl) hfp hcp ?hb2 (fun A2 o2 s2 H2 hr2 => (pe_op op_sub (pe_op op_add (pe_var (i := 1) rfl (.inl rfl)) (pe_var (i := 2) rfl (.inl rfl))) pe_int))
    intro vs H' Q' h
    obtain ⟨n, c, v, k, x, rfl, hn, hso, ⟨rfl, b1⟩, q'⟩ := h
    refine ⟨rfl, _, rfl, _, rfl, _, _, rfl, rfl, _, _, rfl, rfl, q' _ H' (Same.refl _) ⟨rfl, ri_addk b1 hso.2.2 (by unfold dP; omega)⟩⟩
  · obtain ⟨rfl, hb⟩ := hv
    exact q H3 (eN.trans (LamX.ExtN.of s3)) (T2.ext s3) hb

abbrev s_repeated : Stmt := top 42
theorem sc_repeated : FnScope ["step", "start", "times", "places", "values", "value", "first"] ["step", "start", "times"] (defScope s_repeated) := ⟨rfl, rfl, rfl, by decide +kernel, rfl, by decide +kernel, by decide +kernel⟩
theorem ok_repeated {T : List (Addr × Str)} (d_repeated : D K mg "repeated" s_repeated ["step", "start", "times"] f fd) (B : Blt mg) (k : Nat) : FnOk P w K mg base CX0 (k + 1) f fd ["step", "start", "times"] (spRep P w K mg base T k) := by
  refine d_repeated.F.ok sc_repeated (fun vs H Q E h => ?_) (fun cdv A outer s H vs Q E hr h => ?_)
  · obtain ⟨_, _, _, _, _, rfl, _⟩ := h
    rfl
  obtain ⟨fs, g, N, a, m, rfl, hT, hL, hN, a1, a2, hg, q⟩ := h
  refine ⟨_, (pss_cons (ps_set (i := 3) sc_repeated.nd rfl (Or.inl rfl) pe_dnewK)
 (pss_cons (ps_set (i := 4) sc_repeated.nd rfl (Or.inl rfl) (pe_lst pa_nil))
 (pss_cons (ps_set (i := 5) sc_repeated.nd rfl (Or.inl rfl) (pv 1))
 (pss_cons (ps_while PassesOwn.never (PW.pt (pw_and (pt_cmp (pc_dnotin (hu_of hr) (pv 5) (pv 3)) (by with_unfolding_all rfl)) (pw_and1 (pt_cmpR op_lt (pe_callB call_len_seq (by rfl) B.len PySem.boot_len (pa_cons (pv 4) pa_nil)) (pv 2) (nomark _))))) (pss_cons (ps_dput (hu_of hr) (pv 3) (pv 5) (pe_callB call_len_seq (by rfl) B.len PySem.boot_len (pa_cons (pv 4) pa_nil)) (by rfl))
 (pss_cons (ps_expr (pe_bm PySem.F.plainAttrs_list PySem.F.slot_list_append PySem.F.type_list_append mt_append (pv 4) (pa_cons (pv 5) pa_nil)))
 (pss_one (ps_set (i := 5) sc_repeated.nd rfl (Or.inl rfl) (pe_lamRC (T := T) (k := k) (i := 0) hr (Nat.le_refl _) rfl (.inl rfl) (pa_cons (pv 5) pa_nil)))))))
 (pss_cons (ps_if (pt_cmp (pc_dnotin (hu_of hr) (pv 5) (pv 3)) (by with_unfolding_all rfl)) (pss_one (ps_ret (pv 5))) pss_nil)
 (pss_cons (ps_set (i := 6) sc_repeated.nd rfl (Or.inl rfl) (pe_dget (hu_of hr) (pv 3) (pv 5) (fun _ _ => rfl)))
 (pss_one (ps_ret (pe_ix ix_list (pv 4) (pe_op op_add (pv 6) (pe_op op_mod (pe_op op_sub (pv 2) (pv 6)) (pe_op op_sub (pe_callB call_len_seq (by rfl) B.len PySem.boot_len (pa_cons (pv 4) pa_nil)) (pv 6)))) (fun _ _ => rfl)))))))))), ?_⟩
  refine fun kd nkd => ?_
  have s1 := Same.new nkd (.dK [])
  refine ⟨zero_le', fun lv nlv => ⟨_, rfl, ?_⟩⟩
  have s2 := Same.new nlv (.lst [])
  have nk : kd ≠ lv := fun z => by rw [← z, upd_same] at nlv; cases nlv
  have k2 : (upd (upd H kd (.dK [])) lv (.lst [])) kd = some (.dK (rpK g a 0)) := by rw [upd_ne nk]; exact upd_same
  have l2 : (upd (upd H kd (.dK [])) lv (.lst [])) lv = some (.lst (nts (rpL g a 0))) := upd_same
  have nlv0 : H lv = none := s1.free nlv
  have old : ∀ b o, H b = some o → b ≠ kd ∧ b ≠ lv := fun b o e => ⟨ne_of_none e nkd, ne_of_none e nlv0⟩
  have T2 : LamX.Tabs T (upd (upd H kd (.dK [])) lv (.lst [])) := tabs_same (s1.trans s2) hT
  have e2 : LamX.ExtN H (upd (upd H kd (.dK [])) lv (.lst [])) := LamX.ExtN.of (s1.trans s2)
  generalize (upd (upd H kd (.dK [])) lv (.lst [])) = H2 at *
  have lin : ∀ (G : Hp) i, G kd = some (.dK (rpK g a i)) → ((itn g i a ∈ rpL g a i → ∃ j, j < i ∧ itn g j a = itn g i a ∧ DGet G kd (.int ((itn g i a : Nat) : Int)) (some (.int (j : Int)))) ∧ (itn g i a ∉ rpL g a i → DGet G kd (.int ((itn g i a : Nat) : Int)) none)) := fun G i hk => by
    obtain ⟨z1, z2⟩ := rp_val (f := g) (a := a) (itn g i a) i
    have z := DGet.k (k := (Sum.inl ((itn g i a : Nat) : Int) : L2.Key)) hk
    refine ⟨fun h => ?_, fun h => ?_⟩
    · obtain ⟨j, y1, y2, y3⟩ := z1 h
      rw [y3] at z
      exact ⟨j, y1, y2, z⟩
    · rw [z2 h] at z
      exact z
  have fin : ∀ i, (rpL g a i).Nodup → i ≤ N := fun i h => by
    have := nodup_le h (N := N) fun v hv => by
      obtain ⟨j, _, rfl⟩ := List.mem_map.mp hv
      exact itn_ok hg a1 a2 j
    rw [rpL_len] at this
    exact this
  refine ⟨fun mm σ G => ∃ (i : Nat), mm = N - i ∧ σ = [some (.ref fs), some (.int (a : Int)), some (.int (m : Int)), some (.ref kd), some (.ref lv), some (.int ((itn g i a : Nat) : Int)), none] ∧ LamX.ExtN H G ∧ LamX.Tabs T G ∧ G kd = some (.dK (rpK g a i)) ∧ G lv = some (.lst (nts (rpL g a i))) ∧ i ≤ m ∧ (rpL g a i).Nodup, ⟨_, 0, rfl, rfl, e2, T2, k2, l2, Nat.zero_le _, List.nodup_nil⟩, ?_⟩
  rintro mm σ G ⟨i, rfl, rfl, eG, TG, kG, lG, him, hnd⟩
  have hiN := fin i hnd
  obtain ⟨in1, in2⟩ := lin G i kG
  have lrp : (nts (rpL g a i)).length = i := by rw [nts_len, rpL_len]
  by_cases c : itn g i a ∈ rpL g a i
  · obtain ⟨j, hj, ej, gj⟩ := in1 c
    refine ⟨_, rfl, _, rfl, kd, _, rfl, gj, _, rfl, iteF (iteF ?_)⟩
    refine ⟨_, rfl, _, rfl, kd, _, rfl, gj, _, rfl, iteF ?_⟩
    refine ⟨_, rfl, _, rfl, kd, _, rfl, gj, ?_⟩
    refine ⟨_, rfl, _, rfl, _, rfl, _, rfl, _, _, rfl, rfl, _, rfl, lv, _, rfl, .inl (SqL.here lG), ?_⟩
    rw [lrp]
    have hm1 : ((m : Int) - (j : Int)) % ((i : Int) - (j : Int)) = (((m - j) % (i - j) : Nat) : Int) := by
      rw [show (m : Int) - (j : Int) = ((m - j : Nat) : Int) by omega, show (i : Int) - (j : Int) = ((i - j : Nat) : Int) by omega]
      exact (Int.natCast_emod _ _).symm
    have hlt : (m - j) % (i - j) < i - j := Nat.mod_lt _ (by omega)
    have hix : j + (m - j) % (i - j) < i := by omega
    refine ⟨_, rfl, _, _, rfl, rfl, _, _, rfl, rfl, (by show (0 : Int) < (i : Int) - (j : Int); omega), _, _, rfl, rfl, lv, _, _, _, rfl, rfl, SqL.here lG, (by rw [hm1, show (j : Int) + (((m - j) % (i - j) : Nat) : Int) = ((j + (m - j) % (i - j) : Nat) : Int) by omega]; exact atI_nat (nts_get (by rw [rpL_len]; exact hix))), ?_⟩
    rw [rpL_get hix, ← itn_mod (f := g) (j := j) (p := i - j) (a := a) (by rw [show j + (i - j) = i by omega]; exact ej.symm) (m - j), show j + (m - j) = m by omega]
    exact q G eG TG
  · have gn := in2 c
    refine ⟨_, rfl, _, rfl, kd, _, rfl, gn, _, rfl, iteT ?_⟩
    refine ⟨_, rfl, lv, _, rfl, .inl (SqL.here lG), _, rfl, _, _, rfl, rfl, _, rfl, ?_⟩
    rw [lrp]
    by_cases cm : i < m
    · rw [show decide ((i : Int) < (m : Int)) = true from decide_eq_true (by omega)]
      have nd2 : (rpL g a (i + 1)).Nodup := by
        rw [rpL_suc]
        exact List.nodup_append.mpr ⟨hnd, List.pairwise_singleton .., fun x hx y hy e => c (by rw [List.mem_singleton.mp hy] at e; rw [← e]; exact hx)⟩
      have hi2 := fin (i + 1) nd2
      refine iteT ⟨fun σ' G' => σ' = [some (.ref fs), some (.int (a : Int)), some (.int (m : Int)), some (.ref kd), some (.ref lv), some (.int ((itn g (i + 1) a : Nat) : Int)), none] ∧ LamX.ExtN H G' ∧ LamX.Tabs T G' ∧ G' kd = some (.dK (rpK g a (i + 1))) ∧ G' lv = some (.lst (nts (rpL g a (i + 1)))) ∧ i + 1 ≤ m ∧ (rpL g a (i + 1)).Nodup, fun σ' G' h => ⟨N - (i + 1), by omega, i + 1, rfl, h⟩, ?_⟩
      have hkl : (rpK g a i).length ≤ 1000 := by rw [rpK_len]; omega
      have putE : putK (rpK g a i) (Sum.inl ((itn g i a : Nat) : Int)) (.int (i : Int)) = rpK g a (i + 1) := by
        rw [rpK_suc]
        exact putK_new _ ((rp_val (f := g) (a := a) (itn g i a) i).2 c)
      refine ⟨_, rfl, lv, _, rfl, .inl (SqL.here lG), _, rfl, _, rfl, kd, _, rfl, .inl ⟨rpK g a i, Sum.inl ((itn g i a : Nat) : Int), kG, rfl, small1000 (by omega), rfl⟩, ?_⟩
      rw [lrp, putE]
      have b3 : But kd G (upd G kd (.dK (rpK g a (i + 1)))) := But.set
      have T3 := tabs_setD TG kG b3
      have k3 : (upd G kd (.dK (rpK g a (i + 1)))) kd = some (.dK (rpK g a (i + 1))) := upd_same
      have l3 : (upd G kd (.dK (rpK g a (i + 1)))) lv = some (.lst (nts (rpL g a i))) := by rw [upd_ne nk.symm]; exact lG
      have e3 : LamX.ExtN H (upd G kd (.dK (rpK g a (i + 1)))) := fun b o e n => by
        rw [upd_ne (old b o e).1]
        exact eG b o e n
      generalize (upd G kd (.dK (rpK g a (i + 1)))) = G3 at *
      refine ⟨_, rfl, .inl ⟨rfl, _, SqL.here l3⟩, _, rfl, lv, _, _, rfl, rfl, l3, (by rw [lrp, sizeLine_eq]; omega), ?_⟩
      have appE : nts (rpL g a i) ++ [V.int ((itn g i a : Nat) : Int)] = nts (rpL g a (i + 1)) := by
        rw [rpL_suc]
        unfold nts
        rw [List.map_append]
        rfl
      rw [appE]
      have b4 : But lv G3 (upd G3 lv (.lst (nts (rpL g a (i + 1))))) := But.set
      have T4 := tabs_setL T3 l3 b4
      have k4 : (upd G3 lv (.lst (nts (rpL g a (i + 1))))) kd = some (.dK (rpK g a (i + 1))) := by rw [upd_ne nk]; exact k3
      have l4 : (upd G3 lv (.lst (nts (rpL g a (i + 1))))) lv = some (.lst (nts (rpL g a (i + 1)))) := upd_same
      have e4 : LamX.ExtN H (upd G3 lv (.lst (nts (rpL g a (i + 1))))) := fun b o e n => by
        rw [upd_ne (old b o e).2]
        exact e3 b o e n
      generalize (upd G3 lv (.lst (nts (rpL g a (i + 1))))) = G4 at *
      have L4 := hL.ext e4
      obtain ⟨v1, v2⟩ := itn_ok hg a1 a2 i
      refine ⟨fs, preS N, postS g, rfl, L4, _, rfl, L4, T4, ⟨_, rfl, v1, v2⟩, fun u G5 e5 T5 hp => ?_⟩
      obtain rfl := hp _ rfl
      exact ⟨rfl, fun b o e n => e5 b o (e4 b o e n) n, T5, e5 _ _ k4 (fun _ => nofun), e5 _ _ l4 (fun _ => nofun), by omega, nd2⟩
    · rw [show decide ((i : Int) < (m : Int)) = false from decide_eq_false (by omega)]
      refine iteF ?_
      refine ⟨_, rfl, _, rfl, kd, _, rfl, gn, _, rfl, iteT ?_⟩
      obtain rfl : i = m := by omega
      exact ⟨_, rfl, q G eG TG⟩

abbrev s_power_value : Stmt := top 41
theorem sc_power_value : FnScope ["table", "sign", "base", "number"] ["table", "sign", "base", "number"] (defScope s_power_value) := ⟨rfl, rfl, rfl, by decide +kernel, rfl, by decide +kernel, by decide +kernel⟩
def pvQ : Str := (PyProof.Rows.envOfC "power_value" (defScope s_power_value) 0 0 .none).qual ++ "<lambda>"
theorem ok_power_value {C_Table CE ca Pa g1 fa : Addr} {h1 fad : FuncData} {T : List (Addr × Str)} {oc kV doc pm ct : Value} {od an : Option Addr} {osl : Array (Option Value)} (lk : K.lookup f = some ⟨oc, od, .func (PySem.W.fnOf "power_value" "power_value" (defArgs s_power_value) (defBody s_power_value) (defScope s_power_value) .none kV doc pm an (.ref ca) ct), osl⟩) (hcd : PySem.W.codeIn K (.ref ca) "power_value" = true) (B : Blt mg)
    (TB : LamX.TabB base mg ca Pa) (hT1 : (Pa, pvQ) ∈ T) (hT2 : ∀ p ∈ T, p.1 = Pa → p.2 = pvQ) (d_repeated : D K mg "repeated" s_repeated ["step", "start", "times"] g1 h1)
    (T_Table : TabT K mg C_Table) (mA : Meth K C_Table "apply" fa) (GA : FnOk P w K mg base (L2N.CX P w) 3 fa fad ["self", "one", "other"] (spTApp C_Table CE)) (bA : Binds K fad ["self", "one", "other"] []) :
    FnOk P w K mg base CX0 6 f (PySem.W.fnOf "power_value" "power_value" (defArgs s_power_value) (defBody s_power_value) (defScope s_power_value) .none kV doc pm an (.ref ca) ct) ["table", "sign", "base", "number"] (spPwV T C_Table) := by
  have G_repeated : FnOk P w K mg base CX0 5 g1 h1 ["step", "start", "times"] (spRep P w K mg base T 4) := ok_repeated d_repeated B 4
  refine fn_of (k := 5) lk hcd sc_power_value (fun vs H Q E h => ?_) (fun A outer s H vs Q E hr h => ?_)
  · obtain ⟨_, _, _, _, _, rfl, _⟩ := h
    rfl
  obtain ⟨x, n, c, a, k, rfl, hT, hA, hn, a1, a2, hso, q⟩ := h
  obtain ⟨_, k1, k2⟩ := hso
  refine ⟨_, (pss_cons (ps_if (pt_cmpR op_eq (pv 1) pe_str (nomark _)) (pss_one (ps_ret (pe_callPin (T := T) G_repeated (hr.mono (by decide)) rfl d_repeated.m d_repeated.F.kp d_repeated.b (fun _ => rfl) (pa_cons (pe_lamV (T := T) TB rfl hT1 hT2 rfl (NdefX.ndef_free (fr := ["base", "table"]) (by rfl))) (pa_cons (pv 2) (pa_cons (pe_op op_sub (pv 3) pe_int) pa_nil)))))) pss_nil)
 (pss_one (ps_ret (pe_callPin (T := T) G_repeated (hr.mono (by decide)) rfl d_repeated.m d_repeated.F.kp d_repeated.b (fun _ => rfl) (pa_cons (pe_lamV (T := T) TB rfl hT1 hT2 rfl (NdefX.ndef_free (fr := ["base", "table"]) (by rfl))) (pa_cons (pv 2) (pa_cons (pe_op op_sub (pv 3) pe_int) pa_nil))))))), ?_⟩
  have ec : decide (V.str (sL [c]) = V.str (Str.ofString "^")) = decide (c = 94) := by
    by_cases z : c = 94
    · rw [decide_eq_true z, z]
      decide +kernel
    · rw [decide_eq_false z]
      refine decide_eq_false fun e => z ?_
      have e := V.str.inj e
      have e := sL_inj (e.trans (show Str.ofString "^" = sL [94] by decide +kernel))
      exact (List.cons.inj e).1
  refine ⟨_, rfl, rfl, _, rfl, ?_⟩
  rw [ec]
  refine ite2 (fun z => ?_) (fun z => ?_)
  · have hc94 : c = 94 := of_decide_eq_true z
    refine ⟨hT, fun fl c' H1 eN T1 nf hf hc => ⟨_, rfl, _, rfl, _, _, rfl, rfl, fun H2 C sm => ?_⟩⟩
    have LR := lamr_of (T := T) (k := 3) (Nl := ["value", "base", "table"]) (psl := ["value"]) (fr := ["base", "table"]) (js := [2, 0]) (pre := preS (2 ^ n)) (post := postS (fun v => opT (tbs n) a v)) (J := fun G => TabA G C_Table x n) C hf hc (NdefX.nscope_by (by rfl)) (by rfl) rfl (fun vs hp => by
      obtain ⟨v, rfl, _⟩ := hp
      rfl) (fun _ _ _ _ _ us hl => match us, hl with | [_], _ => rfl) (fun _ _ e z => z.extM e) (hA.extM (ExtM.ofN eN)) (fun A2 o2 s2 H2 cl2 hr2 => pe_meth (pe_var (i := 2) rfl (.inr (.inr rfl))) T_Table.cl mA GA (hr2.mono (by decide)) bA .nil passF (pa_cons (pe_var (i := 1) rfl (.inr (.inr rfl))) (pa_cons (pe_var (i := 0) rfl (.inl rfl)) pa_nil))) (fun vs H' hp hJ hT' => by
      obtain ⟨v, rfl, v1, v2⟩ := hp
      obtain ⟨dx, ra, as, hx, _⟩ := id hJ
      refine ⟨_, rfl, x, dx, _, rfl, hx, tbf_no _ _ (by decide +kernel) (by decide +kernel), _, rfl, _, rfl, x, n, (a : Int), (v : Int), rfl, hJ, hn, fun a' b' ea eb _ _ _ _ => ⟨LamX.ExtN.refl _, hT', fun v' ev => ?_⟩, fun bad => bad ⟨⟨by omega, by omega⟩, by omega, by omega⟩⟩
      cases Int.ofNat.inj ea
      cases Int.ofNat.inj eb
      cases ev
      rfl)
    refine ⟨fl, fun v => opT (tbs n) a v, 2 ^ n, a, k.toNat - 1, by rw [show ((k.toNat - 1 : Nat) : Int) = k - 1 by omega], tabs_same sm T1, LR, pow_le512 hn, a1, a2, (fun v v1 v2 => lv_rng (good_tbs hn) a1 a2 v1 v2), fun H3 e3 t3 => ⟨e3, t3, fun H4 e4 t4 _ => ?_⟩⟩
    have z := q H4 (eN.trans e4) t4
    unfold pwN at z
    simp only [if_pos hc94] at z
    exact z
  · have hc94 : ¬ c = 94 := of_decide_eq_false (by simpa using z)
    refine ⟨hT, fun fl c' H1 eN T1 nf hf hc => ⟨_, rfl, _, rfl, _, _, rfl, rfl, fun H2 C sm => ?_⟩⟩
    have LR := lamr_of (T := T) (k := 3) (Nl := ["value", "base", "table"]) (psl := ["value"]) (fr := ["base", "table"]) (js := [2, 0]) (pre := preS (2 ^ n)) (post := postS (fun v => opT (tbs n) v a)) (J := fun G => TabA G C_Table x n) C hf hc (NdefX.nscope_by (by rfl)) (by rfl) rfl (fun vs hp => by
      obtain ⟨v, rfl, _⟩ := hp
      rfl) (fun _ _ _ _ _ us hl => match us, hl with | [_], _ => rfl) (fun _ _ e z => z.extM e) (hA.extM (ExtM.ofN eN)) (fun A2 o2 s2 H2 cl2 hr2 => pe_meth (pe_var (i := 2) rfl (.inr (.inr rfl))) T_Table.cl mA GA (hr2.mono (by decide)) bA .nil passF (pa_cons (pe_var (i := 0) rfl (.inl rfl)) (pa_cons (pe_var (i := 1) rfl (.inr (.inr rfl))) pa_nil))) (fun vs H' hp hJ hT' => by
      obtain ⟨v, rfl, v1, v2⟩ := hp
      obtain ⟨dx, ra, as, hx, _⟩ := id hJ
      refine ⟨_, rfl, x, dx, _, rfl, hx, tbf_no _ _ (by decide +kernel) (by decide +kernel), _, rfl, _, rfl, x, n, (v : Int), (a : Int), rfl, hJ, hn, fun a' b' ea eb _ _ _ _ => ⟨LamX.ExtN.refl _, hT', fun v' ev => ?_⟩, fun bad => bad ⟨⟨by omega, by omega⟩, by omega, by omega⟩⟩
      cases Int.ofNat.inj ea
      cases Int.ofNat.inj eb
      cases ev
      rfl)
    refine ⟨fl, fun v => opT (tbs n) v a, 2 ^ n, a, k.toNat - 1, by rw [show ((k.toNat - 1 : Nat) : Int) = k - 1 by omega], tabs_same sm T1, LR, pow_le512 hn, a1, a2, (fun v v1 v2 => lv_rng (good_tbs hn) v1 v2 a1 a2), fun H3 e3 t3 => ⟨e3, t3, fun H4 e4 t4 _ => ?_⟩⟩
    have z := q H4 (eN.trans e4) t4
    unfold pwN at z
    simp only [if_neg hc94] at z
    exact z

abbrev s_computed_value : Stmt := top 40
theorem sc_computed_value : FnScope ["table", "steps", "known"] ["table", "steps", "known"] (defScope s_computed_value) := ⟨rfl, rfl, rfl, by decide +kernel, rfl, by decide +kernel, by decide +kernel⟩
def cvQ : Str := (PyProof.Rows.envOfC "computed_value" (defScope s_computed_value) 0 0 .none).qual ++ "<lambda>"
theorem ok_computed_value {C_Table CE ca cb Pa Pb g1 g2 fp fa : Addr} {h1 h2 fad : FuncData} {T : List (Addr × Str)} {oc kV doc pm ct ocb kVb docb pmb ctb : Value} {od an odb anb : Option Addr} {osl oslb : Array (Option Value)} (lk : K.lookup f = some ⟨oc, od, .func (PySem.W.fnOf "computed_value" "computed_value" (defArgs s_computed_value) (defBody s_computed_value) (defScope s_computed_value) .none kV doc pm an (.ref ca) ct), osl⟩) (hcd : PySem.W.codeIn K (.ref ca) "computed_value" = true) (B : Blt mg)
    (TB : LamX.TabB base mg ca Pa) (hT1 : (Pa, cvQ) ∈ T) (hT2 : ∀ p ∈ T, p.1 = Pa → p.2 = cvQ)
    (lkb : K.lookup fp = some ⟨ocb, odb, .func (PySem.W.fnOf "power_value" "power_value" (defArgs s_power_value) (defBody s_power_value) (defScope s_power_value) .none kVb docb pmb anb (.ref cb) ctb), oslb⟩) (hcdb : PySem.W.codeIn K (.ref cb) "power_value" = true) (TBb : LamX.TabB base mg cb Pb) (hTb1 : (Pb, pvQ) ∈ T) (hTb2 : ∀ p ∈ T, p.1 = Pb → p.2 = pvQ)
    (d_power_value : D K mg "power_value" s_power_value ["table", "sign", "base", "number"] fp (PySem.W.fnOf "power_value" "power_value" (defArgs s_power_value) (defBody s_power_value) (defScope s_power_value) .none kVb docb pmb anb (.ref cb) ctb))
    (d_repeated : D K mg "repeated" s_repeated ["step", "start", "times"] g1 h1) (d_computed : D K mg "computed" s_computed ["steps", "known", "generator", "join", "power"] g2 h2)
    (T_Table : TabT K mg C_Table) (mA : Meth K C_Table "apply" fa) (GA : FnOk P w K mg base (L2N.CX P w) 3 fa fad ["self", "one", "other"] (spTApp C_Table CE)) (bA : Binds K fad ["self", "one", "other"] []) :
    FnOk P w K mg base CX0 9 f (PySem.W.fnOf "computed_value" "computed_value" (defArgs s_computed_value) (defBody s_computed_value) (defScope s_computed_value) .none kV doc pm an (.ref ca) ct) ["table", "steps", "known"] (spCVal T K C_Table) := by
  have G_computed : FnOk P w K mg base CX0 8 g2 h2 ["steps", "known", "generator", "join", "power"] (spCompE P w K mg base T 7) := ok_computedE d_computed B 7
  have G_power_value : FnOk P w K mg base CX0 6 fp _ ["table", "sign", "base", "number"] (spPwV T C_Table) := ok_power_value lkb hcdb B TBb hTb1 hTb2 d_repeated T_Table mA GA bA
  refine fn_of (k := 8) lk hcd sc_computed_value (fun vs H Q E h => ?_) (fun A outer s H vs Q E hr h => ?_)
  · obtain ⟨_, _, _, _, _, _, _, _, _, rfl, _⟩ := h
    rfl
  obtain ⟨x, l, kd, n, us, ss, kvs, kn, a, rfl, hT, hA, hn, hl, hS, hok, hkd, hkn, hev, hss, q⟩ := h
  refine ⟨_, (pss_one (ps_ret (pe_callPin (T := T) G_computed (hr.mono (by decide)) rfl d_computed.m d_computed.F.kp d_computed.b (fun _ => rfl) (pa_cons (pv 1) (pa_cons (pv 2) (pa_cons pe_int (pa_cons (pe_lamV (T := T) TB rfl hT1 hT2 rfl (NdefX.ndef_free (fr := ["table"]) (by rfl))) (pa_cons (pe_lamV (T := T) TB rfl hT1 hT2 rfl (NdefX.ndef_free (fr := ["table"]) (by rfl))) pa_nil)))))))), ?_⟩
  refine ⟨_, rfl, _, rfl, hT, fun fj cj H1 eN1 T1 nfj hfj hcj => ⟨T1, fun fp' cp H2 eN2 T2 nfp hfp hcp H3 C sm => ?_⟩⟩
  have eN := eN1.trans eN2
  have hfj2 := eN2 _ _ hfj (fun _ => nofun)
  have hcj2 := eN2 _ _ hcj (fun _ => nofun)
  have LJ := lamr_of (T := T) (k := 6) (Nl := ["left", "right", "table"]) (psl := ["left", "right"]) (fr := ["table"]) (js := [0]) (pre := preJ (2 ^ n)) (post := postJ (opT (tbs n))) (J := fun G => TabA G C_Table x n) C hfj2 hcj2 (NdefX.nscope_by (by rfl)) (by rfl) rfl (fun vs hp => by
    obtain ⟨v, v', rfl, _⟩ := hp
    rfl) (fun _ _ _ _ _ us hl => match us, hl with | [_, _], _ => rfl) (fun _ _ e z => z.extM e) (hA.extM (ExtM.ofN eN)) (fun A2 o2 s2 H2 cl2 hr2 => pe_meth (pe_var (i := 2) rfl (.inr (.inr rfl))) T_Table.cl mA GA (hr2.mono (by decide)) bA .nil passF (pa_cons (pe_var (i := 0) rfl (.inl rfl)) (pa_cons (pe_var (i := 1) rfl (.inl rfl)) pa_nil))) (fun vs H' hp hJ hT' => by
    obtain ⟨v, v', rfl, ⟨v1, v2⟩, v3, v4⟩ := hp
    obtain ⟨dx, ra, as, hx, _⟩ := id hJ
    refine ⟨_, rfl, x, dx, _, rfl, hx, tbf_no _ _ (by decide +kernel) (by decide +kernel), _, rfl, _, rfl, x, n, (v : Int), (v' : Int), rfl, hJ, hn, fun a' b' ea eb _ _ _ _ => ⟨LamX.ExtN.refl _, hT', fun y1 y2 ev => ?_⟩, fun bad => bad ⟨⟨by omega, by omega⟩, by omega, by omega⟩⟩
    cases Int.ofNat.inj ea
    cases Int.ofNat.inj eb
    cases ev
    rfl)
  have LP := lamr_of (T := T) (k := 6) (Nl := ["sign", "base", "number", "table"]) (psl := ["sign", "base", "number"]) (fr := ["table"]) (js := [0]) (pre := preP (2 ^ n)) (post := postP (pwN n)) (J := fun G => TabA G C_Table x n) C hfp hcp (NdefX.nscope_by (by rfl)) (by rfl) rfl (fun vs hp => by
    obtain ⟨v, v', v'', rfl, _⟩ := hp
    rfl) (fun _ _ _ _ _ us hl => match us, hl with | [_, _, _], _ => rfl) (fun _ _ e z => z.extM e) (hA.extM (ExtM.ofN eN)) (fun A2 o2 s2 H2 cl2 hr2 => pe_call G_power_value (hr2.mono (by decide)) rfl d_power_value.m d_power_value.F.kp d_power_value.b .nil pass0 (pa_cons (pe_var (i := 3) rfl (.inr (.inr rfl))) (pa_cons (pe_var (i := 0) rfl (.inl rfl)) (pa_cons (pe_var (i := 1) rfl (.inl rfl)) (pa_cons (pe_var (i := 2) rfl (.inl rfl)) pa_nil))))) (fun vs H' hp hJ hT' => by
    obtain ⟨c, v, k, rfl, hso, v1, v2⟩ := hp
    refine ⟨_, rfl, _, rfl, _, rfl, _, rfl, x, n, c, v, k, rfl, hT', hJ, hn, v1, v2, hso, fun H4 e4 t4 => ⟨e4, t4, fun y1 y2 y3 ev => ?_⟩⟩
    injection ev with e1 e2
    injection e2 with e2 e3
    injection e3 with e3 _
    have e1 : c = y1 := (List.cons.inj (sL_inj (V.str.inj e1))).1
    cases e1
    cases e2
    cases e3
    rfl)
  have gd := good_tbs hn
  refine ⟨l, kd, fj, fp', us, ss, kvs, kn, 2 ^ n, opT (tbs n), pwN n, a, rfl, tabs_same sm T2, sm _ _ (eN _ _ hl (fun _ => nofun)), (hS.tp (Tp.extN eN)).tp (Tp.same sm), hok, sm _ _ (eN _ _ hkd (fun _ => nofun)), hkn, Nat.one_le_two_pow, LJ, LP, (fun a b h1 h2 h3 h4 => lv_rng gd h1 h2 h3 h4), (fun c a k h1 h2 => pwN_ok hn h1 h2), hev, hss, fun H4 e4 t4 b1 b2 => ⟨e4, t4, fun H5 e5 t5 _ => q H5 (eN.trans e5) t5 b1 b2⟩⟩

abbrev s_Program_names : Stmt := inClass (top 43) 5
theorem sc_Program_names : FnScope ["self"] ["self"] (defScope s_Program_names) := ⟨rfl, rfl, rfl, by decide +kernel, rfl, by decide +kernel, by decide +kernel⟩
theorem ok_Program_names {C : Addr} (F : Fun K "names" "Program.names" s_Program_names f fd) (T : PrT K mg C) (B : Blt mg) : FnOk P w K mg base CX0 1 f fd ["self"] (spPNms K C) := by
  refine F.ok sc_Program_names (fun vs H Q E h => ?_) (fun cdv A outer s H vs Q E hr h => ?_)
  · obtain ⟨_, _, _, rfl, _⟩ := h
    rfl
  obtain ⟨O, x, ds, rfl, hA, q⟩ := h
  obtain ⟨dx, t, c, s', d, kvs, hI⟩ := hA.ex
  refine ⟨_, (pss_one (ps_ret (pe_callTy (call_listD (by rfl)) (by rfl) B.list (by decide +kernel) (pa_cons (pe_fld (pv 0) rfl) pa_nil)))), ?_⟩
  refine ⟨_, rfl, x, C, dx, _, _, rfl, hI.hx, T.cl, T.n2, prf_c _ _ _ _, c, kvs, rfl, .inl hI.hc, fun l nl => ?_⟩
  have ek : (kvs.map fun kv => kV kv.1) = (ds.map fun e => e.df.nm).map nmV := by
    have e := congrArg (List.map kV) hI.cd.keys
    rw [List.map_map, List.map_map] at e
    exact e
  rw [ek]
  exact q l _ (Same.new nl _) nl upd_same

abbrev s_Program_source : Stmt := inClass (top 43) 6
theorem sc_Program_source : FnScope ["self"] ["self"] (defScope s_Program_source) := ⟨rfl, rfl, rfl, by decide +kernel, rfl, by decide +kernel, by decide +kernel⟩
theorem ok_Program_source {C : Addr} (F : Fun K "source" "Program.source" s_Program_source f fd) (T : PrT K mg C) : FnOk P w K mg base CX0 1 f fd ["self"] (spPSrc K C) := by
  refine F.ok sc_Program_source (fun vs H Q E h => ?_) (fun cdv A outer s H vs Q E hr h => ?_)
  · obtain ⟨_, _, _, rfl, _⟩ := h
    rfl
  obtain ⟨O, x, ds, rfl, hA, hl, q⟩ := h
  obtain ⟨dx, t, c, s', d, kvs, hI⟩ := hA.ex
  refine ⟨_, (pss_one (ps_ret (pe_join pe_str (pe_fld (pv 0) rfl)))), ?_⟩
  refine ⟨⟨_, rfl⟩, _, rfl, x, C, dx, _, _, rfl, hI.hx, T.cl, T.n1, prf_t _ _ _ _, _, t, ds.map (fun e => sL e.df.tx), rfl, rfl, .inl (SqL.here ?_), ?_, ?_⟩
  · rw [List.map_map]
    exact hI.ht
  · have hb : ((ds.map fun e => sL e.df.tx).map (·.length)).sum ≤ 10000 * ds.length := by
      clear hI hA q
      induction ds with
      | nil => exact Nat.zero_le _
      | cons e ds ih =>
        have h1 := hl e List.mem_cons_self
        have h2 := ih fun z hz => hl z (List.mem_cons_of_mem _ hz)
        rw [List.map_cons, List.map_cons, List.sum_cons, List.length_cons, sL_len]
        omega
    have := hA.len
    rw [List.length_map, show (Str.ofString ";").length = 1 by decide +kernel]
    omega
  · exact q H (Same.refl _)

abbrev s_Program___len__ : Stmt := inClass (top 43) 1
theorem sc_Program___len__ : FnScope ["self"] ["self"] (defScope s_Program___len__) := ⟨rfl, rfl, rfl, by decide +kernel, rfl, by decide +kernel, by decide +kernel⟩
theorem ok_Program___len__ {C : Addr} (F : Fun K "__len__" "Program.__len__" s_Program___len__ f fd) (T : PrT K mg C) (B : Blt mg) : FnOk P w K mg base CX0 1 f fd ["self"] (spPLen K C) := by
  refine F.ok sc_Program___len__ (fun vs H Q E h => ?_) (fun cdv A outer s H vs Q E hr h => ?_)
  · obtain ⟨_, _, _, rfl, _⟩ := h
    rfl
  obtain ⟨O, x, ds, rfl, hA, q⟩ := h
  obtain ⟨dx, t, c, s', d, kvs, hI⟩ := hA.ex
  refine ⟨_, (pss_one (ps_ret (pe_callB call_len_seq (by rfl) B.len PySem.boot_len (pa_cons (pe_fld (pv 0) rfl) pa_nil)))), ?_⟩
  refine ⟨_, rfl, x, C, dx, _, _, rfl, hI.hx, T.cl, T.n1, prf_t _ _ _ _, t, _, rfl, .inl (SqL.of hI.ht), ?_⟩
  rw [List.length_map]
  exact q

abbrev s_Program___eq__ : Stmt := inClass (top 43) 2
theorem sc_Program___eq__ : FnScope ["self", "other"] ["self", "other"] (defScope s_Program___eq__) := ⟨rfl, rfl, rfl, by decide +kernel, rfl, by decide +kernel, by decide +kernel⟩
theorem txD_dp {H : Hp} {t : Addr} {ds : List PD} (h : H t = some (.lst (ds.map fun e => V.str (sL e.df.tx)))) : Dp K H (.ref t) (txD ds) := by
  refine Dp.lst (SqL.here h) ?_
  clear h
  induction ds with
  | nil => exact .nil
  | cons e ds ih => exact .cons (.str _) ih
theorem ok_Program___eq__ {C fq : Addr} (F : Fun K "__eq__" "Program.__eq__" s_Program___eq__ f fd) (T : PrT K mg C) (TE : PrE K C fq) (B : Blt mg) : FnOk P w K mg base CX0 1 f fd ["self", "other"] (spPEq K C) := by
  refine F.ok sc_Program___eq__ (fun vs H Q E h => ?_) (fun cdv A outer s H vs Q E hr h => ?_)
  · obtain ⟨_, _, _, _, rfl, _⟩ := h
    rfl
  obtain ⟨O, x, ds, y, rfl, hA, h⟩ := h
  obtain ⟨dx, t, c, s', d, kvs, hI⟩ := hA.ex
  refine ⟨_, (pss_one (ps_ret (pe_and (pe_callB call_isi (by rfl) B.isinstance (by decide +kernel) (pa_cons (pv 1) (pa_cons (pe_glob (v := .ref C) rfl T.mgC rfl) pa_nil))) (pe_one (pe_cmpR (op_eqD hr.units) (pe_fld (pv 0) rfl) (pe_fld (pv 1) rfl) (nomark _)))))), ?_⟩
  rcases h with ⟨O', z, es, rfl, hz, sh1, sh2, q⟩ | ⟨ty, hty, kt, q⟩
  · obtain ⟨dz, tz, cz, sz, dz', kvz, hZ⟩ := hz.ex
    refine ⟨_, rfl, _, _, _, _, true, rfl, .own C, .base (.ins hZ.hx T.cl TE.ha TE.hn TE.ht TE.hm), TE.kC, true, rfl, iteT ?_⟩
    exact ⟨_, rfl, x, C, dx, _, _, rfl, hI.hx, T.cl, T.n1, prf_t _ _ _ _, _, rfl, z, C, dz, _, _, rfl, hZ.hx, T.cl, T.n1, prf_t _ _ _ _, txD ds, txD es, txD_dp hI.ht, txD_dp hZ.ht, sh1, sh2, q H (Same.refl _)⟩
  · exact ⟨_, rfl, _, _, _, _, false, rfl, .own C, hty, kt, false, rfl, iteF q⟩

abbrev s_Program_include : Stmt := inClass (top 43) 3
theorem sc_Program_include : FnScope ["self", "definitions", "name", "steps", "text"] ["self", "definitions"] (defScope s_Program_include) := ⟨rfl, rfl, rfl, by decide +kernel, rfl, by decide +kernel, by decide +kernel⟩
theorem ok_Program_include {C_Program g1 g2 g3 : Addr} {h1 h2 h3 : FuncData} {T : List (Addr × Str)} (F : Fun K "include" "Program.include" s_Program_include f fd) (T_Program : PrT K mg C_Program) (B : Blt mg) (CR : CstR mg) (d_check_names : D K mg "check_names" s_check_names ["known", "definitions"] g1 h1)
    (d_computed_size : D K mg "computed_size" s_computed_size ["steps", "sizes"] g2 h2) (d_computed_depth : D K mg "computed_depth" s_computed_depth ["steps", "depths"] g3 h3)
    (G_computed_size : FnOk P w K mg base CX0 3 g2 h2 ["steps", "sizes"] (spCSz T K 1 sJ sP)) (G_computed_depth : FnOk P w K mg base CX0 3 g3 h3 ["steps", "depths"] (spCSz T K 0 dJ dP)) : FnOk P w K mg base CX0 4 f fd ["self", "definitions"] (spPInc T K C_Program) := by
  have G_check_names : FnOk P w K mg base CX0 1 g1 h1 ["known", "definitions"] (spChkN K) := ok_check_names d_check_names B CR
  have TT := T_Program
  refine F.ok sc_Program_include (fun vs H Q E h => ?_) (fun cdv A outer s H vs Q E hr h => ?_)
  · obtain ⟨_, _, _, _, _, _, _, _, rfl, _⟩ := h
    rfl
  obtain ⟨O, Hs, x, l, us, ds, res, dfs, rfl, hA, hT, hl, nOl, hD, hOs, hI, hn, q⟩ := h
  obtain ⟨dx, t, c, s', d, kvs, hP⟩ := hA.ex
  refine ⟨_, (pss_cons (ps_expr (pe_call G_check_names (hr.mono (by decide)) rfl d_check_names.m d_check_names.F.kp d_check_names.b .nil pass0 (pa_cons (pe_fld (pv 0) rfl) (pa_cons (pv 1) pa_nil))))
 (pss_one (ps_for PassesOwn.never rfl (pi_list (pv 1)) (pg_tup (by rfl) (pgs_cons (pg_name (i := 2) sc_Program_include.nd rfl (Or.inl rfl)) (pgs_cons (pg_name (i := 3) sc_Program_include.nd rfl (Or.inl rfl)) (pgs_cons (pg_name (i := 4) sc_Program_include.nd rfl (Or.inl rfl)) pgs_nil))))
  (pss_cons (ps_expr (pe_bm PySem.F.plainAttrs_list PySem.F.slot_list_append PySem.F.type_list_append mt_append (pe_fld (pv 0) rfl) (pa_cons (pv 4) pa_nil)))
 (pss_cons (ps_dput (hu_of hr) (pe_fld (pv 0) rfl) (pv 2) (pv 3) (by rfl))
 (pss_cons (ps_dput (hu_of hr) (pe_fld (pv 0) rfl) (pv 2) (pe_call G_computed_size (hr.mono (by decide)) rfl d_computed_size.m d_computed_size.F.kp d_computed_size.b .nil pass0 (pa_cons (pv 3) (pa_cons (pe_fld (pv 0) rfl) pa_nil))) (by rfl))
 (pss_one (ps_dput (hu_of hr) (pe_fld (pv 0) rfl) (pv 2) (pe_call G_computed_depth (hr.mono (by decide)) rfl d_computed_depth.m d_computed_depth.F.kp d_computed_depth.b .nil pass0 (pa_cons (pv 3) (pa_cons (pe_fld (pv 0) rfl) pa_nil))) (by rfl))))))))), ?_⟩
  refine ⟨_, rfl, x, C_Program, dx, _, _, rfl, hP.hx, TT.cl, TT.n2, prf_c _ _ _ _, _, rfl, Hs, c, l, kvs, _, us, dfs, rfl, hP.hc, hP.cd.keys, hl, hD, hI.seq, by rw [List.length_map]; exact hn, hI.stok, fun H1 s1 => ?_⟩
  -- the addresses are told apart
  have hPn : ∀ {H' : Hp} {ds' : List PD} {kvs' : List (L2.Key × V)} {O' : Addr → Prop}, PrI K O' H' C_Program x dx t c s' d kvs' ds' → x ≠ t ∧ x ≠ c ∧ x ≠ s' ∧ x ≠ d ∧ t ≠ c ∧ t ≠ s' ∧ t ≠ d := fun h =>
    ⟨ne_of h.hx h.ht (by intro z; cases z), ne_of h.hx h.hc (by intro z; cases z), ne_of h.hx h.hs (by intro z; cases z), ne_of h.hx h.hd (by intro z; cases z), ne_of h.ht h.hc (by intro z; cases z), ne_of h.ht h.hs (by intro z; cases z), ne_of h.ht h.hd (by intro z; cases z)⟩
  obtain ⟨nxt, nxc, nxs, nxd, ntc, nts, ntd⟩ := hPn hP
  have ncs := hP.cs
  have ncd := hP.cd'
  have nsd := hP.sd
  have lO : ∀ b, O b → b ≠ l := fun b hb z => nOl (by rw [← z]; exact hb)
  refine ⟨_, rfl, l, rfl, ⟨us, SqL.here (s1 _ _ hl)⟩, for_list (xs := us) (fun i σ G => ∃ (x2 x3 x4 : Option V) (ds' : List PD) (kvs' : List (L2.Key × V)), σ = [some (.ref x), some (.ref l), x2, x3, x4] ∧ PrI K (fun b => O b ∨ Hs b = none) G C_Program x dx t c s' d kvs' ds' ∧ ds'.length = ds.length + i ∧ (∀ e ∈ ds', e.sz.natAbs < 2 ^ (10100 * ds'.length + 1) ∧ e.dp.natAbs < 2 ^ (10100 * ds'.length + 1) ∧ (∀ x ∈ e.df.ss, StOk x) ∧ e.df.ss.length ≤ 100) ∧ Inc ds' (dfs.drop i) res ∧ LamX.Tabs T G ∧ FrO O H G ∧ Tp H G) ⟨none, none, none, ds, kvs, rfl, hP.keep (Tp.same s1) (fun _ z => .inl z) (fun b o _ e _ => s1 _ _ e), rfl, hA.bs, hI, hT.ext s1, (fun b o _ e _ => s1 _ _ e), Tp.same s1⟩ (fun i σ G _ ⟨_, _, _, _, _, _, _, _, _, _, _, fr, _⟩ => SqL.here (fr _ _ nOl hl (fun _ => nofun))) ?_ ?_⟩
  · rintro i v σ G hv ⟨x2, x3, x4, ds', kvs', rfl, hG, hlen, hbs, hInc, hTG, fr, tpH⟩
    have hi := (List.getElem?_eq_some_iff.mp hv).1
    have hlu := hD.len
    obtain ⟨df, hdf, qd, ls, su, rfl, hq, hl0, hls, hst⟩ := hD.at hv
    have hjd := (List.getElem?_eq_some_iff.mp hdf).1
    have edr : dfs.drop i = df :: dfs.drop (i + 1) := by
      rw [List.drop_eq_getElem_cons hjd, (List.getElem?_eq_some_iff.mp hdf).2]
    rw [edr] at hInc
    have nOls : ¬ O ls := fun z => hOs _ z hl0
    cases hInc with
    | cons i1 i2 i3 i4 i5 i6 i7 =>
    rename_i sv dv
    have hqG := tpH.sqT hq
    have hstG := hst.tp tpH
    have hlsG := fr _ _ nOls hls (fun _ => nofun)
    have nlt : ls ≠ t := fun z => nOls (by rw [z]; exact hP.ot)
    have nlc : ls ≠ c := fun z => nOls (by rw [z]; exact hP.oc)
    have nlss : ls ≠ s' := fun z => nOls (by rw [z]; exact hP.os)
    have nld : ls ≠ d := fun z => nOls (by rw [z]; exact hP.od)
    have hdl : (ds'.map fun e => V.str (sL e.df.tx)).length ≤ 30 := by rw [List.length_map]; omega
    refine ⟨qd, _, rfl, hqG, rfl, _, _, rfl, _, _, rfl, _, _, rfl, rfl, ?_⟩
    -- the text
    refine ⟨_, rfl, x, C_Program, dx, _, _, rfl, hG.hx, TT.cl, TT.n1, prf_t _ _ _ _, .inl ⟨rfl, _, SqL.here hG.ht⟩, _, rfl, t, _, _, rfl, rfl, hG.ht, small1000 (by omega), ?_⟩
    have g1 : But t G (upd G t (.lst ((ds'.map fun e => V.str (sL e.df.tx)) ++ [.str (sL df.tx)]))) := But.set
    have tp1 := Tp.but hG.ht g1
    have T1 := tabs_set hTG hG.ht g1
    have ht1 : (upd G t (.lst ((ds'.map fun e => V.str (sL e.df.tx)) ++ [.str (sL df.tx)]))) t = some (.lst ((ds'.map fun e => V.str (sL e.df.tx)) ++ [.str (sL df.tx)])) := upd_same
    generalize (upd G t (.lst ((ds'.map fun e => V.str (sL e.df.tx)) ++ [.str (sL df.tx)]))) = G1 at *
    have hx1 := g1 _ _ nxt hG.hx
    have hc1 := g1 _ _ ntc.symm hG.hc
    have hs1 := g1 _ _ nts.symm hG.hs
    have hd1 := g1 _ _ ntd.symm hG.hd
    have hl1 := g1 _ _ nlt hlsG
    -- the steps
    have kl := hG.cd.len
    refine ⟨_, rfl, _, rfl, x, C_Program, dx, _, _, rfl, hx1, TT.cl, TT.n2, prf_c _ _ _ _, _, rfl, c, _, rfl, DPut.k (k := nmK df.nm) hc1 (small1000 (by omega)), ?_⟩
    have hkn : valV kvs' (nmK df.nm) = none := hG.cd.none i4
    rw [putK_new _ hkn]
    have g2 : But c G1 (upd G1 c (.dK (kvs' ++ [(nmK df.nm, .ref ls)]))) := But.set
    have tp2 := tp_dk hc1 g2
    have T2 := tabs_setKp T1 hc1 g2
    have hc2 : (upd G1 c (.dK (kvs' ++ [(nmK df.nm, .ref ls)]))) c = some (.dK (kvs' ++ [(nmK df.nm, .ref ls)])) := upd_same
    generalize (upd G1 c (.dK (kvs' ++ [(nmK df.nm, .ref ls)]))) = G2 at *
    have hx2 := g2 _ _ nxc hx1
    have ht2 := g2 _ _ ntc ht1
    have hs2 := g2 _ _ ncs.symm hs1
    have hd2 := g2 _ _ ncd.symm hd1
    have hl2 := g2 _ _ nlc hl1
    have st2 := (hstG.tp tp1).tp tp2
    -- the size
    have Bd : 10100 * ds'.length + 1 ≤ 400000 := by omega
    refine ⟨_, rfl, _, rfl, x, C_Program, dx, _, _, rfl, hx2, TT.cl, TT.n3, prf_s _ _ _ _, ls, s', su, df.ss, szK ds', _, 10100 * ds'.length + 1, sv, rfl, T2, hl2, st2, i1, hs2, fun n b hb => ⟨szK_val hb, ?_⟩, by omega, Bd, i5, i2, fun G3 e3 T3 b3 => ?_⟩
    · cases e : lkD ds' n with
      | none => rw [e] at hb; cases hb
      | some y =>
        rw [e] at hb
        cases hb
        exact (hbs y (lk_mem e).1).1
    have hx3 := e3 _ _ hx2 (fun _ => nofun)
    have ht3 := e3 _ _ ht2 (fun _ => nofun)
    have hc3 := e3 _ _ hc2 (fun _ => nofun)
    have hs3 := e3 _ _ hs2 (fun _ => nofun)
    have hd3 := e3 _ _ hd2 (fun _ => nofun)
    have hl3 := e3 _ _ hl2 (fun _ => nofun)
    have tp3 := Tp.extN e3
    have lsz : (szK ds').length ≤ 30 := by unfold szK; rw [List.length_map]; omega
    have ldz : (dpK ds').length ≤ 30 := by unfold dpK; rw [List.length_map]; omega
    refine ⟨_, rfl, x, C_Program, dx, _, _, rfl, hx3, TT.cl, TT.n3, prf_s _ _ _ _, _, rfl, s', _, rfl, DPut.k (k := nmK df.nm) hs3 (small1000 (by omega)), ?_⟩
    rw [szK_put (d := dv) i4]
    have g4 : But s' G3 (upd G3 s' (.dK (szK (ds' ++ [⟨df, sv, dv⟩])))) := But.set
    have tp4 := tp_dk hs3 g4
    have T4 := tabs_setKp T3 hs3 g4
    have hs4 : (upd G3 s' (.dK (szK (ds' ++ [⟨df, sv, dv⟩])))) s' = some (.dK (szK (ds' ++ [⟨df, sv, dv⟩]))) := upd_same
    generalize (upd G3 s' (.dK (szK (ds' ++ [⟨df, sv, dv⟩])))) = G4 at *
    have hx4 := g4 _ _ nxs hx3
    have ht4 := g4 _ _ nts ht3
    have hc4 := g4 _ _ ncs hc3
    have hd4 := g4 _ _ nsd.symm hd3
    have hl4 := g4 _ _ nlss hl3
    have st4 := (st2.tp tp3).tp tp4
    -- the depth
    refine ⟨_, rfl, _, rfl, x, C_Program, dx, _, _, rfl, hx4, TT.cl, TT.n4, prf_d _ _ _ _, ls, d, su, df.ss, dpK ds', _, 10100 * ds'.length + 1, dv, rfl, T4, hl4, st4, i1, hd4, fun n b hb => ⟨dpK_val hb, ?_⟩, by omega, Bd, i6, i2, fun G5 e5 T5 b5 => ?_⟩
    · cases e : lkD ds' n with
      | none => rw [e] at hb; cases hb
      | some y =>
        rw [e] at hb
        cases hb
        exact (hbs y (lk_mem e).1).2.1
    have hx5 := e5 _ _ hx4 (fun _ => nofun)
    have ht5 := e5 _ _ ht4 (fun _ => nofun)
    have hc5 := e5 _ _ hc4 (fun _ => nofun)
    have hs5 := e5 _ _ hs4 (fun _ => nofun)
    have hd5 := e5 _ _ hd4 (fun _ => nofun)
    have hl5 := e5 _ _ hl4 (fun _ => nofun)
    have tp5 := Tp.extN e5
    refine ⟨_, rfl, x, C_Program, dx, _, _, rfl, hx5, TT.cl, TT.n4, prf_d _ _ _ _, _, rfl, d, _, rfl, DPut.k (k := nmK df.nm) hd5 (small1000 (by omega)), ?_⟩
    rw [dpK_put (s := sv) i4]
    have g6 : But d G5 (upd G5 d (.dK (dpK (ds' ++ [⟨df, sv, dv⟩])))) := But.set
    have tp6 := tp_dk hd5 g6
    have T6 := tabs_setKp T5 hd5 g6
    have hd6 : (upd G5 d (.dK (dpK (ds' ++ [⟨df, sv, dv⟩])))) d = some (.dK (dpK (ds' ++ [⟨df, sv, dv⟩]))) := upd_same
    generalize (upd G5 d (.dK (dpK (ds' ++ [⟨df, sv, dv⟩])))) = G6 at *
    have keep : ∀ b o, b ≠ t → b ≠ c → b ≠ s' → b ≠ d → G b = some o → (∀ ps, o ≠ .tbl ps) → G6 b = some o := fun b o n1 n2 n3 n4 e nt => g6 _ _ n4 (e5 _ _ (g4 _ _ n3 (e3 _ _ (g2 _ _ n2 (g1 _ _ n1 e)) nt)) nt)
    have tpG : Tp G G6 := tp1.trans (tp2.trans (tp3.trans (tp4.trans (tp5.trans tp6))))
    have kcd : ∀ b us', G b = some (.lst us') → b ≠ t → G6 b = some (.lst us') := fun b us' e n1 => keep b _ n1 (ne_of e hG.hc (by intro z; cases z)) (ne_of e hG.hs (by intro z; cases z)) (ne_of e hG.hd (by intro z; cases z)) e (fun _ => nofun)
    have el : (ds' ++ [(⟨df, sv, dv⟩ : PD)]).length = ds'.length + 1 := by rw [List.length_append]; rfl
    have up : ∀ {a : Int} {m : Nat}, m ≤ 10100 * (ds'.length + 1) + 1 → a.natAbs < 2 ^ m → a.natAbs < 2 ^ (10100 * (ds'.length + 1) + 1) := fun hm h => Nat.lt_of_lt_of_le h (Nat.pow_le_pow_right (by decide) hm)
    refine ⟨_, _, _, ds' ++ [⟨df, sv, dv⟩], kvs' ++ [(nmK df.nm, .ref ls)], rfl, ⟨g6 _ _ nxd hx5, ?_, g6 _ _ ncd hc5, g6 _ _ nsd hs5, hd6, ?_, ncs, ncd, nsd, .inl hP.ox, .inl hP.ot, .inl hP.oc, .inl hP.os, .inl hP.od⟩, by rw [el, hlen]; omega, fun e he => ?_, i7, T6, fun b o nb e nt => ?_, tpH.trans tpG⟩
    · rw [List.map_append]
      exact g6 _ _ ntd ht5
    · have z : CdAll K (fun l => (O l ∨ Hs l = none) ∧ l ≠ t) G6 [(nmK df.nm, .ref ls)] [⟨df, sv, dv⟩] := CdAll.cons (e := ⟨df, sv, dv⟩) (And.intro (Or.inr hl0) nlt) (kcd _ _ hlsG nlt) (hstG.tp tpG) .nil
      exact (hG.cd.keep tpG fun l' us' a b => ⟨a, kcd _ _ b a.2⟩).app z
    · rw [el]
      rcases List.mem_append.mp he with he | he
      · obtain ⟨a1, a2, a3⟩ := hbs e he
        exact ⟨up (by omega) a1, up (by omega) a2, a3⟩
      · rw [List.mem_singleton.mp he]
        exact ⟨up (by omega) b3, up (by omega) b5, i1, i2⟩
    · exact keep b o (fun z => nb (by rw [z]; exact hP.ot)) (fun z => nb (by rw [z]; exact hP.oc)) (fun z => nb (by rw [z]; exact hP.os)) (fun z => nb (by rw [z]; exact hP.od)) (fr b o nb e nt) nt
  · rintro σ G ⟨x2, x3, x4, ds', kvs', rfl, hG, hlen, hbs, hInc, hTG, fr, tpH⟩
    have hlu := hD.len
    rw [hlu, List.drop_length] at hInc
    cases hInc
    exact q G ⟨⟨dx, t, c, s', d, kvs', hG⟩, by omega, hbs⟩ hTG fr tpH

abbrev s_Program___init__ : Stmt := inClass (top 43) 0
theorem sc_Program___init__ : FnScope ["self", "text"] ["self", "text"] (defScope s_Program___init__) := ⟨rfl, rfl, rfl, by decide +kernel, rfl, by decide +kernel, by decide +kernel⟩
theorem ok_Program___init__ {C_Program g1 g2 : Addr} {h1 h2 : FuncData} {T : List (Addr × Str)} (F : FunD K "__init__" "Program.__init__" (defArgs s_Program___init__) (defBody s_Program___init__) (defScope s_Program___init__) [.str ""] [] f fd) (T_Program : PrT K mg C_Program) (d_read_source : D K mg "read_source" s_read_source ["text"] g1 h1) (d_Program_include : Mt K C_Program "include" "Program.include" s_Program_include ["self", "definitions"] g2 h2)
    (G_read_source : FnOk P w K mg base CX0 9 g1 h1 ["text"] (spRS K)) (G_Program_include : FnOk P w K mg base CX0 4 g2 h2 ["self", "definitions"] (spPInc T K C_Program)) : FnOk P w K mg base CX0 10 f fd ["self", "text"] (spPInit T K C_Program) := by
  have TT := T_Program
  refine F.ok sc_Program___init__ (fun vs H Q E h => ?_) (fun cdv A outer s H vs Q E hr h => ?_)
  · obtain ⟨_, _, _, _, _, rfl, _⟩ := h
    rfl
  obtain ⟨x, dx, cs, dfs, res, rfl, hx, hT, hl, hS, hI, hn, q⟩ := h
  refine ⟨_, (pss_cons (ps_fld (pv 0) (pe_lst pa_nil) rfl)
 (pss_cons (ps_fld (pv 0) pe_dnewK rfl)
 (pss_cons (ps_fld (pv 0) pe_dnewK rfl)
 (pss_cons (ps_fld (pv 0) pe_dnewK rfl)
 (pss_one (ps_expr (pe_meth (pv 0) T_Program.cl d_Program_include.m G_Program_include (hr.mono (by decide)) d_Program_include.b .nil pass0 (pa_cons (pe_call G_read_source (hr.mono (by decide)) rfl d_read_source.m d_read_source.F.kp d_read_source.b .nil pass0 (pa_cons (pv 1) pa_nil)) pa_nil)))))))), ?_⟩
  refine ⟨zero_le', fun t nt => ?_⟩
  have n1 := Same.new nt (.lst [])
  have nxt : x ≠ t := ne_of_none hx nt
  refine ⟨_, rfl, x, C_Program, dx, [], rfl, n1 _ _ hx, TT.cl, TT.n1, (by show 0 < 1000; decide), ?_⟩
  have k1 : ∀ b o, b ≠ x → H b = some o → (upd (upd H t (.lst [])) x (.ins C_Program dx (putF "texts" (.ref t) []))) b = some o := fun b o nb e => by
    rw [upd_ne nb]
    exact n1 _ _ e
  have ht1 : (upd (upd H t (.lst [])) x (.ins C_Program dx (putF "texts" (.ref t) []))) t = some (.lst []) := by rw [upd_ne nxt.symm, upd_same]
  have hx1 : (upd (upd H t (.lst [])) x (.ins C_Program dx (putF "texts" (.ref t) []))) x = some (.ins C_Program dx (putF "texts" (.ref t) [])) := upd_same
  generalize (upd (upd H t (.lst [])) x (.ins C_Program dx (putF "texts" (.ref t) []))) = H1 at *
  intro c nc
  have nxc : x ≠ c := ne_of_none hx1 nc
  have ntc : t ≠ c := ne_of_none ht1 nc
  have n2 := Same.new nc (.dK [])
  refine ⟨_, rfl, x, C_Program, dx, _, rfl, n2 _ _ hx1, TT.cl, TT.n2, (by show 1 < 1000; decide), ?_⟩
  have k2 : ∀ b o, b ≠ x → H1 b = some o → (upd (upd H1 c (.dK [])) x (.ins C_Program dx (putF "codes" (.ref c) (putF "texts" (.ref t) [])))) b = some o := fun b o nb e => by
    rw [upd_ne nb]
    exact n2 _ _ e
  have hc2 : (upd (upd H1 c (.dK [])) x (.ins C_Program dx (putF "codes" (.ref c) (putF "texts" (.ref t) [])))) c = some (.dK []) := by rw [upd_ne nxc.symm, upd_same]
  have hx2 : (upd (upd H1 c (.dK [])) x (.ins C_Program dx (putF "codes" (.ref c) (putF "texts" (.ref t) [])))) x = some (.ins C_Program dx (putF "codes" (.ref c) (putF "texts" (.ref t) []))) := upd_same
  have ht2 := k2 _ _ nxt.symm ht1
  generalize (upd (upd H1 c (.dK [])) x (.ins C_Program dx (putF "codes" (.ref c) (putF "texts" (.ref t) [])))) = H2 at *
  intro s' ns
  have nxs : x ≠ s' := ne_of_none hx2 ns
  have ncs : c ≠ s' := ne_of_none hc2 ns
  have nts : t ≠ s' := ne_of_none ht2 ns
  have n3 := Same.new ns (.dK [])
  refine ⟨_, rfl, x, C_Program, dx, _, rfl, n3 _ _ hx2, TT.cl, TT.n3, (by show 2 < 1000; decide), ?_⟩
  have k3 : ∀ b o, b ≠ x → H2 b = some o → (upd (upd H2 s' (.dK [])) x (.ins C_Program dx (putF "sizes" (.ref s') (putF "codes" (.ref c) (putF "texts" (.ref t) []))))) b = some o := fun b o nb e => by
    rw [upd_ne nb]
    exact n3 _ _ e
  have hs3 : (upd (upd H2 s' (.dK [])) x (.ins C_Program dx (putF "sizes" (.ref s') (putF "codes" (.ref c) (putF "texts" (.ref t) []))))) s' = some (.dK []) := by rw [upd_ne nxs.symm, upd_same]
  have hx3 : (upd (upd H2 s' (.dK [])) x (.ins C_Program dx (putF "sizes" (.ref s') (putF "codes" (.ref c) (putF "texts" (.ref t) []))))) x = some (.ins C_Program dx (putF "sizes" (.ref s') (putF "codes" (.ref c) (putF "texts" (.ref t) [])))) := upd_same
  have ht3 := k3 _ _ nxt.symm ht2
  have hc3 := k3 _ _ nxc.symm hc2
  generalize (upd (upd H2 s' (.dK [])) x (.ins C_Program dx (putF "sizes" (.ref s') (putF "codes" (.ref c) (putF "texts" (.ref t) []))))) = H3 at *
  intro d nd
  have nxd : x ≠ d := ne_of_none hx3 nd
  have ncd : c ≠ d := ne_of_none hc3 nd
  have nsd : s' ≠ d := ne_of_none hs3 nd
  have ntd : t ≠ d := ne_of_none ht3 nd
  have n4 := Same.new nd (.dK [])
  refine ⟨_, rfl, x, C_Program, dx, _, rfl, n4 _ _ hx3, TT.cl, TT.n4, (by show 3 < 1000; decide), ?_⟩
  have ep : putF "depths" (.ref d) (putF "sizes" (.ref s') (putF "codes" (.ref c) (putF "texts" (.ref t) []))) = prf t c s' d := by
    show putF "depths" (.ref d) (putF "sizes" (.ref s') (putF "codes" (.ref c) [("texts", .ref t)])) = _
    rw [put_tl _ _ _ pne1]
    show putF "depths" (.ref d) (putF "sizes" (.ref s') [("texts", .ref t), ("codes", .ref c)]) = _
    rw [put_tl _ _ _ pne2, put_tl _ _ _ pne4]
    show putF "depths" (.ref d) [("texts", .ref t), ("codes", .ref c), ("sizes", .ref s')] = _
    rw [put_tl _ _ _ pne3, put_tl _ _ _ pne5, put_tl _ _ _ pne6]
    rfl
  rw [ep]
  have k4 : ∀ b o, b ≠ x → H3 b = some o → (upd (upd H3 d (.dK [])) x (.ins C_Program dx (prf t c s' d))) b = some o := fun b o nb e => by
    rw [upd_ne nb]
    exact n4 _ _ e
  have hd4 : (upd (upd H3 d (.dK [])) x (.ins C_Program dx (prf t c s' d))) d = some (.dK []) := by rw [upd_ne nxd.symm, upd_same]
  have hx4 : (upd (upd H3 d (.dK [])) x (.ins C_Program dx (prf t c s' d))) x = some (.ins C_Program dx (prf t c s' d)) := upd_same
  have ht4 := k4 _ _ nxt.symm ht3
  have hc4 := k4 _ _ nxc.symm hc3
  have hs4 := k4 _ _ nxs.symm hs3
  generalize (upd (upd H3 d (.dK [])) x (.ins C_Program dx (prf t c s' d))) = H4 at *
  have k : But x H H4 := fun b o nb e => k4 _ _ nb (k3 _ _ nb (k2 _ _ nb (k1 _ _ nb e)))
  have fr : ∀ {b : Addr}, b ≠ x → H4 b = none → H b = none := fun {b} nb e => by
    cases z : H b with
    | none => rfl
    | some o => rw [k b o nb z] at e; cases e
  have back : ∀ {b : Addr}, (b = t ∨ b = c ∨ b = s' ∨ b = d) → b ≠ x → H b = none := fun {b} hb nb => by
    cases z : H b with
    | none => rfl
    | some o =>
      exfalso
      have z1 := k1 _ _ nb z
      have z2 := k2 _ _ nb z1
      have z3 := k3 _ _ nb z2
      rcases hb with rfl | rfl | rfl | rfl
      · have := n1 _ _ z
        rw [z] at nt; cases nt
      · rw [z1] at nc; cases nc
      · rw [z2] at ns; cases ns
      · rw [z3] at nd; cases nd
  have tpx : Tp H H4 := tp_ins hx k
  have T4 : LamX.Tabs T H4 := fun p hp => by
    obtain ⟨ps, h1, h2, h3⟩ := hT p hp
    refine ⟨ps, k _ _ (fun z => by rw [z, hx] at h1; cases h1) h1, h2, fun pos cv ec => ?_⟩
    obtain ⟨c0, rfl, hc0⟩ := h3 pos cv ec
    exact ⟨c0, rfl, k _ _ (fun z => by rw [z, hx] at hc0; cases hc0) hc0⟩
  refine ⟨_, rfl, x, dx, _, rfl, hx4, prf_no _ _ _ _ (by decide +kernel) (by decide +kernel) (by decide +kernel) (by decide +kernel), _, rfl, cs, dfs, rfl, hl, hS, fun l us H5 s5 nl hl5 hD => ?_⟩
  have P0 : PrI K (fun b => b = x ∨ b = t ∨ b = c ∨ b = s' ∨ b = d) H5 C_Program x dx t c s' d [] [] := ⟨s5 _ _ hx4, s5 _ _ ht4, s5 _ _ hc4, s5 _ _ hs4, s5 _ _ hd4, .nil, ncs, ncd, nsd, .inl rfl, .inr (.inl rfl), .inr (.inr (.inl rfl)), .inr (.inr (.inr (.inl rfl))), .inr (.inr (.inr (.inr rfl)))⟩
  have hO4 : ∀ b, (b = x ∨ b = t ∨ b = c ∨ b = s' ∨ b = d) → H4 b ≠ none := fun b hb => by
    rcases hb with rfl | rfl | rfl | rfl | rfl
    · rw [hx4]; exact fun z => nomatch z
    · rw [ht4]; exact fun z => nomatch z
    · rw [hc4]; exact fun z => nomatch z
    · rw [hs4]; exact fun z => nomatch z
    · rw [hd4]; exact fun z => nomatch z
  refine ⟨fun b => b = x ∨ b = t ∨ b = c ∨ b = s' ∨ b = d, H4, x, l, us, [], res, dfs, rfl, ⟨⟨dx, t, c, s', d, [], P0⟩, by show 0 ≤ 30; decide, fun e he => nomatch he⟩, T4.ext s5, hl5, fun z => hO4 _ z nl, hD, hO4, hI, by show 0 + dfs.length ≤ 30; omega, fun H6 P6 T6 f6 tp6 => ?_⟩
  refine q H6 (P6.keep (Tp.refl _) (fun b hb => ?_) fun b o _ e _ => e) T6 (fun b o nb e nt => ?_) (tpx.trans ((Tp.same s5).trans tp6))
  · by_cases z : b = x
    · exact .inl z
    · rcases hb with hb | hb
      · rcases hb with hb | hb
        · exact .inl hb
        · exact .inr (back hb z)
      · exact .inr (fr z hb)
  · refine f6 b o (fun z => ?_) (s5 _ _ (k b o nb e)) nt
    rcases z with z | z
    · exact nb z
    · have := back z nb
      rw [e] at this
      cases this

abbrev s_Program_check_name : Stmt := inClass (top 43) 7
theorem sc_Program_check_name : FnScope ["self", "name"] ["self", "name"] (defScope s_Program_check_name) := ⟨rfl, rfl, rfl, by decide +kernel, rfl, by decide +kernel, by decide +kernel⟩
abbrev s_UNInit : Stmt := inClass (top 6) 0
theorem sc_UNInit : SupScope ["self", "name"] (defScope s_UNInit) := ⟨rfl, rfl, rfl, by decide +kernel, by decide +kernel, by decide +kernel, by decide +kernel, by decide +kernel, fun x h => by
  have z : ∀ y ∈ (defScope s_UNInit).names, y.2 = .free → y.1 = ("__class__" : Str) := by decide +kernel
  exact z _ (PySem.mem_of_lookup h) rfl⟩
theorem ok_UNInit {C : Addr} (F : FunS P K mg "UnknownName" "UnknownName.__init__" s_UNInit ["self", "name"] C f fd) (hno : PySem.W.findIn K (.ref C) "name" = some none) : FnOk P w K mg base CX0 1 f fd ["self", "name"] (spS C "name" okNmV) := by
  obtain ⟨oc, od, dV, kV, doc, pm, an, cda, ct, osl, cc, cl, cld, csl, ccl, cdd, cvs, ccs, file, tf, rfl, lk, hcd, hcode, hvs, hfile, hcell⟩ := F.ex
  refine ok_sup (sf := "self") (xn := "name") (fld := "name") lk hcd sc_UNInit rfl rfl hcode hvs hfile F.top hcell F.T F.mro F.sup F.any F.ini F.val hno (fun A outer s H E a v hv => ?_)
  obtain ⟨n, rfl, h1⟩ := hv
  refine ⟨_, pa_cons (pe_joined (PJ.cons pe_str (PJ.cons (pe_fmt (pv 1)) (PJ.cons pe_str PJ.nil)))) pa_nil, ?_⟩
  have L : (sL n).length ≤ 100 := h1
  refine ⟨_, rfl, (by decide +kernel), _, rfl, .inl ⟨_, rfl, ?_, ?_⟩⟩
  · exact fits (by omega)
  · have e1 := PySem.Str.length_append (Str.empty ++ Str.ofString "the name ") (sL n)
    have e2 : (Str.empty ++ Str.ofString "the name ").length ≤ 100 := by decide +kernel
    have e3 := PySem.Str.length_append ((Str.empty ++ Str.ofString "the name ") ++ sL n) (Str.ofString " does not exist")
    have e4 : (Str.ofString " does not exist").length ≤ 100 := by decide +kernel
    exact ⟨_, rfl, fits (by omega), _, rfl, fits (by omega), by show 1 ≤ 1000; omega, rfl⟩
theorem ok_Program_check_name {C CU fU : Addr} {fdU : FuncData} (F : Fun K "check_name" "Program.check_name" s_Program_check_name f fd) (T : PrT K mg C) (FL : FunS P K mg "UnknownName" "UnknownName.__init__" s_UNInit ["self", "name"] CU fU fdU) (nL : PySem.W.findIn K (.ref CU) "name" = some none) : FnOk P w K mg base (L2N.CX P w) 3 f fd ["self", "name"] (spPChk K C CU) := by
  have GL : FnOk P w K mg base CX0 1 fU fdU ["self", "name"] (spS CU "name" okNmV) := ok_UNInit FL nL
  refine Fun.okN F sc_Program_check_name (fun vs H Q E h => ?_) (fun cdv A outer s H vs Q E hr h => ?_)
  · obtain ⟨_, _, _, _, rfl, _⟩ := h
    rfl
  obtain ⟨O, x, ds, n, rfl, hA, hn, hB, hk⟩ := h
  obtain ⟨dx, t, c, s', d, kvs, hI⟩ := hA.ex
  have hkey : valV kvs (nmK n) = none ↔ lkD ds n = none := by
    constructor
    · intro z
      cases e : lkD ds n with
      | none => rfl
      | some w0 =>
        obtain ⟨l, us, z1, _⟩ := hI.cd.at w0 e
        rw [z] at z1
        cases z1
    · intro z
      refine hI.cd.none fun hm => ?_
      obtain ⟨w0, hw⟩ := lk_some hm
      rw [z] at hw
      cases hw
  refine ⟨_, (pss_one (ps_if (pt_cmp (pc_dnotin (hu_of hr) (pv 1) (pe_fld (pv 0) rfl)) (by with_unfolding_all rfl)) (pss_one (L2N.ps_raise rfl (L2N.takes_of rfl rfl rfl rfl) (pmkN_oex FL.T FL.iC FL.tI GL (hr.mono (by decide)) FL.b (fun _ _ _ _ _ _ _ h => h.elim) (by exact rfl) FL.m (pa_cons (pv 1) pa_nil)))) pss_nil)), ?_⟩
  refine ⟨_, rfl, _, rfl, x, C, dx, _, _, rfl, hI.hx, T.cl, T.n2, prf_c _ _ _ _, c, _, rfl, DGet.k (k := nmK n) hI.hc, _, rfl, ?_⟩
  cases e : lkD ds n with
  | none =>
    rw [hkey.mpr e]
    refine iteT ?_
    refine ⟨_, rfl, (by show 1 ≤ 1000; omega), fun a na => ⟨a, _, rfl, upd_same, ⟨n, rfl, hn⟩, fun dx' ndx ne => ?_⟩⟩
    rw [upd_ne ne] at ndx
    refine ⟨rfl, dx', _, upd_same, (upd_ne ne).trans upd_same, ndx, ?_⟩
    refine hB e dx' _ (fun b o hb' => ?_) ndx upd_same
    have ba : b ≠ a := ne_of_none hb' na
    have bd : b ≠ dx' := ne_of_none hb' ndx
    rw [upd_ne bd, del_ne ba, upd_ne ba, upd_ne bd, upd_ne ba]
    exact hb'
  | some z =>
    have e2 : ∃ v, valV kvs (nmK n) = some v := by
      obtain ⟨l, us, z1, _⟩ := hI.cd.at z e
      exact ⟨_, z1⟩
    obtain ⟨v, e2⟩ := e2
    rw [e2]
    exact iteF (hk z e H (Same.refl _))

abbrev s_Program_size_of : Stmt := inClass (top 43) 9
theorem sc_Program_size_of : FnScope ["self", "name"] ["self", "name"] (defScope s_Program_size_of) := ⟨rfl, rfl, rfl, by decide +kernel, rfl, by decide +kernel, by decide +kernel⟩
theorem ok_Program_size_of {C CU fU g1 : Addr} {fdU h1 : FuncData} (F : Fun K "size_of" "Program.size_of" s_Program_size_of f fd) (T_Program : PrT K mg C) (FL : FunS P K mg "UnknownName" "UnknownName.__init__" s_UNInit ["self", "name"] CU fU fdU) (nL : PySem.W.findIn K (.ref CU) "name" = some none) (d_Program_check_name : Mt K C "check_name" "Program.check_name" s_Program_check_name ["self", "name"] g1 h1) : FnOk P w K mg base (L2N.CX P w) 4 f fd ["self", "name"] (spPGet K C CU PD.sz) := by
  have G_Program_check_name : FnOk P w K mg base (L2N.CX P w) 3 g1 h1 ["self", "name"] (spPChk K C CU) := ok_Program_check_name d_Program_check_name.F T_Program FL nL
  refine Fun.okN F sc_Program_size_of (fun vs H Q E h => ?_) (fun cdv A outer s H vs Q E hr h => ?_)
  · obtain ⟨_, _, _, _, rfl, _⟩ := h
    rfl
  obtain ⟨O, x, ds, n, rfl, hA, hn, hB, hk⟩ := h
  obtain ⟨dx, t, c, s', d, kvs, hI⟩ := hA.ex
  refine ⟨_, (pss_cons (ps_expr (pe_meth (pv 0) T_Program.cl d_Program_check_name.m G_Program_check_name (hr.mono (by decide)) d_Program_check_name.b .nil passD (pa_cons (pv 1) pa_nil)))
 (pss_one (ps_ret (pe_dget (hu_of hr) (pe_fld (pv 0) rfl) (pv 1) (fun _ _ => rfl))))), ?_⟩
  refine ⟨_, rfl, x, dx, _, rfl, hI.hx, prf_no _ _ _ _ (by decide +kernel) (by decide +kernel) (by decide +kernel) (by decide +kernel), _, rfl, O, x, ds, n, rfl, hA, hn, hB, fun z hz H1 s1 => ?_⟩
  have hg : DGet H1 s' (nmV n) (some (.int z.sz)) := by
    have q := DGet.k (k := nmK n) (s1 _ _ hI.hs)
    rw [szK_val (by rw [hz]; rfl)] at q
    exact q
  exact ⟨_, rfl, x, C, dx, _, _, rfl, s1 _ _ hI.hx, T_Program.cl, T_Program.n3, prf_s _ _ _ _, _, rfl, s', _, rfl, hg, hk z hz H1 s1⟩

abbrev s_Program_names_up_to : Stmt := inClass (top 43) 8
theorem sc_Program_names_up_to : FnScope ["self", "name", "names"] ["self", "name"] (defScope s_Program_names_up_to) := ⟨rfl, rfl, rfl, by decide +kernel, rfl, by decide +kernel, by decide +kernel⟩
theorem cut_take {xs : List V} (n : Nat) : cutV xs none (some (n : Int)) = xs.take n := by
  unfold cutV
  rw [HT.sIx_none, show HT.sIx xs.length xs.length (some (n : Int)) = min n xs.length from HT.sIx_nat _ _ n]
  rw [List.drop_zero, Nat.sub_zero]
  rcases Nat.le_total n xs.length with h | h
  · rw [Nat.min_eq_left h]
  · rw [Nat.min_eq_right h, List.take_of_length_le (Nat.le_refl _), List.take_of_length_le h]
theorem ok_Program_names_up_to {C g1 : Addr} {h1 : FuncData} (F : Fun K "names_up_to" "Program.names_up_to" s_Program_names_up_to f fd) (T_Program : PrT K mg C) (B : Blt mg) (d_Program_names : Mt K C "names" "Program.names" s_Program_names ["self"] g1 h1) : FnOk P w K mg base CX0 2 f fd ["self", "name"] (spPUp K C) := by
  have G_Program_names : FnOk P w K mg base CX0 1 g1 h1 ["self"] (spPNms K C) := ok_Program_names d_Program_names.F T_Program B
  refine F.ok sc_Program_names_up_to (fun vs H Q E h => ?_) (fun cdv A outer s H vs Q E hr h => ?_)
  · obtain ⟨_, _, _, _, _, rfl, _⟩ := h
    rfl
  obtain ⟨O, x, ds, i, z, rfl, hA, hp, hz, q⟩ := h
  obtain ⟨dx, t, c, s', d, kvs, hI⟩ := hA.ex
  refine ⟨_, (pss_cons (ps_set (i := 2) sc_Program_names_up_to.nd rfl (Or.inl rfl) (pe_meth0 (pv 0) T_Program.cl d_Program_names.m G_Program_names (hr.mono (by decide)) d_Program_names.b .nil pass0))
 (pss_one (ps_ret (pe_slice sl_list (pv 2) po_none (po_some (pe_op op_add (pe_bm PySem.F.plainAttrs_list PySem.F.slot_list_index PySem.F.type_list_index mt_index (pv 2) (pa_cons (pv 1) pa_nil)) pe_int)))))), ?_⟩
  refine ⟨_, rfl, x, dx, _, rfl, hI.hx, prf_no _ _ _ _ (by decide +kernel) (by decide +kernel) (by decide +kernel) (by decide +kernel), O, x, ds, rfl, hA, fun l H1 s1 n1 h1 => ?_⟩
  have hi := (List.getElem?_eq_some_iff.mp hz).1
  have hat : ((ds.map fun e => e.df.nm).map nmV)[i]? = some (nmV z.df.nm) := by
    rw [List.map_map, List.getElem?_map, hz]
    rfl
  refine ⟨_, rfl, ?_⟩
  refine ⟨_, rfl, .inl ⟨rfl, _, SqL.here h1⟩, _, rfl, l, (ds.map fun e => e.df.nm).map nmV, nmV z.df.nm, i, _, rfl, rfl, SqL.here h1, rfl, flat_nms _, hat, (by simp [nmV, eqV]), fun m z' hm hz' => ?_, ?_⟩
  · rw [List.getElem?_map] at hz'
    obtain ⟨n', hn', rfl⟩ := Option.map_eq_some_iff.mp hz'
    have ne : n' ≠ z.df.nm := by
      have hzi : (ds.map fun e => e.df.nm)[i]? = some z.df.nm := by
        rw [List.getElem?_map, hz]
        rfl
      obtain ⟨a1, a2⟩ := List.getElem?_eq_some_iff.mp hn'
      obtain ⟨b1, b2⟩ := List.getElem?_eq_some_iff.mp hzi
      have := List.pairwise_iff_getElem.mp hp m i a1 b1 hm
      rw [a2, b2] at this
      exact this
    simp only [nmV, eqV]
    exact decide_eq_false fun z => ne (sL_inj z)
  · refine ⟨_, _, rfl, rfl, _, rfl, l, _, rfl, SqL.here h1, fun p np => ?_⟩
    refine q p _ (s1.trans (Same.new np _)) (s1.free np) ?_
    rw [upd_same, show ((i : Int) + 1) = ((i + 1 : Nat) : Int) from rfl, cut_take, List.map_take, List.map_take]

abbrev s_Program_add_definition : Stmt := inClass (top 43) 4
theorem sc_Program_add_definition : FnScope ["self", "text"] ["self", "text"] (defScope s_Program_add_definition) := ⟨rfl, rfl, rfl, by decide +kernel, rfl, by decide +kernel, by decide +kernel⟩
theorem ok_Program_add_definition {C_Reader C_Program fI f1 f2 f3 f4 f5 f6 f7 f8 f9 f10 g1 g2 g3 g4 g5 : Addr} {fdI e1 e2 e3 e4 e5 e6 e7 e8 e9 e10 h1 h2 h3 h4 h5 : FuncData} {T : List (Addr × Str)} (F : Fun K "add_definition" "Program.add_definition" s_Program_add_definition f fd) (T_Program : PrT K mg C_Program) (T_Reader : RdT K mg C_Reader) (B : Blt mg) (CR : CstR mg) (M : L2.Mk K C_Reader fI) (FI : Fun K "__init__" "Reader.__init__" s_Reader___init__ fI fdI) (bI : Binds K fdI ["self", "text"] []) (d_Reader_at_end : Mt K C_Reader "at_end" "Reader.at_end" s_Reader_at_end ["self"] f1 e1) (d_Reader_sees : Mt K C_Reader "sees" "Reader.sees" s_Reader_sees ["self", "signs"] f2 e2) (d_Reader_take : Mt K C_Reader "take" "Reader.take" s_Reader_take ["self", "signs"] f3 e3)
    (d_Reader_take_digits : Mt K C_Reader "take_digits" "Reader.take_digits" s_Reader_take_digits ["self", "most"] f4 e4) (d_Reader_take_name : Mt K C_Reader "take_name" "Reader.take_name" s_Reader_take_name ["self"] f5 e5) (d_Reader_take_powers : Mt K C_Reader "take_powers" "Reader.take_powers" s_Reader_take_powers ["self"] f6 e6) (d_Reader_take_atom : Mt K C_Reader "take_atom" "Reader.take_atom" s_Reader_take_atom ["self"] f7 e7) (d_Reader_take_expression : Mt K C_Reader "take_expression" "Reader.take_expression" s_Reader_take_expression ["self"] f8 e8)
    (d_Reader_take_definition : Mt K C_Reader "take_definition" "Reader.take_definition" s_Reader_take_definition ["self"] f9 e9) (d_Reader_finish : Mt K C_Reader "finish" "Reader.finish" s_Reader_finish ["self"] f10 e10)
  (d_read_definition : D K mg "read_definition" s_read_definition ["text"] g1 h1) (d_Program_include : Mt K C_Program "include" "Program.include" s_Program_include ["self", "definitions"] g2 h2) (d_check_names : D K mg "check_names" s_check_names ["known", "definitions"] g3 h3)
  (d_computed_size : D K mg "computed_size" s_computed_size ["steps", "sizes"] g4 h4) (d_computed_depth : D K mg "computed_depth" s_computed_depth ["steps", "depths"] g5 h5) (G_computed_size : FnOk P w K mg base CX0 3 g4 h4 ["steps", "sizes"] (spCSz T K 1 sJ sP)) (G_computed_depth : FnOk P w K mg base CX0 3 g5 h5 ["steps", "depths"] (spCSz T K 0 dJ dP)) : FnOk P w K mg base CX0 10 f fd ["self", "text"] (spPAdd T K C_Program) := by
  have G_read_definition : FnOk P w K mg base CX0 9 g1 h1 ["text"] (spRD K) := ok_read_definition d_read_definition T_Reader B CR M FI bI d_Reader_at_end d_Reader_sees d_Reader_take d_Reader_take_digits d_Reader_take_name d_Reader_take_powers d_Reader_take_atom d_Reader_take_expression d_Reader_take_definition d_Reader_finish
  have G_Program_include : FnOk P w K mg base CX0 4 g2 h2 ["self", "definitions"] (spPInc T K C_Program) := ok_Program_include d_Program_include.F T_Program B CR d_check_names d_computed_size d_computed_depth G_computed_size G_computed_depth
  refine F.ok sc_Program_add_definition (fun vs H Q E h => ?_) (fun cdv A outer s H vs Q E hr h => ?_)
  · obtain ⟨_, _, _, _, _, _, _, rfl, _⟩ := h
    rfl
  obtain ⟨O, x, cs, ds, res, df, dE, rfl, hA, hO, hT, hl, hD, hd30, hI, hn, q⟩ := h
  obtain ⟨dx, t, c, s', d, kvs, hP⟩ := hA.ex
  refine ⟨_, (pss_one (ps_expr (pe_meth (pv 0) T_Program.cl d_Program_include.m G_Program_include (hr.mono (by decide)) d_Program_include.b .nil pass0 (pa_cons (pe_lst (pa_cons (pe_call G_read_definition (hr.mono (by decide)) rfl d_read_definition.m d_read_definition.F.kp d_read_definition.b .nil pass0 (pa_cons (pv 1) pa_nil)) pa_nil)) pa_nil)))), ?_⟩
  refine ⟨_, rfl, x, dx, _, rfl, hP.hx, prf_no _ _ _ _ (by decide +kernel) (by decide +kernel) (by decide +kernel) (by decide +kernel), _, rfl, cs, df, dE, rfl, hl, hD, hd30, fun v H1 s1 hv => ⟨one_le, fun l nl => ?_⟩⟩
  have s2 := Same.new nl (.lst [v])
  have s12 := s1.trans s2
  have hv2 : DfV K H (upd H1 l (.lst [v])) v df := by
    obtain ⟨q1, l1, us1, e1, e2, e3, e4, e5⟩ := hv
    exact ⟨q1, l1, us1, e1, (Tp.same s2).sqT e2, e3, s2 _ _ e4, e5.tp (Tp.same s2)⟩
  refine ⟨O, H, x, l, [v], ds, res, [df], rfl, hA.same s12, tabs_same s12 hT, upd_same, (fun z => hO l z (s1.free nl)), .cons hv2 .nil, hO, hI, hn, fun H3 P3 T3 f3 tp3 => ?_⟩
  exact q H3 P3 T3 (fun b o nb e nt => f3 b o nb (s12 _ _ e) nt) ((Tp.same s12).trans tp3)

abbrev s_Program_evaluate : Stmt := inClass (top 43) 13
theorem sc_Program_evaluate : FnScope ["self", "name", "size", "table", "known", "needed"] ["self", "name", "size"] (defScope s_Program_evaluate) := ⟨rfl, rfl, rfl, by decide +kernel, rfl, by decide +kernel, by decide +kernel⟩
structure DEv (K : PySem.W.Frag) (f : Addr) (fd : FuncData) : Prop where
  F : Fun K "evaluate" "Program.evaluate" s_Program_evaluate f fd
  b : ∃ ds, Vals [.int 3] ds ∧ Binds K fd ["self", "name", "size"] ds
  kb : KBn K fd ["self", "name", "size"] 2 ["size"] (fun us ws => us ++ ws) (fun vs zs => vs ++ zs)
theorem dev_mk {K : PySem.W.Frag} {f Dk : Addr} {oc : Value} {od an : Option Addr} {osl : Array (Option Value)} {doc pm cdv ct : Value} {tk : Tok} (l : K.lookup f = some ⟨oc, od, .func (PySem.W.fnOf "evaluate" "Program.evaluate" (defArgs s_Program_evaluate) (defBody s_Program_evaluate) (defScope s_Program_evaluate) .none (.ref Dk) doc pm an cdv ct), osl⟩)
    (c : PySem.W.codeIn K cdv "Program.evaluate" = true) (k : PySem.W.keepIn K (.ref f) = true) (hk : PySem.W.nsIn K Dk "size" = some (some (.int 3 tk))) : DEv K f (PySem.W.fnOf "evaluate" "Program.evaluate" (defArgs s_Program_evaluate) (defBody s_Program_evaluate) (defScope s_Program_evaluate) .none (.ref Dk) doc pm an cdv ct) := by
  have F : FunD K "evaluate" "Program.evaluate" (defArgs s_Program_evaluate) (defBody s_Program_evaluate) (defScope s_Program_evaluate) [] [("size", .int 3)] f (PySem.W.fnOf "evaluate" "Program.evaluate" (defArgs s_Program_evaluate) (defBody s_Program_evaluate) (defScope s_Program_evaluate) .none (.ref Dk) doc pm an cdv ct) :=
    ⟨⟨oc, od, .none, .ref Dk, doc, pm, an, cdv, ct, osl, rfl, l, c, .inl ⟨rfl, rfl⟩, .inr ⟨Dk, rfl, fun q hq => by rw [List.mem_singleton.mp hq]; exact ⟨_, hk, _, rfl⟩⟩⟩, k⟩
  refine ⟨fun_mk l c k, ?_, ?_⟩
  · refine F.binds0 (ps := ["self", "name", "size"]) 2 (by simp) rfl fun D doc pm an cdv ct us ks h1 h2 => ?_
    match us, ks, h1, h2 with
    | [u, u'], [k], _, _ => exact ⟨_, _, _, _, _, _, rfl, rfl, rfl⟩
  · refine ⟨fun s us ws _ h1 h2 => ?_, fun r1 r2 => r1.append r2⟩
    match us, ws, h1, h2 with
    | [u, u'], [v], _, _ => exact .of_eq rfl
theorem ok_Program_evaluate {C CU CS C_Table fU fs g1 g2 g3 fit ca : Addr} {fdU h1 h2 h3 fdit : FuncData} {T : List (Addr × Str)} {kV doc pm ct : Value} {an : Option Addr} (F : Fun K "evaluate" "Program.evaluate" s_Program_evaluate f fd) (T_Program : PrT K mg C) (B : Blt mg)
    (FL : FunS P K mg "UnknownName" "UnknownName.__init__" s_UNInit ["self", "name"] CU fU fdU) (nL : PySem.W.findIn K (.ref CU) "name" = some none)
    (d_Program_check_name : Mt K C "check_name" "Program.check_name" s_Program_check_name ["self", "name"] g1 h1) (d_Program_names : Mt K C "names" "Program.names" s_Program_names ["self"] g2 h2) (d_Program_names_up_to : Mt K C "names_up_to" "Program.names_up_to" s_Program_names_up_to ["self", "name"] g3 h3)
    (T_Table : TabT K mg C_Table) (MKT : L2.Mk K C_Table fit) (GIT : FnOk P w K mg base (L2N.CX P w) 4 fit fdit ["self", "size"] (spTInit C_Table CS)) (bIT : Binds K fdit ["self", "size"] [])
    (G_computed_value : FnOk P w K mg base CX0 9 fs (PySem.W.fnOf "computed_value" "computed_value" (defArgs s_computed_value) (defBody s_computed_value) (defScope s_computed_value) .none kV doc pm an (.ref ca) ct) ["table", "steps", "known"] (spCVal T K C_Table))
    (d_computed_value : D K mg "computed_value" s_computed_value ["table", "steps", "known"] fs (PySem.W.fnOf "computed_value" "computed_value" (defArgs s_computed_value) (defBody s_computed_value) (defScope s_computed_value) .none kV doc pm an (.ref ca) ct)) : FnOk P w K mg base (L2N.CX P w) 10 f fd ["self", "name", "size"] (spPEv T K C CU CS) := by
  have G_Program_check_name : FnOk P w K mg base (L2N.CX P w) 3 g1 h1 ["self", "name"] (spPChk K C CU) := ok_Program_check_name d_Program_check_name.F T_Program FL nL
  have G_Program_names_up_to : FnOk P w K mg base CX0 2 g3 h3 ["self", "name"] (spPUp K C) := ok_Program_names_up_to d_Program_names_up_to.F T_Program B d_Program_names
  refine Fun.okN F sc_Program_evaluate (fun vs H Q E h => ?_) (fun cdv A outer s H vs Q E hr h => ?_)
  · obtain ⟨_, _, _, _, _, _, rfl, _⟩ := h
    rfl
  obtain ⟨O, x, ds, m, sz, vl, rfl, hT, hA, hn, hB, hS2, hV, hk⟩ := h
  obtain ⟨dx, t, c, s', d, kvs, hI⟩ := hA.ex
  refine ⟨_, (pss_cons (ps_expr (pe_meth (pv 0) T_Program.cl d_Program_check_name.m G_Program_check_name (hr.mono (by decide)) d_Program_check_name.b .nil passD (pa_cons (pv 1) pa_nil)))
 (pss_cons (ps_set (i := 3) sc_Program_evaluate.nd rfl (Or.inl rfl) (pe_make MKT GIT (hr.mono (by decide)) rfl T_Table.mgC bIT .nil passD (pa_cons (pv 2) pa_nil)))
 (pss_cons (ps_set (i := 4) sc_Program_evaluate.nd rfl (Or.inl rfl) pe_dnewK)
 (pss_cons (ps_for (passes_of rfl) rfl (pi_list (pe_meth (pv 0) T_Program.cl d_Program_names_up_to.m G_Program_names_up_to (hr.mono (by decide)) d_Program_names_up_to.b .nil pass0 (pa_cons (pv 1) pa_nil))) (pg_name (i := 5) sc_Program_evaluate.nd rfl (Or.inl rfl))
  (pss_one (ps_dput (hu_of hr) (pv 4) (pv 5) (pe_call G_computed_value (hr.mono (by decide)) rfl d_computed_value.m d_computed_value.F.kp d_computed_value.b .nil pass0 (pa_cons (pv 3) (pa_cons (pe_dget (hu_of hr) (pe_fld (pv 0) rfl) (pv 5) (fun _ _ => rfl)) (pa_cons (pv 4) pa_nil)))) (by rfl))))
 (pss_one (ps_ret (pe_dget (hu_of hr) (pv 4) (pv 1) (fun _ _ => rfl)))))))), ?_⟩
  have noM : ∀ m : Str, ¬ m = "texts" ∧ ¬ m = "codes" ∧ ¬ m = "sizes" ∧ ¬ m = "depths" → ∀ t c s d, (prf t c s d).lookup m = none := fun m h _ _ _ _ => prf_no _ _ _ _ h.1 h.2.1 h.2.2.1 h.2.2.2
  refine ⟨_, rfl, x, dx, _, rfl, hI.hx, noM "check_name" (by decide +kernel) _ _ _ _, _, rfl, O, x, ds, m, rfl, hA, hn, hB, fun z hz H1 s1 => ?_⟩
  have A1 := hA.same s1
  refine ⟨_, rfl, fun xt dxt nxt ndxt next => ?_⟩
  have sx : Same H1 (upd (upd H1 dxt (.own xt)) xt (.ins C_Table dxt [])) := (Same.new ndxt (.own xt)).trans (Same.new (by rw [upd_ne next.symm]; exact nxt) _)
  refine ⟨H1, xt, dxt, sz, rfl, sx, nxt, upd_same, fun n en hn9 H2 s2 t2 => ?_, fun bad => hS2 z hz bad _ (s1.trans sx)⟩
  have VA := hV n en hn9
  have s12 := s1.trans s2
  refine ⟨rfl, fun kd nkd => ?_⟩
  have s3 := Same.new nkd (.dK [])
  have s123 := s12.trans s3
  have nkk : H kd = none := s12.free nkd
  obtain ⟨hzm, en2⟩ := lk_mem hz
  obtain ⟨i, hi⟩ := List.getElem?_of_mem hzm
  have t3 := t2.same s3
  have tk3 : (upd H2 kd (.dK [])) kd = some (.dK []) := upd_same
  generalize (upd H2 kd (.dK [])) = H3 at *
  refine ⟨_, rfl, x, dx, _, rfl, s123 _ _ hI.hx, noM "names_up_to" (by decide +kernel) _ _ _ _, _, rfl, O, x, ds, i, z, (by rw [en2]; rfl), hA.same s123, VA.uniq, hi, fun l H4 s4 nl hl => ?_⟩
  have hil := (List.getElem?_eq_some_iff.mp hi).1
  have hdl := hA.len
  have s1234 := s123.trans s4
  have T4 := tabs_same s1234 hT
  have t4 := t3.same s4
  have k4 := s4 _ _ tk3
  refine ⟨l, rfl, ⟨_, SqL.here hl⟩, for_list (K := K) (a := l) (xs := ((ds.take (i + 1)).map fun e => e.df.nm).map nmV) (fun k σ G => ∃ (x5 : Option V) (kvs' : List (L2.Key × V)), σ = [some (.ref x), some (nmV m), some (.int sz), some (.ref xt), some (.ref kd), x5] ∧ LamX.ExtN H G ∧ LamX.Tabs T G ∧ TabA G C_Table xt n ∧ G l = some (.lst (((ds.take (i + 1)).map fun e => e.df.nm).map nmV)) ∧ G kd = some (.dK kvs') ∧ kvs'.length ≤ k ∧ ∀ m b, knV ds (vl n) k m = some b → valV kvs' (nmK m) = some (.int (b : Int)) ∧ 1 ≤ b ∧ b ≤ 2 ^ n) ⟨none, [], rfl, LamX.ExtN.of s1234, T4, t4, hl, k4, Nat.zero_le _, fun m b hm => ?_⟩ (fun k σ G _ ⟨_, _, _, _, _, _, e, _⟩ => SqL.here e) ?_ ?_⟩
  · unfold knV at hm
    rw [if_neg (fun h => nomatch h)] at hm
    cases hm
  · rintro k y σ G hy ⟨x5, kvs', rfl, eG, tG, tA, lG, kG, kl, hkn⟩
    rw [List.map_map, List.getElem?_map] at hy
    obtain ⟨zk, hzk, rfl⟩ := Option.map_eq_some_iff.mp hy
    have hki : k < i + 1 := by
      have := (List.getElem?_eq_some_iff.mp hzk).1
      rw [List.length_take] at this
      omega
    have hzk : ds[k]? = some zk := by
      rw [List.getElem?_take, if_pos hki] at hzk
      exact hzk
    have hlk := lk_at2 VA.uniq hzk
    obtain ⟨hpw, hss, hev⟩ := VA.at_ k zk hzk
    have hnd : ds.take (k + 1) = ds.take k ++ [zk] := by
      obtain ⟨a1, a2⟩ := List.getElem?_eq_some_iff.mp hzk
      rw [List.take_succ_eq_append_getElem a1, a2]
    have hxG := eG _ _ hI.hx (fun _ => nofun)
    have old : ∀ m b, m ≠ zk.df.nm → knV ds (vl n) (k + 1) m = some b → knV ds (vl n) k m = some b := fun m b ne hm => by
      unfold knV at hm ⊢
      rw [hnd, List.map_append] at hm
      by_cases c1 : m ∈ (ds.take k).map (fun e => e.df.nm)
      · rw [if_pos (List.mem_append_left _ c1)] at hm
        rw [if_pos c1]
        exact hm
      · rw [if_neg (fun h => ?_)] at hm
        · cases hm
        · rcases List.mem_append.mp h with h1 | h1
          · exact c1 h1
          · exact ne (List.mem_singleton.mp h1)
    obtain ⟨lc, uc, c1, ⟨c2, _⟩, c3, c4⟩ := hI.cd.at zk hlk
    have gc : DGet G c (nmV zk.df.nm) (some (.ref lc)) := by
      have q := DGet.k (k := nmK zk.df.nm) (eG _ _ hI.hc (fun _ => nofun))
      rw [c1] at q
      exact q
    refine ⟨_, rfl, _, rfl, x, C, dx, _, _, rfl, hxG, T_Program.cl, T_Program.n2, prf_c _ _ _ _, _, rfl, c, _, rfl, gc, _, rfl, xt, lc, kd, n, uc, zk.df.ss, kvs', knV ds (vl n) k, vl n zk.df.nm, rfl, tG, tA, hn9, eG _ _ c3 (fun _ => nofun), c4.tp (Tp.extN eG), hpw, kG, hkn, hev _ (fun m hm => ?_), hss, fun H5 e5 t5 b1 b2 => ?_⟩
    · unfold knV
      obtain ⟨e, he, ee⟩ := hm
      exact if_pos (List.mem_map.mpr ⟨e, he, ee⟩)
    · have k5 := e5 _ _ kG (fun _ => nofun)
      have l5 := e5 _ _ lG (fun _ => nofun)
      have nlk : l ≠ kd := fun e => by
        rw [e, k5] at l5
        cases l5
      have tA5 := tA.extM (ExtM.ofN e5)
      refine ⟨_, rfl, _, rfl, kd, _, rfl, .inl ⟨kvs', nmK zk.df.nm, k5, rfl, small1000 (by omega), rfl⟩, ?_⟩
      refine ⟨_, _, rfl, fun b o eb nt => ?_, tabs_setD t5 k5 But.set, ?_, by rw [upd_ne nlk]; exact l5, upd_same, ?_, fun m b hm => ?_⟩
      · rw [upd_ne (ne_of_none eb nkk)]
        exact e5 _ _ (eG _ _ eb nt) nt
      · obtain ⟨dx2, ra2, as2, hx2, R2⟩ := tA5
        have ne : ∀ b o, H5 b = some o → (∀ kvs, o ≠ .dK kvs) → b ≠ kd := fun b o e nd z => by
          rw [z, k5] at e
          cases e
          exact nd _ rfl
        refine ⟨dx2, ra2, as2, by rw [upd_ne (ne _ _ hx2 (fun _ => nofun))]; exact hx2, by rw [upd_ne (ne _ _ R2.l (fun _ => nofun))]; exact R2.l, R2.n, fun i a h1 h2 => ?_⟩
        have w := R2.r i a h1 h2
        rw [upd_ne (ne _ _ w (fun _ => nofun))]
        exact w
      · have := length_putK kvs' (nmK zk.df.nm) (.int ((vl n zk.df.nm : Nat) : Int))
        omega
      · rw [valV_put]
        by_cases em : m = zk.df.nm
        · rw [if_pos (by rw [em])]
          unfold knV at hm
          rw [if_pos (by rw [hnd, List.map_append, em]; exact List.mem_append_right _ (List.mem_singleton.mpr rfl))] at hm
          cases hm
          rw [em]
          exact ⟨rfl, b1, b2⟩
        · rw [if_neg (fun h => em (nmK_inj h))]
          exact hkn m b (old m b em hm)
  · rintro σ G ⟨x5, kvs', rfl, eG, tG, tA, lG, kG, kl, hkn⟩
    have el : (((ds.take (i + 1)).map fun e => e.df.nm).map nmV).length = i + 1 := by
      rw [List.length_map, List.length_map, List.length_take]
      omega
    rw [el] at hkn
    have hin : z ∈ ds.take (i + 1) := List.mem_of_getElem? (i := i) (by rw [List.getElem?_take, if_pos (Nat.lt_succ_self i)]; exact hi)
    obtain ⟨b1, b2, b3⟩ := hkn m (vl n m) (if_pos (List.mem_map.mpr ⟨z, hin, en2⟩))
    have hg : DGet G kd (nmV m) (some (.int ((vl n m : Nat) : Int))) := by
      have q := DGet.k (k := nmK m) kG
      rw [b1] at q
      exact q
    exact ⟨_, rfl, _, rfl, kd, _, rfl, hg, hk z hz n en hn9 b2 b3 G eG tG⟩

abbrev s_law : Stmt := top 54
theorem sc_law : FnScope ["_law_script", "_law_rng", "_law_turn", "_law_rows", "_law_grown_one", "_law_beside", "_law_k", "_law_ahead", "_law_whole", "_law_name_here", "_law_told"] ["_law_script"] (defScope s_law) := ⟨rfl, rfl, rfl, by decide +kernel, rfl, by decide +kernel, by decide +kernel⟩
/-- tables at places of their own -/
theorem uniq_of {T : List (Addr × Str)} (h : T.Pairwise fun a b => a.1 ≠ b.1) {A : Addr} {a : Str} (hm : (A, a) ∈ T) : ∀ p ∈ T, p.1 = A → p.2 = a := by
  induction h with
  | nil => exact nomatch hm
  | @cons z T h1 _ ih =>
    intro p hp e
    rcases List.mem_cons.mp hm with rfl | hm2
    · rcases List.mem_cons.mp hp with rfl | hp
      · rfl
      · exact absurd e.symm (h1 p hp)
    · rcases List.mem_cons.mp hp with rfl | hp
      · exact absurd e (show ¬ p.1 = A from h1 (A, a) hm2)
      · exact ih hm2 p hp e
theorem RowsOk.nma {kn : List (List Nat)} {rs : List Row} (h : RowsOk kn rs) : ∀ r ∈ rs, NmA r.nm := by
  induction h with
  | nil => exact fun r hr => nomatch hr
  | cons a b c d e f _ ih =>
    intro r hr
    rcases List.mem_cons.mp hr with rfl | hr
    · exact a
    · exact ih r hr
theorem init_lawS {T : List (Addr × Str)} {K : PySem.W.Frag} {C : Addr} {H : Hp} {x dx : Addr} {z : Str} {cs : List Nat} {dfs : List Df} {res : List PD} {Q : VK} {E : XK} (hz : z = sL cs) (tab : LamX.Tabs T H) (nx : H x = none) (ndx : H dx = none) (nex : dx ≠ x) (hl : cs.length ≤ 10000) (hS : SrcT cs dfs) (hI : Inc [] dfs res) (hn : dfs.length ≤ 30)
    (q : ∀ H', LamX.ExtN H H' → LamX.Tabs T H' → PrA K (fun b => H b = none) H' C x res → Q .non H') : spPInit T K C [.ref x, .str z] (upd (upd H dx (.own x)) x (.ins C dx [])) Q E := by
  rw [hz]
  exact init_law tab nx ndx nex hl hS hI hn q
theorem lk_neg {rs : List Row} (hA : ∀ r ∈ rs, NmA r.nm) {n : List Nat} (h : ∀ c t, n = c :: t → c ≠ 65 ∧ c ≠ 66 ∧ c ≠ 90) : lkD (rowsD [] rs) n = none := by
  refine lk_none ?_
  rw [rowsD_nm]
  intro hm
  obtain ⟨r, hr, e⟩ := List.mem_map.mp hm
  obtain ⟨c, ds, en, hc, _⟩ := hA r hr
  have := h c ds (e.symm.trans en)
  omega
theorem prg_initT {T : List (Addr × Str)} {C_Reader C_Program fR fI ca cb Pa Pb fs fh g1 g2 g3 g4 : Addr} {fdR fdI h1 h2 h3 h4 : FuncData} {r1 r2 r3 r4 r5 r6 r7 r8 r9 r10 : Addr} {q1 q2 q3 q4 q5 q6 q7 q8 q9 q10 : FuncData} {oca kVa doca pma cta ocb kVb docb pmb ctb : Value} {oda ana odb anb : Option Addr} {osla oslb : Array (Option Value)}
    (B : Blt mg) (CR : CstR mg) (T_Reader : RdT K mg C_Reader) (MR : L2.Mk K C_Reader fR) (FR : Fun K "__init__" "Reader.__init__" s_Reader___init__ fR fdR) (bR : Binds K fdR ["self", "text"] [])
    (d_Reader_at_end : Mt K C_Reader "at_end" "Reader.at_end" s_Reader_at_end ["self"] r1 q1) (d_Reader_sees : Mt K C_Reader "sees" "Reader.sees" s_Reader_sees ["self", "signs"] r2 q2) (d_Reader_take : Mt K C_Reader "take" "Reader.take" s_Reader_take ["self", "signs"] r3 q3) (d_Reader_take_digits : Mt K C_Reader "take_digits" "Reader.take_digits" s_Reader_take_digits ["self", "most"] r4 q4) (d_Reader_take_name : Mt K C_Reader "take_name" "Reader.take_name" s_Reader_take_name ["self"] r5 q5) (d_Reader_take_powers : Mt K C_Reader "take_powers" "Reader.take_powers" s_Reader_take_powers ["self"] r6 q6) (d_Reader_take_atom : Mt K C_Reader "take_atom" "Reader.take_atom" s_Reader_take_atom ["self"] r7 q7) (d_Reader_take_expression : Mt K C_Reader "take_expression" "Reader.take_expression" s_Reader_take_expression ["self"] r8 q8) (d_Reader_take_definition : Mt K C_Reader "take_definition" "Reader.take_definition" s_Reader_take_definition ["self"] r9 q9) (d_Reader_finish : Mt K C_Reader "finish" "Reader.finish" s_Reader_finish ["self"] r10 q10)
    (T_Program : PrT K mg C_Program) (FI : FunD K "__init__" "Program.__init__" (defArgs s_Program___init__) (defBody s_Program___init__) (defScope s_Program___init__) [.str ""] [] fI fdI) (d_Program_include : Mt K C_Program "include" "Program.include" s_Program_include ["self", "definitions"] g4 h4)
    (d_read_source : D K mg "read_source" s_read_source ["text"] g1 h1) (d_check_names : D K mg "check_names" s_check_names ["known", "definitions"] g2 h2) (d_computed : D K mg "computed" s_computed ["steps", "known", "generator", "join", "power"] g3 h3)
    (lka : K.lookup fs = some ⟨oca, oda, .func (PySem.W.fnOf "computed_size" "computed_size" (defArgs s_computed_size) (defBody s_computed_size) (defScope s_computed_size) .none kVa doca pma ana (.ref ca) cta), osla⟩) (hcda : PySem.W.codeIn K (.ref ca) "computed_size" = true) (TBa : LamX.TabB base mg ca Pa)
    (lkb : K.lookup fh = some ⟨ocb, odb, .func (PySem.W.fnOf "computed_depth" "computed_depth" (defArgs s_computed_depth) (defBody s_computed_depth) (defScope s_computed_depth) .none kVb docb pmb anb (.ref cb) ctb), oslb⟩) (hcdb : PySem.W.codeIn K (.ref cb) "computed_depth" = true) (TBb : LamX.TabB base mg cb Pb) (hm1 : (Pa, szQ) ∈ T) (hu1 : ∀ p ∈ T, p.1 = Pa → p.2 = szQ) (hm2 : (Pb, dpQ) ∈ T) (hu2 : ∀ p ∈ T, p.1 = Pb → p.2 = dpQ)
    (d_computed_size : D K mg "computed_size" s_computed_size ["steps", "sizes"] fs (PySem.W.fnOf "computed_size" "computed_size" (defArgs s_computed_size) (defBody s_computed_size) (defScope s_computed_size) .none kVa doca pma ana (.ref ca) cta))
    (d_computed_depth : D K mg "computed_depth" s_computed_depth ["steps", "depths"] fh (PySem.W.fnOf "computed_depth" "computed_depth" (defArgs s_computed_depth) (defBody s_computed_depth) (defScope s_computed_depth) .none kVb docb pmb anb (.ref cb) ctb)) :
    FnOk P w K mg base CX0 10 fI fdI ["self", "text"] (spPInit T K C_Program) := by
  have G_read_source : FnOk P w K mg base CX0 9 g1 h1 ["text"] (spRS K) := ok_read_source d_read_source T_Reader B CR MR FR bR d_Reader_at_end d_Reader_sees d_Reader_take d_Reader_take_digits d_Reader_take_name d_Reader_take_powers d_Reader_take_atom d_Reader_take_expression d_Reader_take_definition d_Reader_finish
  have G_computed_size : FnOk P w K mg base CX0 3 fs _ ["steps", "sizes"] (spCSz T K 1 sJ sP) := ok_computed_size lka hcda B TBa hm1 hu1 d_computed
  have G_computed_depth : FnOk P w K mg base CX0 3 fh _ ["steps", "depths"] (spCSz T K 0 dJ dP) := ok_computed_depth lkb hcdb B TBb hm2 hu2 d_computed
  have G_include : FnOk P w K mg base CX0 4 g4 h4 ["self", "definitions"] (spPInc T K C_Program) := ok_Program_include d_Program_include.F T_Program B CR d_check_names d_computed_size d_computed_depth G_computed_size G_computed_depth
  exact ok_Program___init__ FI T_Program d_read_source d_Program_include G_read_source G_include
theorem tabs_of {T : List (Addr × Str)} {H : Hp} (h : ∀ P ∈ T.map (·.1), H P = some (.tbl #[])) : LamX.Tabs T H := fun p hp => LamX.TabS.nil (h p.1 (List.mem_map.mpr ⟨p, hp, rfl⟩))
/-- what the law of definitions holds: two programs that share nothing -/
structure Fr62 (T : List (Addr × Str)) (K : PySem.W.Frag) (C r cc l x y : Addr) (us : List V) (rs : List Row) (i j : Nat) (O1 O2 : Addr → Prop) (H : Hp) : Prop where
  R : RngC H r cc
  T : LamX.Tabs T H
  A : PrA K O1 H C x (rowsD [] (rs.take i))
  B : PrA K O2 H C y (rowsD [] (rs.take j))
  D : ∀ b, O1 b → ¬ O2 b
  n1 : ¬ O1 r ∧ ¬ O1 cc ∧ ¬ O1 l
  n2 : ¬ O2 r ∧ ¬ O2 cc ∧ ¬ O2 l
  L : H l = some (.lst us)
  W : RwAll K H us rs
theorem Fr62.ext {T : List (Addr × Str)} {K : PySem.W.Frag} {C r cc l x y : Addr} {us : List V} {rs : List Row} {i j : Nat} {O1 O2 : Addr → Prop} {H H' : Hp} (F : Fr62 T K C r cc l x y us rs i j O1 O2 H) (s : LamX.ExtN H H') (t : LamX.Tabs T H') : Fr62 T K C r cc l x y us rs i j O1 O2 H' :=
  ⟨F.R.extN s, t, F.A.extN s, F.B.extN s, F.D, F.n1, F.n2, s _ _ F.L (fun _ => nofun), F.W.tp (Tp.extN s)⟩
theorem Fr62.same {T : List (Addr × Str)} {K : PySem.W.Frag} {C r cc l x y : Addr} {us : List V} {rs : List Row} {i j : Nat} {O1 O2 : Addr → Prop} {H H' : Hp} (F : Fr62 T K C r cc l x y us rs i j O1 O2 H) (s : Same H H') : Fr62 T K C r cc l x y us rs i j O1 O2 H' := F.ext (LamX.ExtN.of s) (tabs_same s F.T)
theorem Fr62.swap {T : List (Addr × Str)} {K : PySem.W.Frag} {C r cc l x y : Addr} {us : List V} {rs : List Row} {i j : Nat} {O1 O2 : Addr → Prop} {H : Hp} (F : Fr62 T K C r cc l x y us rs i j O1 O2 H) : Fr62 T K C r cc l y x us rs j i O2 O1 H :=
  ⟨F.R, F.T, F.B, F.A, (fun b h1 h2 => F.D b h2 h1), F.n2, F.n1, F.L, F.W⟩
/-- only what is there -/
theorem Fr62.there {T : List (Addr × Str)} {K : PySem.W.Frag} {C r cc l x y : Addr} {us : List V} {rs : List Row} {i j : Nat} {O1 O2 : Addr → Prop} {H : Hp} (F : Fr62 T K C r cc l x y us rs i j O1 O2 H) : Fr62 T K C r cc l x y us rs i j (fun b => O1 b ∧ H b ≠ none) (fun b => O2 b ∧ H b ≠ none) H :=
  ⟨F.R, F.T, F.A.there, F.B.there, (fun b h1 h2 => F.D b h1.1 h2.1), ⟨fun h => F.n1.1 h.1, fun h => F.n1.2.1 h.1, fun h => F.n1.2.2 h.1⟩, ⟨fun h => F.n2.1 h.1, fun h => F.n2.2.1 h.1, fun h => F.n2.2.2 h.1⟩, F.L, F.W⟩
theorem RngC.cell {H : Hp} {r c : Addr} (h : RngC H r c) : ∃ ys, H c = some (.lst ys) := by
  obtain ⟨ns, i, b, s, h1, h2, _⟩ := h
  exact ⟨_, h2⟩
/-- the first program has grown -/
theorem Fr62.grow {T : List (Addr × Str)} {K : PySem.W.Frag} {C r cc l x y : Addr} {us : List V} {rs : List Row} {i i' j : Nat} {O1 O2 : Addr → Prop} {H H' : Hp} (F : Fr62 T K C r cc l x y us rs i j O1 O2 H) (o2 : ∀ b, O2 b → H b ≠ none) (A : PrA K (fun b => O1 b ∨ H b = none) H' C x (rowsD [] (rs.take i'))) (t : LamX.Tabs T H') (f : FrO O1 H H') (tp : Tp H H') : Fr62 T K C r cc l x y us rs i' j (fun b => O1 b ∨ H b = none) O2 H' := by
  have lk : ∀ {b : Addr} {ys : List V}, H b = some (.lst ys) → ¬ O1 b → H' b = some (.lst ys) := fun e n => f _ _ n e (fun _ => nofun)
  obtain ⟨yr, hr⟩ := F.R.lst
  obtain ⟨yc, hc⟩ := F.R.cell
  refine ⟨F.R.keep (fun o e => ?_) (fun o e => ?_), t, A, F.B.keep tp (fun _ z => z) (fun b o hb e n => f b o (fun z => F.D b z hb) e n), fun b h1 h2 => ?_, ⟨?_, ?_, ?_⟩, F.n2, lk F.L F.n1.2.2, F.W.tp tp⟩
  · rw [hr] at e
    cases e
    exact lk hr F.n1.1
  · rw [hc] at e
    cases e
    exact lk hc F.n1.2.1
  · rcases h1 with h1 | h1
    · exact F.D b h1 h2
    · exact o2 b h2 h1
  · rintro (h | h)
    · exact F.n1.1 h
    · rw [hr] at h
      cases h
  · rintro (h | h)
    · exact F.n1.2.1 h
    · rw [hc] at h
      cases h
  · rintro (h | h)
    · exact F.n1.2.2 h
    · rw [F.L] at h
      cases h
/-- texts of one list of rows and of another -/
theorem eqv_len {as bs : List (List Nat)} (h : as.length ≠ bs.length) : PyData.eqv (strsD as) (strsD bs) = false := by
  have aux : ∀ (as bs : List (List Nat)), as.length ≠ bs.length → PyData.eqvAll (as.map fun l => PyData.str (sL l)) (bs.map fun l => PyData.str (sL l)) = false := by
    intro as
    induction as with
    | nil =>
      intro bs h
      cases bs with
      | nil => exact absurd rfl h
      | cons b bs => rfl
    | cons a as ih =>
      intro bs h
      cases bs with
      | nil => rfl
      | cons b bs =>
        show (((sL a) == (sL b)) && PyData.eqvAll (as.map fun l => PyData.str (sL l)) (bs.map fun l => PyData.str (sL l))) = false
        rw [ih bs (fun z => h (by rw [List.length_cons, List.length_cons, z])), Bool.and_false]
  exact aux as bs h
theorem cut_one {xs : List V} {k : Nat} (h : k < xs.length) : cutV xs (some (k : Int)) (some ((k : Int) + 1)) = (xs.drop k).take 1 := by
  unfold cutV
  rw [show HT.sIx xs.length 0 (some (k : Int)) = min k xs.length from HT.sIx_nat _ _ k, show ((k : Int) + 1) = ((k + 1 : Nat) : Int) from rfl, show HT.sIx xs.length xs.length (some ((k + 1 : Nat) : Int)) = min (k + 1) xs.length from HT.sIx_nat _ _ (k + 1)]
  rw [Nat.min_eq_left (Nat.le_of_lt h), Nat.min_eq_left h, show k + 1 - k = 1 by omega]
theorem cut_takeL {xs : List V} (n : Nat) : cutV xs none (some (n : Int)) = xs.take n := by
  unfold cutV
  rw [HT.sIx_none, show HT.sIx xs.length xs.length (some (n : Int)) = min n xs.length from HT.sIx_nat _ _ n]
  rw [List.drop_zero, Nat.sub_zero]
  rcases Nat.le_total n xs.length with h | h
  · rw [Nat.min_eq_left h]
  · rw [Nat.min_eq_right h, List.take_of_length_le (Nat.le_refl _), List.take_of_length_le h]
theorem ok_law {C_Reader C_Program fR fI ca0 Pa0 fs0 ca1 Pa1 fs1 ca2 Pa2 fs2 ca3 Pa3 fs3 u0 u1 u2 u3 u4 u5 u6 u7 u8 u9 C_Table fIT tw0 tw1 CU CS CE fU : Addr} {fdR fdI v0 v1 v2 v3 v4 v5 v6 v7 v8 v9 fdIT tz0 tz1 fdU : FuncData} {r1 r2 r3 r4 r5 r6 r7 r8 r9 r10 : Addr} {q1 q2 q3 q4 q5 q6 q7 q8 q9 q10 : FuncData} {oc0 kV0 doc0 pm0 ct0 oc1 kV1 doc1 pm1 ct1 oc2 kV2 doc2 pm2 ct2 oc3 kV3 doc3 pm3 ct3 : Value} {od0 an0 od1 an1 od2 an2 od3 an3 : Option Addr} {osl0 osl1 osl2 osl3 : Array (Option Value)} {tk : Tok} {g0 g1 g2 g3 g4 g5 g6 g7 g8 g9 g10 g11 g12 g13 g14 g15 : Addr} {h0 h1 h2 h3 h4 h5 h6 h7 h8 h9 h10 h11 h12 h13 h14 h15 : FuncData}
    (d : D K mg "law" s_law ["_law_script"] f fd) (B : Blt mg) (MT : mg "MAX_TABLE" = some (.int 9 tk)) (ES : ErrC K mg "InvalidSize" CS) (EE : ErrC K mg "InvalidElement" CE)
    (FLU : FunS P K mg "UnknownName" "UnknownName.__init__" s_UNInit ["self", "name"] CU fU fdU) (nLU : PySem.W.findIn K (.ref CU) "name" = some none)
    (CR : CstR mg) (T_Reader : RdT K mg C_Reader) (MR : L2.Mk K C_Reader fR) (FR : Fun K "__init__" "Reader.__init__" s_Reader___init__ fR fdR) (bR : Binds K fdR ["self", "text"] [])
    (d_Reader_at_end : Mt K C_Reader "at_end" "Reader.at_end" s_Reader_at_end ["self"] r1 q1) (d_Reader_sees : Mt K C_Reader "sees" "Reader.sees" s_Reader_sees ["self", "signs"] r2 q2) (d_Reader_take : Mt K C_Reader "take" "Reader.take" s_Reader_take ["self", "signs"] r3 q3) (d_Reader_take_digits : Mt K C_Reader "take_digits" "Reader.take_digits" s_Reader_take_digits ["self", "most"] r4 q4) (d_Reader_take_name : Mt K C_Reader "take_name" "Reader.take_name" s_Reader_take_name ["self"] r5 q5) (d_Reader_take_powers : Mt K C_Reader "take_powers" "Reader.take_powers" s_Reader_take_powers ["self"] r6 q6) (d_Reader_take_atom : Mt K C_Reader "take_atom" "Reader.take_atom" s_Reader_take_atom ["self"] r7 q7) (d_Reader_take_expression : Mt K C_Reader "take_expression" "Reader.take_expression" s_Reader_take_expression ["self"] r8 q8) (d_Reader_take_definition : Mt K C_Reader "take_definition" "Reader.take_definition" s_Reader_take_definition ["self"] r9 q9) (d_Reader_finish : Mt K C_Reader "finish" "Reader.finish" s_Reader_finish ["self"] r10 q10)
    (T_Program : PrT K mg C_Program) (MKP : L2.Mk K C_Program fI) (FI : FunD K "__init__" "Program.__init__" (defArgs s_Program___init__) (defBody s_Program___init__) (defScope s_Program___init__) [.str ""] [] fI fdI)
    (d_Program_include : Mt K C_Program "include" "Program.include" s_Program_include ["self", "definitions"] u0 v0) (d_Program_names : Mt K C_Program "names" "Program.names" s_Program_names ["self"] u1 v1) (d_Program_source : Mt K C_Program "source" "Program.source" s_Program_source ["self"] u2 v2) (hsL : PySem.W.findIn K (.ref C_Program) "__len__" = some (some (.ref u3))) (hfL : PySem.W.isFn K (.ref u3) = true) (FL : Fun K "__len__" "Program.__len__" s_Program___len__ u3 v3) (bL : Binds K v3 ["self"] []) (FQ : Fun K "__eq__" "Program.__eq__" s_Program___eq__ u4 v4) (bQ : Binds K v4 ["self", "other"] []) (TE : PrE K C_Program u4) (d_Program_check_name : Mt K C_Program "check_name" "Program.check_name" s_Program_check_name ["self", "name"] u5 v5) (d_Program_size_of : Mt K C_Program "size_of" "Program.size_of" s_Program_size_of ["self", "name"] u6 v6) (d_Program_names_up_to : Mt K C_Program "names_up_to" "Program.names_up_to" s_Program_names_up_to ["self", "name"] u7 v7) (d_Program_add_definition : Mt K C_Program "add_definition" "Program.add_definition" s_Program_add_definition ["self", "text"] u8 v8) (DEV : DEv K u9 v9) (mEv : Meth K C_Program "evaluate" u9) 
    (T_Table : TabT K mg C_Table) (MKT : L2.Mk K C_Table fIT) (FIT : Fun K "__init__" "Table.__init__" s_TInit fIT fdIT) (bIT : Binds K fdIT ["self", "size"] []) (FTC : Fun K "check_element" "Table.check_element" s_TChk tw0 tz0) (bTC : Binds K tz0 ["self", "element"] []) (mTC : Meth K C_Table "check_element" tw0) (FTA : Fun K "apply" "Table.apply" s_TApp tw1 tz1) (bTA : Binds K tz1 ["self", "one", "other"] []) (mTA : Meth K C_Table "apply" tw1)
    (lk0 : K.lookup fs0 = some ⟨oc0, od0, .func (PySem.W.fnOf "computed_size" "computed_size" (defArgs s_computed_size) (defBody s_computed_size) (defScope s_computed_size) .none kV0 doc0 pm0 an0 (.ref ca0) ct0), osl0⟩) (hcd0 : PySem.W.codeIn K (.ref ca0) "computed_size" = true) (TB0 : LamX.TabB base mg ca0 Pa0) (d_computed_size : D K mg "computed_size" s_computed_size ["steps", "sizes"] fs0 (PySem.W.fnOf "computed_size" "computed_size" (defArgs s_computed_size) (defBody s_computed_size) (defScope s_computed_size) .none kV0 doc0 pm0 an0 (.ref ca0) ct0))
    (lk1 : K.lookup fs1 = some ⟨oc1, od1, .func (PySem.W.fnOf "computed_depth" "computed_depth" (defArgs s_computed_depth) (defBody s_computed_depth) (defScope s_computed_depth) .none kV1 doc1 pm1 an1 (.ref ca1) ct1), osl1⟩) (hcd1 : PySem.W.codeIn K (.ref ca1) "computed_depth" = true) (TB1 : LamX.TabB base mg ca1 Pa1) (d_computed_depth : D K mg "computed_depth" s_computed_depth ["steps", "depths"] fs1 (PySem.W.fnOf "computed_depth" "computed_depth" (defArgs s_computed_depth) (defBody s_computed_depth) (defScope s_computed_depth) .none kV1 doc1 pm1 an1 (.ref ca1) ct1))
    (lk2 : K.lookup fs2 = some ⟨oc2, od2, .func (PySem.W.fnOf "computed_value" "computed_value" (defArgs s_computed_value) (defBody s_computed_value) (defScope s_computed_value) .none kV2 doc2 pm2 an2 (.ref ca2) ct2), osl2⟩) (hcd2 : PySem.W.codeIn K (.ref ca2) "computed_value" = true) (TB2 : LamX.TabB base mg ca2 Pa2) (d_computed_value : D K mg "computed_value" s_computed_value ["table", "steps", "known"] fs2 (PySem.W.fnOf "computed_value" "computed_value" (defArgs s_computed_value) (defBody s_computed_value) (defScope s_computed_value) .none kV2 doc2 pm2 an2 (.ref ca2) ct2))
    (lk3 : K.lookup fs3 = some ⟨oc3, od3, .func (PySem.W.fnOf "power_value" "power_value" (defArgs s_power_value) (defBody s_power_value) (defScope s_power_value) .none kV3 doc3 pm3 an3 (.ref ca3) ct3), osl3⟩) (hcd3 : PySem.W.codeIn K (.ref ca3) "power_value" = true) (TB3 : LamX.TabB base mg ca3 Pa3) (d_power_value : D K mg "power_value" s_power_value ["table", "sign", "base", "number"] fs3 (PySem.W.fnOf "power_value" "power_value" (defArgs s_power_value) (defBody s_power_value) (defScope s_power_value) .none kV3 doc3 pm3 an3 (.ref ca3) ct3))
    (hpw : [(Pa0, szQ), (Pa1, dpQ), (Pa2, cvQ), (Pa3, pvQ)].Pairwise (fun a b : Addr × Str => a.1 ≠ b.1))
    (d_read_source : D K mg "read_source" s_read_source ["text"] g0 h0) (d_read_definition : D K mg "read_definition" s_read_definition ["text"] g1 h1) (d_check_names : D K mg "check_names" s_check_names ["known", "definitions"] g2 h2) (d_computed : D K mg "computed" s_computed ["steps", "known", "generator", "join", "power"] g3 h3) (d_repeated : D K mg "repeated" s_repeated ["step", "start", "times"] g4 h4) (d_entry : D K mg "entry" s_entry ["row", "element"] g5 h5) (d_rows_to_periods : D K mg "rows_to_periods" s_rows_to_periods ["last"] g6 h6) (d__law_draws : D K mg "_law_draws" s__law_draws ["_law_script"] g7 h7) (d__law_draw : D K mg "_law_draw" s__law_draw ["_law_rng", "_law_amount"] g8 h8) (d__law_pick : D K mg "_law_pick" s__law_pick ["_law_rng", "_law_terms"] g9 h9) (d__law_name : D K mg "_law_name" s__law_name ["_law_rng"] g10 h10) (d__law_number : D K mg "_law_number" s__law_number ["_law_rng"] g11 h11) (d__law_expression : D K mg "_law_expression" s__law_expression ["_law_rng", "_law_names", "_law_deep", "_law_small"] g12 h12) (d__law_expression_text : D K mg "_law_expression_text" s__law_expression_text ["_law_told"] g13 h13) (d__law_definitions : D K mg "_law_definitions" s__law_definitions ["_law_rng", "_law_many", "_law_small"] g14 h14) (d__law_source_text : D K mg "_law_source_text" s__law_source_text ["_law_rows"] g15 h15) :
    FnOk P w K mg base CX0 64 f fd ["_law_script"] (spLawTs K [Pa0, Pa1, Pa2, Pa3]) := by
  have hm_szQ : (Pa0, szQ) ∈ [(Pa0, szQ), (Pa1, dpQ), (Pa2, cvQ), (Pa3, pvQ)] := List.mem_cons_self
  have hu_szQ := uniq_of hpw hm_szQ
  have hm_dpQ : (Pa1, dpQ) ∈ [(Pa0, szQ), (Pa1, dpQ), (Pa2, cvQ), (Pa3, pvQ)] := (List.mem_cons_of_mem _ List.mem_cons_self)
  have hu_dpQ := uniq_of hpw hm_dpQ
  have hm_cvQ : (Pa2, cvQ) ∈ [(Pa0, szQ), (Pa1, dpQ), (Pa2, cvQ), (Pa3, pvQ)] := (List.mem_cons_of_mem _ (List.mem_cons_of_mem _ List.mem_cons_self))
  have hu_cvQ := uniq_of hpw hm_cvQ
  have hm_pvQ : (Pa3, pvQ) ∈ [(Pa0, szQ), (Pa1, dpQ), (Pa2, cvQ), (Pa3, pvQ)] := (List.mem_cons_of_mem _ (List.mem_cons_of_mem _ (List.mem_cons_of_mem _ List.mem_cons_self)))
  have hu_pvQ := uniq_of hpw hm_pvQ
  have GI : FnOk P w K mg base CX0 10 fI fdI ["self", "text"] (spPInit [(Pa0, szQ), (Pa1, dpQ), (Pa2, cvQ), (Pa3, pvQ)] K C_Program) := prg_initT B CR T_Reader MR FR bR d_Reader_at_end d_Reader_sees d_Reader_take d_Reader_take_digits d_Reader_take_name d_Reader_take_powers d_Reader_take_atom d_Reader_take_expression d_Reader_take_definition d_Reader_finish T_Program FI d_Program_include d_read_source d_check_names d_computed lk0 hcd0 TB0 lk1 hcd1 TB1 hm_szQ hu_szQ hm_dpQ hu_dpQ d_computed_size d_computed_depth
  obtain ⟨ds1, w1, bI1⟩ := FI.binds1 (ps := ["self", "text"]) 2 1 (fun z => nomatch z) rfl (fun T kV doc pm an cdv ct us its hl hi => by
    match us, its, hl, hi with
    | [_, _], [_], _, _ => exact ⟨_, rfl, rfl⟩)
  obtain ⟨ds0, w0, bI0⟩ := FI.binds1 (ps := ["self", "text"]) 1 0 (fun z => nomatch z) rfl (fun T kV doc pm an cdv ct us its hl hi => by
    match us, its, hl, hi with
    | [_], [_], _, _ => exact ⟨_, rfl, rfl⟩)
  have GIT : FnOk P w K mg base (L2N.CX P w) 4 fIT fdIT ["self", "size"] (spTInit C_Table CS) := ok_TInit FIT T_Table B ES MT d_rows_to_periods d_entry
  have GAT : FnOk P w K mg base (L2N.CX P w) 3 tw1 tz1 ["self", "one", "other"] (spTApp C_Table CE) := ok_TApp FTA T_Table B EE FTC bTC mTC d_entry
  have G_computed_value : FnOk P w K mg base CX0 9 fs2 _ ["table", "steps", "known"] (spCVal [(Pa0, szQ), (Pa1, dpQ), (Pa2, cvQ), (Pa3, pvQ)] K C_Table) := ok_computed_value lk2 hcd2 B TB2 hm_cvQ hu_cvQ lk3 hcd3 TB3 hm_pvQ hu_pvQ d_power_value d_repeated d_computed T_Table mTA GAT bTA
  have GEv : FnOk P w K mg base (L2N.CX P w) 10 u9 v9 ["self", "name", "size"] (spPEv [(Pa0, szQ), (Pa1, dpQ), (Pa2, cvQ), (Pa3, pvQ)] K C_Program CU CS) := ok_Program_evaluate DEV.F T_Program B FLU nLU d_Program_check_name d_Program_names d_Program_names_up_to T_Table MKT GIT bIT G_computed_value d_computed_value
  obtain ⟨dsE, hvEv, hbEv⟩ := DEV.b
  have G_Program_size_of : FnOk P w K mg base (L2N.CX P w) 4 u6 v6 ["self", "name"] (spPGet K C_Program CU PD.sz) := ok_Program_size_of d_Program_size_of.F T_Program FLU nLU d_Program_check_name
  have G_Program_source : FnOk P w K mg base CX0 1 u2 v2 ["self"] (spPSrc K C_Program) := ok_Program_source d_Program_source.F T_Program
  have GL : FnOk P w K mg base CX0 1 u3 v3 ["self"] (spPLen K C_Program) := ok_Program___len__ FL T_Program B
  have GQ : FnOk P w K mg base CX0 1 u4 v4 ["self", "other"] (spPEq K C_Program) := ok_Program___eq__ FQ T_Program TE B
  have G_computed_size : FnOk P w K mg base CX0 3 fs0 _ ["steps", "sizes"] (spCSz [(Pa0, szQ), (Pa1, dpQ), (Pa2, cvQ), (Pa3, pvQ)] K 1 sJ sP) := ok_computed_size lk0 hcd0 B TB0 hm_szQ hu_szQ d_computed
  have G_computed_depth : FnOk P w K mg base CX0 3 fs1 _ ["steps", "depths"] (spCSz [(Pa0, szQ), (Pa1, dpQ), (Pa2, cvQ), (Pa3, pvQ)] K 0 dJ dP) := ok_computed_depth lk1 hcd1 B TB1 hm_dpQ hu_dpQ d_computed
  have G_Program_add_definition : FnOk P w K mg base CX0 10 u8 v8 ["self", "text"] (spPAdd [(Pa0, szQ), (Pa1, dpQ), (Pa2, cvQ), (Pa3, pvQ)] K C_Program) := ok_Program_add_definition d_Program_add_definition.F T_Program T_Reader B CR MR FR bR d_Reader_at_end d_Reader_sees d_Reader_take d_Reader_take_digits d_Reader_take_name d_Reader_take_powers d_Reader_take_atom d_Reader_take_expression d_Reader_take_definition d_Reader_finish d_read_definition d_Program_include d_check_names d_computed_size d_computed_depth G_computed_size G_computed_depth
  have G__law_draws : FnOk P w K mg base CX0 1 g7 h7 ["_law_script"] (spDraws K) := ok__law_draws d__law_draws B
  have G__law_draw : FnOk P w K mg base CX0 1 g8 h8 ["_law_rng", "_law_amount"] spDrawC := ok__law_drawC d__law_draw B
  have G__law_definitions : FnOk P w K mg base CX0 14 g14 h14 ["_law_rng", "_law_many", "_law_small"] (spLDf K) := by
    exact (ok__law_definitions d__law_definitions B d__law_draw d__law_pick d__law_name d__law_number d__law_expression d__law_expression_text).mono (by decide)
  have G__law_source_text : FnOk P w K mg base CX0 11 g15 h15 ["_law_rows"] (spLStK K) := ok__law_source_text d__law_source_text B d__law_expression_text
  refine d.F.ok sc_law (fun vs H Q E h => ?_) (fun cdv A outer s H vs Q E hr h => ?_)
  · obtain ⟨_, _, rfl, _⟩ := h
    rfl
  obtain ⟨a, ns, rfl, hS, hP, q⟩ := h
  refine ⟨_, (pss_cons (ps_set (i := 1) sc_law.nd rfl (Or.inl rfl) (pe_call G__law_draws (hr.mono (by decide)) rfl d__law_draws.m d__law_draws.F.kp d__law_draws.b .nil pass0 (pa_cons (pv 0) pa_nil)))
 (pss_cons (ps_for PassesOwn.never rfl (pi_range1 (by rfl) B.range (pa_cons pe_int pa_nil)) (pg_name (i := 2) sc_law.nd rfl (Or.inl rfl))
  (pss_cons (ps_set (i := 3) sc_law.nd rfl (Or.inl rfl) (pe_call G__law_definitions (hr.mono (by decide)) rfl d__law_definitions.m d__law_definitions.F.kp d__law_definitions.b .nil pass0 (pa_cons (pv 1) (pa_cons (pe_op op_add pe_int (pe_call G__law_draw (hr.mono (by decide)) rfl d__law_draw.m d__law_draw.F.kp d__law_draw.b .nil pass0 (pa_cons (pv 1) (pa_cons pe_int pa_nil)))) (pa_cons pe_bl pa_nil)))))
 (pss_cons (ps_par (i := 4) (j := 5) (by rfl) sc_law.nd rfl rfl (by decide) rfl rfl (pa_cons (pe_make0 MKP GI (hr.mono (by decide)) rfl T_Program.mgC bI0 w0 pass0) (pa_cons (pe_make0 MKP GI (hr.mono (by decide)) rfl T_Program.mgC bI0 w0 pass0) pa_nil)) (by rfl))
 (pss_one (ps_for PassesOwn.never rfl (pi_range1 (by rfl) B.range (pa_cons (pe_callB call_len_seq (by rfl) B.len PySem.boot_len (pa_cons (pv 3) pa_nil)) pa_nil)) (pg_name (i := 6) sc_law.nd rfl (Or.inl rfl))
  (pss_cons (ps_set (i := 7) sc_law.nd rfl (Or.inl rfl) (pe_meth0 (pv 5) T_Program.cl d_Program_source.m G_Program_source (hr.mono (by decide)) d_Program_source.b .nil pass0))
 (pss_cons (ps_expr (pe_meth (pv 4) T_Program.cl d_Program_add_definition.m G_Program_add_definition (hr.mono (by decide)) d_Program_add_definition.b .nil pass0 (pa_cons (pe_call G__law_source_text (hr.mono (by decide)) rfl d__law_source_text.m d__law_source_text.F.kp d__law_source_text.b .nil pass0 (pa_cons (pe_slice sl_list (pv 3) (po_some (pv 6)) (po_some (pe_op op_add (pv 6) pe_int))) pa_nil)) pa_nil)))
 (pss_cons (ps_set (i := 8) sc_law.nd rfl (Or.inl rfl) (pe_make MKP GI (hr.mono (by decide)) rfl T_Program.mgC bI1 w1 pass0 (pa_cons (pe_call G__law_source_text (hr.mono (by decide)) rfl d__law_source_text.m d__law_source_text.F.kp d__law_source_text.b .nil pass0 (pa_cons (pe_slice sl_list (pv 3) po_none (po_some (pe_op op_add (pv 6) pe_int))) pa_nil)) pa_nil)))
 (pss_cons (ps_if (PW.pt (pw_or (pt_cmpR (op_neV TE.N GQ (hr.mono (by decide)) bQ pass0) (pv 4) (pv 8) (nomark _)) (pw_or (pt_cmpR op_ne (pe_meth0 (pv 5) T_Program.cl d_Program_source.m G_Program_source (hr.mono (by decide)) d_Program_source.b .nil pass0) (pv 7) (nomark _)) (pw_or1 (pt_cmpR op_ne (pe_callB (call_lenO hsL hfL GL (hr.mono (by decide)) bL pass0) (by rfl) B.len PySem.boot_len (pa_cons (pv 4) pa_nil)) (pe_op op_add (pv 6) pe_int) (nomark _)))))) (pss_one (ps_ret pe_bl)) pss_nil)
 (pss_cons (ps_if (pt_cmpR (op_eqO TE.q TE.f GQ (hr.mono (by decide)) bQ pass0) (pv 4) (pv 5) (nomark _)) (pss_one (ps_ret pe_bl)) pss_nil)
 (pss_cons (ps_for PassesOwn.never rfl (pi_list (pe_slice sl_list (pv 3) po_none (po_some (pe_op op_add (pv 6) pe_int)))) (pg_tup (by rfl) (pgs_cons (pg_name (i := 9) sc_law.nd rfl (Or.inl rfl)) (pgs_cons (pg_name (i := 10) sc_law.nd rfl (Or.inl rfl)) pgs_nil)))
  (pss_cons (ps_if (pt_cmpR op_ne (pe_meth (pv 4) T_Program.cl d_Program_size_of.m G_Program_size_of (hr.mono (by decide)) d_Program_size_of.b .nil passF (pa_cons (pv 9) pa_nil)) (pe_meth (pv 8) T_Program.cl d_Program_size_of.m G_Program_size_of (hr.mono (by decide)) d_Program_size_of.b .nil passF (pa_cons (pv 9) pa_nil)) (nomark _)) (pss_one (ps_ret pe_bl)) pss_nil)
 (pss_one (ps_if (pt_cmpR op_ne (pe_meth (pv 4) T_Program.cl mEv GEv (hr.mono (by decide)) hbEv hvEv passF (pa_cons (pv 9) pa_nil)) (pe_meth (pv 8) T_Program.cl mEv GEv (hr.mono (by decide)) hbEv hvEv passF (pa_cons (pv 9) pa_nil)) (nomark _)) (pss_one (ps_ret pe_bl)) pss_nil))))
 (pss_cons (ps_expr (pe_meth (pv 5) T_Program.cl d_Program_add_definition.m G_Program_add_definition (hr.mono (by decide)) d_Program_add_definition.b .nil pass0 (pa_cons (pe_call G__law_source_text (hr.mono (by decide)) rfl d__law_source_text.m d__law_source_text.F.kp d__law_source_text.b .nil pass0 (pa_cons (pe_slice sl_list (pv 3) (po_some (pv 6)) (po_some (pe_op op_add (pv 6) pe_int))) pa_nil)) pa_nil)))
 (pss_one (ps_if (PW.pt (pw_or (pt_cmpR (op_neV TE.N GQ (hr.mono (by decide)) bQ pass0) (pv 4) (pv 5) (nomark _)) (pw_or1 (pt_not (pt_cmpR (op_eqO TE.q TE.f GQ (hr.mono (by decide)) bQ pass0) (pv 4) (pv 5) (nomark _)))))) (pss_one (ps_ret pe_bl)) pss_nil))))))))))))))
 (pss_one (ps_ret pe_bl)))), ?_⟩
  refine ⟨_, rfl, a, ns, rfl, hS, fun r H1 s1 _ R1 => ?_⟩
  obtain ⟨cc, R1⟩ := R1.toC
  have T1 : LamX.Tabs [(Pa0, szQ), (Pa1, dpQ), (Pa2, cvQ), (Pa3, pvQ)] H1 := tabs_of fun P hP' => s1 _ _ (hP P hP')
  have noM : ∀ m : Str, ¬ m = "texts" ∧ ¬ m = "codes" ∧ ¬ m = "sizes" ∧ ¬ m = "depths" → ∀ t c s d, (prf t c s d).lookup m = none := fun m h _ _ _ _ => prf_no _ _ _ _ h.1 h.2.1 h.2.2.1 h.2.2.2
  have noS := noM "size_of" (by decide +kernel)
  have noE := noM "evaluate" (by decide +kernel)
  have noU := noM "source" (by decide +kernel)
  have noA := noM "add_definition" (by decide +kernel)
  have hE : ("" : Str) = sL [] := by decide +kernel
  refine ⟨2, rfl, by decide, by decide, for_range (lo := 0) (n := 2) (fun i σ G => ∃ (x2 x3 x4 x5 x6 x7 x8 x9 x10 : Option V), σ = [some (.ref a), some (.ref r), x2, x3, x4, x5, x6, x7, x8, x9, x10] ∧ RngC G r cc ∧ LamX.Tabs [(Pa0, szQ), (Pa1, dpQ), (Pa2, cvQ), (Pa3, pvQ)] G) ⟨_, _, _, _, _, _, _, _, _, rfl, R1, T1⟩ ?_ ?_⟩
  · rintro i σ H2 hi ⟨x2, x3, x4, x5, x6, x7, x8, x9, x10, rfl, R2, T2⟩
    refine ⟨_, rfl, _, rfl, r, 6, cc, rfl, R2, by decide, by decide, fun v H3 v0 v1 R3 b3 => ⟨_, _, rfl, rfl, ?_⟩⟩
    obtain ⟨m, rfl⟩ : ∃ n : Nat, v = (n : Int) := ⟨v.toNat, by omega⟩
    refine ⟨r, cc, 1 + m, false, by rw [Int.natCast_add]; rfl, R3, by omega, fun l us rs H4 hok hlen _ hd3 hl hW lr lc nl R4 b4 => ?_⟩
    have hr6 : rs.length ≤ 6 := by omega
    have T4 := R3.tabs b4 (R2.tabs b3 T2)
    clear R2 T2 R3 b3 b4 nl
    refine fun x dx nx ndx nex => init_lawS hE T4 nx ndx nex (Nat.zero_le _) (.nil rfl) .nil (Nat.zero_le _) fun H5 e5 T5 P5 => ⟨rfl, ?_⟩
    refine fun y dy ny ndy ney => init_lawS hE T5 ny ndy ney (Nat.zero_le _) (.nil rfl) .nil (Nat.zero_le _) fun H6 e6 T6 P6 => ⟨rfl, _, _, rfl, ?_⟩
    obtain ⟨yr, hr4⟩ := R4.lst
    obtain ⟨yc, hc4⟩ := R4.cell
    have nn : ∀ {b : Addr} {zs : List V}, H4 b = some (.lst zs) → ¬ (H4 b = none ∧ H5 b ≠ none) ∧ ¬ H5 b = none := fun {b zs} e => ⟨(fun z => by rw [e] at z; cases z.1), (fun z => by rw [e5 _ _ e (fun _ => nofun)] at z; cases z)⟩
    have F6 : Fr62 [(Pa0, szQ), (Pa1, dpQ), (Pa2, cvQ), (Pa3, pvQ)] K C_Program r cc l x y us rs 0 0 (fun b => H4 b = none ∧ H5 b ≠ none) (fun b => H5 b = none) H6 := ⟨(R4.extN e5).extN e6, T6, P5.there.extN e6, P6, (fun b h1 h2 => h1.2 h2), ⟨(nn hr4).1, (nn hc4).1, (nn hl).1⟩, ⟨(nn hr4).2, (nn hc4).2, (nn hl).2⟩, e6 _ _ (e5 _ _ hl (fun _ => nofun)) (fun _ => nofun), (hW.tp (Tp.extN e5)).tp (Tp.extN e6)⟩
    clear R4 T4 hl hW P5 P6 e5 e6 T5 T6 nx ndx ny ndy hr4 hc4 nn
    have hlu := F6.W.len
    have htx : ∀ k, ∀ e ∈ rowsD [] (rs.take k), e.df.tx.length ≤ 10000 := fun k e he => by
      have hm : e.df.tx ∈ (rowsD [] (rs.take k)).map fun e => e.df.tx := List.mem_map.mpr ⟨e, he, rfl⟩
      rw [rowsD_tx] at hm
      obtain ⟨w0, hw, ew⟩ := List.mem_map.mp hm
      have := hok.txl w0 (List.mem_of_mem_take hw)
      rw [← ew]
      omega
    have hvl : ∀ n, ∀ r ∈ rs, rowsVl n (fun _ => 0) rs r.nm = r.e.tv n (rowsVl n (fun _ => 0) rs) := fun n => rowsVl_at hok _
    generalize hvv : (fun n : Nat => rowsVl n (fun _ => 0) rs) = vl at hvl
    have hvl : ∀ n, ∀ r ∈ rs, vl n r.nm = r.e.tv n (vl n) := fun n r hr => by
      rw [← hvv]
      exact rowsVl_at hok _ r hr
    have hVA : ∀ k n, VlA (rowsD [] (rs.take k)) n (vl n) := fun k n => vla_rows (hok.split k).1 [] _ rfl (vla_nil n _) fun r hr => hvl n r (List.mem_of_mem_take hr)
    refine ⟨_, rfl, l, us, rfl, .inl (SqL.here F6.L), _, rfl, by omega, by omega, for_range (lo := 0) (n := ((us.length : Int)).toNat) (fun k σ G => ∃ (x6 x7 x8 x9 x10 : Option V) (O1 O2 : Addr → Prop), σ = [some (.ref a), some (.ref r), some (.int (0 + i)), some (.ref l), some (.ref x), some (.ref y), x6, x7, x8, x9, x10] ∧ Fr62 [(Pa0, szQ), (Pa1, dpQ), (Pa2, cvQ), (Pa3, pvQ)] K C_Program r cc l x y us rs k k O1 O2 G) ⟨_, _, _, _, _, _, _, rfl, F6⟩ ?_ ?_⟩
    · rintro k σ G hk ⟨x6, x7, x8, x9, x10, O1, O2, rfl, F⟩
      have hk1 : k < rs.length := by omega
      rw [show (0 : Int) + (k : Int) = (k : Int) by omega]
      have hasc : ∀ n, ∀ t ∈ ((rs.take n).map Row.txt), Asc t := fun n t ht => by
        obtain ⟨w0, hw, rfl⟩ := List.mem_map.mp ht
        exact Row.asc (hok.ok w0 (List.mem_of_mem_take hw))
      obtain ⟨dy0, ty0, cy0, zy0, wy0, hy0⟩ := F.B.ins
      refine ⟨_, rfl, y, dy0, _, rfl, hy0, noU _ _ _ _, O2, y, _, rfl, F.B, htx k, fun G1 s1 => ?_⟩
      rw [joinT_rows]
      have F1 := (F.same s1).there
      clear F hy0 s1
      obtain ⟨dx1, t1, c1, z1, w1', hx1⟩ := F1.A.ins
      obtain ⟨w0, hw0⟩ : ∃ w0, rs[k]? = some w0 := ⟨_, List.getElem?_eq_getElem hk1⟩
      have hwm := List.mem_of_getElem? hw0
      have edr : rs.drop k = w0 :: rs.drop (k + 1) := by
        rw [List.drop_eq_getElem_cons hk1, (List.getElem?_eq_some_iff.mp hw0).2]
      have etk : rs.take (k + 1) = rs.take k ++ [w0] := by rw [List.take_succ_eq_append_getElem hk1, (List.getElem?_eq_some_iff.mp hw0).2]
      have hRk : RowsOk ((rs.take k).map Row.nm) [w0] := by
        have z := (hok.split k).2
        rw [edr, List.nil_append] at z
        exact z.one
      have hRt : RowsOk [] (rs.take (k + 1)) := (hok.split (k + 1)).1
      have hInc : Inc (rowsD [] (rs.take k)) [w0.df] (rowsD [] (rs.take (k + 1))) := by
        have z := inc_rows hRk (rowsD [] (rs.take k)) (rowsD_nm _)
        rw [etk, rowsD_app]
        exact z
      obtain ⟨dE, hd30, hDef⟩ := def_one (hok.ok w0 hwm)
      have hlen1 : (rowsT [w0]).length ≤ 10000 := Nat.le_trans (rowsT_len hRk.txl) (show 64 * 1 ≤ 10000 by decide)
      have hlk : (rowsD [] (rs.take k)).length + 1 ≤ 30 := by
        rw [rowsD_len, List.length_take]
        omega
      have hcut : ∀ {G' : Hp}, RwAll K G' us rs → RwAll K G' (cutV us (some (k : Int)) (some ((k : Int) + 1))) [w0] := fun W => by
        have z := ((W.cut k).2.cut 1).1
        rw [edr] at z
        rw [cut_one (by omega)]
        exact z
      refine ⟨_, rfl, x, dx1, _, rfl, hx1, noA _ _ _ _, ?_⟩
      refine ⟨_, rfl, _, rfl, _, rfl, _, rfl, _, _, rfl, rfl, _, rfl, l, us, rfl, SqL.here F1.L, fun p np => ?_⟩
      have sp := Same.new np (.lst (cutV us (some (k : Int)) (some ((k : Int) + 1))))
      refine ⟨_, p, _, [w0], rfl, upd_same, hcut (F1.W.tp (Tp.same sp)), hRk, by show 1 ≤ 40; decide, fun G2 s2 => ?_⟩
      have F2 := (F1.same (sp.trans s2)).there
      have nn2 : ∀ b, G1 b ≠ none → G2 b ≠ none := fun b h => by
        cases z : G1 b with
        | none => exact absurd z h
        | some o => rw [(sp.trans s2) _ _ z]; exact fun z => nomatch z
      clear F1 hx1 sp s2 np
      refine ⟨_, x, rowsT [w0], _, _, w0.df, dE, rfl, F2.A, (fun b h => h.2), F2.T, hlen1, hDef, hd30, hInc, hlk, fun G3 P3 T3 f3 tp3 => ?_⟩
      have F3 := (F2.grow (fun b h => h.2) P3 T3 f3 tp3).there
      clear F2 P3 T3 f3 tp3 nn2
      have hcut2 : cutV us none (some ((k : Int) + 1)) = us.take (k + 1) := by
        rw [show ((k : Int) + 1) = ((k + 1 : Nat) : Int) from rfl]
        exact cut_takeL (k + 1)
      refine ⟨_, rfl, _, rfl, _, _, rfl, rfl, _, rfl, l, us, rfl, SqL.here F3.L, fun p np => ?_⟩
      rw [hcut2]
      have sp := Same.new np (.lst (us.take (k + 1)))
      refine ⟨[], p, _, rs.take (k + 1), rfl, upd_same, ((F3.W.tp (Tp.same sp)).cut (k + 1)).1, hRt, by rw [List.length_take]; omega, fun G4 s4 => ?_⟩
      have F4 := F3.same (sp.trans s4)
      clear F3 sp s4 np
      have hlt2 : (rs.take (k + 1)).length ≤ 6 := by rw [List.length_take]; omega
      refine fun w dw nw ndw new => init_law F4.T nw ndw new (Nat.le_trans (rowsT_len hRt.txl) (by omega)) (srcT_rows hRt.ok) (inc_rows hRt [] rfl) (by rw [List.length_map]; omega) fun G5 e5 T5 W5 => ⟨rfl, ?_⟩
      have F5 := F4.ext e5 T5
      clear F4 e5 T5 nw ndw
      obtain ⟨dx5, t5, c5, z5, w5, hx5⟩ := F5.A.ins
      obtain ⟨dw5, tw5, cw5, zw5, ww5, hw5⟩ := W5.ins
      have shx : ∀ n, SeqAt.shaped (txD (rowsD [] (rs.take n))) = true := fun n => by
        rw [txD_strs, rowsD_tx]
        exact strs_shaped (hasc n)
      have eqx : ∀ n, PyData.eqv (txD (rowsD [] (rs.take n))) (txD (rowsD [] (rs.take n))) = true := fun n => by
        rw [txD_strs, rowsD_tx]
        exact strs_eqv (hasc n)
      refine ⟨_, rfl, _, rfl, x, dx5, _, _, rfl, hx5, .ins hw5, TE.nC, _, x, _, .ref w, rfl, F5.A, .inl ⟨_, w, _, rfl, W5, shx _, shx _, fun G6 s6 => ⟨_, rfl, ?_⟩⟩⟩
      rw [eqx]
      have F6 := F5.same s6
      have W6 := W5.same s6
      clear F5 W5 hx5 hw5 s6
      obtain ⟨dy6, ty6, cy6, zy6, wy6, hy6⟩ := F6.B.ins
      refine ⟨_, rfl, iteF ?_⟩
      refine ⟨_, rfl, y, dy6, _, rfl, hy6, noU _ _ _ _, _, y, _, rfl, F6.B, htx k, fun G7 s7 => ?_⟩
      rw [joinT_rows]
      have F7 := F6.same s7
      have W7 := W6.same s7
      clear F6 W6 hy6 s7
      obtain ⟨dx7, t7, c7, z7, w7, hx7⟩ := F7.A.ins
      refine ⟨_, rfl, rfl, _, rfl, ite_no (by rw [decide_eq_true rfl]; rfl) ?_⟩
      have elen : ((rowsD [] (rs.take (k + 1))).length : Int) = (k : Int) + 1 := by
        rw [rowsD_len, List.length_take]
        omega
      refine ⟨_, rfl, x, dx7, _, rfl, hx7, _, x, _, rfl, F7.A, _, rfl, by omega, by rw [elen]; omega, _, rfl, _, _, rfl, rfl, rfl, _, rfl, ite_no (by rw [elen, decide_eq_true rfl]; rfl) ?_⟩
      obtain ⟨dy7, ty7, cy7, zy7, wy7, hy7⟩ := F7.B.ins
      refine ⟨_, rfl, _, rfl, x, dx7, _, _, rfl, hx7, .ins hy7, TE.nC, _, x, _, .ref y, rfl, F7.A, .inl ⟨_, y, _, rfl, F7.B, shx _, shx _, fun G8 s8 => ?_⟩⟩
      rw [txD_strs, txD_strs, rowsD_tx, rowsD_tx, eqv_len (by rw [List.length_map, List.length_map, List.length_take, List.length_take]; omega)]
      have F8 := F7.same s8
      have W8 := W7.same s8
      clear F7 W7 hx7 hy7 s8
      refine ⟨_, rfl, _, rfl, iteF ?_⟩
      refine ⟨_, rfl, _, rfl, _, _, rfl, rfl, _, rfl, l, us, rfl, SqL.here F8.L, fun p np => ?_⟩
      rw [hcut2]
      have sp := Same.new np (.lst (us.take (k + 1)))
      have F9 := F8.same sp
      have W9 := W8.same sp
      have hp9 : (upd G8 p (.lst (us.take (k + 1)))) p = some (.lst (us.take (k + 1))) := upd_same
      generalize (upd G8 p (.lst (us.take (k + 1)))) = G9 at *
      clear F8 W8 sp np
      refine ⟨p, rfl, ⟨_, SqL.here hp9⟩, for_list (K := K) (a := p) (xs := us.take (k + 1)) (fun j σ G => ∃ (y9 y10 : Option V) (O3 : Addr → Prop), σ = [some (.ref a), some (.ref r), some (.int (0 + i)), some (.ref l), some (.ref x), some (.ref y), some (.int (k : Int)), some (.str (sL (rowsT (rs.take k)))), some (.ref w), y9, y10] ∧ (∃ O1 O2, Fr62 [(Pa0, szQ), (Pa1, dpQ), (Pa2, cvQ), (Pa3, pvQ)] K C_Program r cc l x y us rs (k + 1) k O1 O2 G) ∧ PrA K O3 G C_Program w (rowsD [] (rs.take (k + 1))) ∧ G p = some (.lst (us.take (k + 1)))) ⟨_, _, _, rfl, ⟨_, _, F9⟩, W9, hp9⟩ (fun j σ G _ ⟨_, _, _, _, _, _, e⟩ => SqL.here e) ?_ ?_⟩
      · rintro j v σ G10 hv ⟨y9, y10, O3, rfl, ⟨O1, O2, F10⟩, W10, hp10⟩
        obtain ⟨w1, hw1, q0, ve, rfl, hq0, hve⟩ := ((F10.W.cut (k + 1)).1).at hv
        have hw1m := List.mem_of_getElem? hw1
        refine ⟨q0, _, rfl, hq0, rfl, _, _, rfl, _, _, rfl, rfl, ?_⟩
        have hn100 : w1.nm.length ≤ 100 := by
          have := (RowsOk.nma hRt w1 hw1m).len
          omega
        obtain ⟨z, hz⟩ : ∃ z, lkD (rowsD [] (rs.take (k + 1))) w1.nm = some z := lk_some (by rw [rowsD_nm]; exact List.mem_map.mpr ⟨w1, hw1m, rfl⟩)
        have hlk : ∀ n, lkD (rowsD [] (rs.take (k + 1))) w1.nm = none → n := fun n e => by rw [hz] at e; cases e
        obtain ⟨dx10, t10, c10, z10, w10, hx10⟩ := F10.A.ins
        obtain ⟨dw10, tw10, cw10, zw10, ww10, hw10⟩ := W10.ins
        refine ⟨_, rfl, x, dx10, _, rfl, hx10, noS _ _ _ _, _, rfl, _, x, _, w1.nm, rfl, F10.A, hn100, hlk _, fun z1 hz1 HA sA => ?_⟩
        cases Option.some.inj (hz.symm.trans hz1)
        refine ⟨_, rfl, w, dw10, _, rfl, sA _ _ hw10, noS _ _ _ _, _, rfl, _, w, _, w1.nm, rfl, W10.same sA, hn100, hlk _, fun z2 hz2 HB sB => ?_⟩
        cases Option.some.inj (hz.symm.trans hz2)
        refine ⟨rfl, _, rfl, ite_no (by rw [decide_eq_true rfl]; rfl) ?_⟩
        have F11 := (F10.same sA).same sB
        have W11 := (W10.same sA).same sB
        have hp11 := sB _ _ (sA _ _ hp10)
        have hx11 := sB _ _ (sA _ _ hx10)
        clear F10 W10 hp10 hx10 hw10 sA sB
        refine ⟨_, rfl, x, dx10, _, rfl, hx11, noE _ _ _ _, _, rfl, _, x, _, w1.nm, 3, vl, rfl, F11.T, F11.A, hn100, hlk _, (fun z' _ bad => (bad ⟨by omega, by omega⟩).elim), (fun n' en hn' => hVA _ n'), fun z' hz' n' en hn' b1 b2 G12 e12 t12 => ?_⟩
        obtain rfl : n' = 3 := by omega
        have F12 := F11.ext e12 t12
        have W12 := W11.extN e12
        have hp12 := e12 _ _ hp11 (fun _ => nofun)
        clear F11 W11 hp11 hx11 e12 t12
        obtain ⟨dw12, tw12, cw12, zw12, ww12, hw12⟩ := W12.ins
        refine ⟨_, rfl, w, dw12, _, rfl, hw12, noE _ _ _ _, _, rfl, _, w, _, w1.nm, 3, vl, rfl, F12.T, W12, hn100, hlk _, (fun z' _ bad => (bad ⟨by omega, by omega⟩).elim), (fun n' en hn' => hVA _ n'), fun z' hz' n' en hn' b1 b2 G13 e13 t13 => ?_⟩
        obtain rfl : n' = 3 := by omega
        refine ⟨rfl, _, rfl, ite_no (by rw [decide_eq_true rfl]; rfl) ?_⟩
        exact ⟨_, _, _, rfl, ⟨_, _, F12.ext e13 t13⟩, W12.extN e13, e13 _ _ hp12 (fun _ => nofun)⟩
      · rintro σ G10 ⟨y9, y10, O3, rfl, ⟨O1, O2, F10⟩, _, _⟩
        clear F9 W9 hp9
        have F11 := F10.there
        clear F10
        obtain ⟨dy11, ty11, cy11, zy11, wy11, hy11⟩ := F11.B.ins
        refine ⟨_, rfl, y, dy11, _, rfl, hy11, noA _ _ _ _, ?_⟩
        refine ⟨_, rfl, _, rfl, _, rfl, _, rfl, _, _, rfl, rfl, _, rfl, l, us, rfl, SqL.here F11.L, fun p np => ?_⟩
        have sp := Same.new np (.lst (cutV us (some (k : Int)) (some ((k : Int) + 1))))
        refine ⟨_, p, _, [w0], rfl, upd_same, hcut (F11.W.tp (Tp.same sp)), hRk, by show 1 ≤ 40; decide, fun G12 s12 => ?_⟩
        have F12 := (F11.same (sp.trans s12)).there
        clear F11 hy11 sp s12 np
        refine ⟨_, y, rowsT [w0], _, _, w0.df, dE, rfl, F12.B, (fun b h => h.2), F12.T, hlen1, hDef, hd30, hInc, hlk, fun G13 P13 T13 f13 tp13 => ?_⟩
        have F13 := (F12.swap.grow (fun b h => h.2) P13 T13 f13 tp13).swap
        clear F12 P13 T13 f13 tp13
        obtain ⟨dx13, t13, c13, z13, w13, hx13⟩ := F13.A.ins
        obtain ⟨dy13, ty13, cy13, zy13, wy13, hy13⟩ := F13.B.ins
        refine ⟨_, rfl, _, rfl, x, dx13, _, _, rfl, hx13, .ins hy13, TE.nC, _, x, _, .ref y, rfl, F13.A, .inl ⟨_, y, _, rfl, F13.B, shx _, shx _, fun G14 s14 => ⟨_, rfl, ?_⟩⟩⟩
        rw [eqx]
        have F14 := F13.same s14
        clear F13 hx13 hy13 s14
        obtain ⟨dx14, t14, c14, z14, w14, hx14⟩ := F14.A.ins
        obtain ⟨dy14, ty14, cy14, zy14, wy14, hy14⟩ := F14.B.ins
        refine ⟨_, rfl, iteF ?_⟩
        refine ⟨_, rfl, _, rfl, x, dx14, _, _, rfl, hx14, .ins hy14, TE.nC, _, x, _, .ref y, rfl, F14.A, .inl ⟨_, y, _, rfl, F14.B, shx _, shx _, fun G15 s15 => ⟨_, rfl, ?_⟩⟩⟩
        rw [eqx]
        refine ⟨_, rfl, iteF ?_⟩
        exact ⟨_, _, _, _, _, _, _, rfl, F14.same s15⟩
    · rintro σ G ⟨x6, x7, x8, x9, x10, O1, O2, rfl, F⟩
      exact ⟨_, _, _, _, _, _, _, _, _, rfl, F.R, F.T⟩
  · rintro σ G ⟨x2, x3, x4, x5, x6, x7, x8, x9, x10, rfl, RG, TG⟩
    exact q _

end
theorem kit_own {K : PySem.W.Frag} {C c : Addr} {b : Bool} (ne : (Value.ref C == Value.ref c) = false) (h1 : PySem.W.isClsIn K c = true) (h2 : PySem.W.typeIn K (.ref c) = some (.type "type")) (h3 : PySem.W.subIn K (.ref C) (.ref c) = some b) : PySem.W.kitOne K (.ref C) (.ref c) = some b := by
  have e2 : ((PySem.W.clsIn K c).isSome && PySem.W.typeIn K (.ref c) == some (.type "type")) = true := by
    have h1' : (PySem.W.clsIn K c).isSome = true := h1
    rw [h1', h2] <;> rfl
  unfold PySem.W.kitOne
  rw [ne, if_neg (by decide)]
  show (if ((PySem.W.clsIn K c).isSome && PySem.W.typeIn K (.ref c) == some (.type "type")) = true then PySem.W.subIn K (.ref C) (.ref c) else none) = some b
  rw [if_pos e2]
  exact h3
theorem codeHd_mk {K : PySem.W.Frag} {cL Pt : Addr} {edL : Option Addr} {vsL : Array Value} {slL : Array (Option Value)} {f18 : Str} {t18 t7 t10 : Tok} {i7 i10 : Int} {b9 : Bool} (lC : K.lookup cL = some ⟨.type "code", edL, .fields vsL, slL⟩) (h11 : vsL[11]? = some (.ref Pt)) (h18 : vsL.getD 18 .none = .str f18 t18)
    (h7 : vsL.getD 7 .none = .int i7 t7) (h9 : vsL.getD 9 .none = .bool b9) (h10 : vsL.getD 10 .none = .int i10 t10) (ne : (cL != Pt) = true) : PySem.W.codeHdIn K cL Pt = true := by
  unfold PySem.W.codeHdIn
  rw [lC]
  simp only [h11, h18, h7, h9, h10, ne, beq_self_eq_true, Bool.and_true, Bool.and_self]
theorem kit_for {K : PySem.W.Frag} {t : Value} {c : Addr} {b : Bool} (ne : (t == Value.ref c) = false) (h1 : PySem.W.isClsIn K c = true) (h2 : PySem.W.typeIn K (.ref c) = some (.type "type")) (h3 : PySem.W.subIn K t (.ref c) = some b) : PySem.W.kitOne K t (.ref c) = some b := by
  have e2 : ((PySem.W.clsIn K c).isSome && PySem.W.typeIn K (.ref c) == some (.type "type")) = true := by
    have h1' : (PySem.W.clsIn K c).isSome = true := h1
    rw [h1', h2] <;> rfl
  unfold PySem.W.kitOne
  rw [ne, if_neg (by decide)]
  show (if ((PySem.W.clsIn K c).isSome && PySem.W.typeIn K (.ref c) == some (.type "type")) = true then PySem.W.subIn K t (.ref c) else none) = some b
  rw [if_pos e2]
  exact h3
theorem all_mk {l : PySem.W.OpenLaw} {w : World} {K : PySem.W.Frag} {h : Heap} {mg : Str → Option Value} {fa : Addr} (X : K.In h) (G : h.Ns mainGlobals mg) (hfa : mg "law" = some (.ref fa)) 
    {g0 g1 g2 g3 g4 g5 g6 g7 g8 g9 g10 g11 g12 g13 g14 g15 g16 g17 g18 g19 g20 : Addr}
    {od0 an0 od1 an1 od2 an2 od3 an3 od4 an4 od5 an5 od6 an6 od7 an7 od8 an8 od9 an9 od10 an10 od11 an11 od12 an12 od13 an13 od14 an14 od15 an15 od16 an16 od17 an17 od18 an18 od19 an19 od20 an20 : Option Addr}
    {sl0 sl1 sl2 sl3 sl4 sl5 sl6 sl7 sl8 sl9 sl10 sl11 sl12 sl13 sl14 sl15 sl16 sl17 sl18 sl19 sl20 : Array (Option Value)}
    {oc0 kV0 dc0 pm0 cd0 ct0 oc1 kV1 dc1 pm1 cd1 ct1 oc2 kV2 dc2 pm2 cd2 ct2 oc3 kV3 dc3 pm3 cd3 ct3 oc4 kV4 dc4 pm4 cd4 ct4 oc5 kV5 dc5 pm5 cd5 ct5 oc6 kV6 dc6 pm6 cd6 ct6 oc7 kV7 dc7 pm7 cd7 ct7 oc8 kV8 dc8 pm8 cd8 ct8 oc9 kV9 dc9 pm9 cd9 ct9 oc10 kV10 dc10 pm10 cd10 ct10 oc11 kV11 dc11 pm11 cd11 ct11 oc12 kV12 dc12 pm12 cd12 ct12 oc13 kV13 dc13 pm13 cd13 ct13 oc14 kV14 dc14 pm14 cd14 ct14 oc15 kV15 dc15 pm15 ct15 oc16 kV16 dc16 pm16 ct16 oc17 kV17 dc17 pm17 cd17 ct17 oc18 kV18 dc18 pm18 ct18 oc19 kV19 dc19 pm19 ct19 oc20 kV20 dc20 pm20 cd20 ct20 : Value}
    {cL Pt : Addr} {f18 : Str} {t18 t7 t10 : Tok} {i7 i10 : Int} {b9 : Bool} {edL : Option Addr} {vsL : Array Value} {slL : Array (Option Value)}
    {tc_MAX_NAME_DIGITS : Tok}
    {tc_MAX_POWER_DIGITS : Tok}
    {tc_MAX_NESTING : Tok}
    {tc_MAX_DEFINITIONS : Tok}
    {tc_MAX_TABLE : Tok}
    {cA16 PA16 : Addr} {fA18_16 : Str} {tA18_16 tA7_16 tA10_16 : Tok} {iA7_16 iA10_16 : Int} {bA9_16 : Bool} {edA16 : Option Addr} {vsA16 : Array Value} {slA16 : Array (Option Value)}
    {cA19 PA19 : Addr} {fA18_19 : Str} {tA18_19 tA7_19 tA10_19 : Tok} {iA7_19 iA10_19 : Int} {bA9_19 : Bool} {edA19 : Option Addr} {vsA19 : Array Value} {slA19 : Array (Option Value)}
    {cA18 PA18 : Addr} {fA18_18 : Str} {tA18_18 tA7_18 tA10_18 : Tok} {iA7_18 iA10_18 : Int} {bA9_18 : Bool} {edA18 : Option Addr} {vsA18 : Array Value} {slA18 : Array (Option Value)}
    {CpR : Addr} {m0R : Addr} {mod0R man0R : Option Addr} {msl0R : Array (Option Value)} {moc0R mkV0R mdc0R mpm0R mcd0R mct0R : Value} {m1R : Addr} {mod1R man1R : Option Addr} {msl1R : Array (Option Value)} {moc1R mkV1R mdc1R mpm1R mcd1R mct1R : Value} {m2R : Addr} {mod2R man2R : Option Addr} {msl2R : Array (Option Value)} {moc2R mkV2R mdc2R mpm2R mcd2R mct2R : Value} {m3R : Addr} {mod3R man3R : Option Addr} {msl3R : Array (Option Value)} {moc3R mkV3R mdc3R mpm3R mcd3R mct3R : Value} {m4R : Addr} {mod4R man4R : Option Addr} {msl4R : Array (Option Value)} {moc4R mkV4R mdc4R mpm4R mcd4R mct4R : Value} {m5R : Addr} {mod5R man5R : Option Addr} {msl5R : Array (Option Value)} {moc5R mkV5R mdc5R mpm5R mcd5R mct5R : Value} {m6R : Addr} {mod6R man6R : Option Addr} {msl6R : Array (Option Value)} {moc6R mkV6R mdc6R mpm6R mcd6R mct6R : Value} {m7R : Addr} {mod7R man7R : Option Addr} {msl7R : Array (Option Value)} {moc7R mkV7R mdc7R mpm7R mcd7R mct7R : Value} {m8R : Addr} {mod8R man8R : Option Addr} {msl8R : Array (Option Value)} {moc8R mkV8R mdc8R mpm8R mcd8R mct8R : Value} {m9R : Addr} {mod9R man9R : Option Addr} {msl9R : Array (Option Value)} {moc9R mkV9R mdc9R mpm9R mcd9R mct9R : Value} {m10R : Addr} {mod10R man10R : Option Addr} {msl10R : Array (Option Value)} {moc10R mkV10R mdc10R mpm10R mcd10R mct10R : Value} {Cp : Addr} {m0 : Addr} {mod0 man0 : Option Addr} {msl0 : Array (Option Value)} {moc0 mkV0 mdc0 mpm0 mcd0 mct0 : Value} {m1 : Addr} {mod1 man1 : Option Addr} {msl1 : Array (Option Value)} {moc1 mkV1 mdc1 mpm1 mcd1 mct1 : Value} {m2 : Addr} {mod2 man2 : Option Addr} {msl2 : Array (Option Value)} {moc2 mkV2 mdc2 mpm2 mcd2 mct2 : Value} {m3 : Addr} {mod3 man3 : Option Addr} {msl3 : Array (Option Value)} {moc3 mkV3 mdc3 mpm3 mcd3 mct3 : Value} {m4 : Addr} {mod4 man4 : Option Addr} {msl4 : Array (Option Value)} {moc4 mkV4 mdc4 mpm4 mcd4 mct4 : Value} {m5 : Addr} {mod5 man5 : Option Addr} {msl5 : Array (Option Value)} {moc5 mkV5 mdc5 mpm5 mcd5 mct5 : Value} {m6 : Addr} {mod6 man6 : Option Addr} {msl6 : Array (Option Value)} {moc6 mkV6 mdc6 mpm6 mcd6 mct6 : Value} {m7 : Addr} {mod7 man7 : Option Addr} {msl7 : Array (Option Value)} {moc7 mkV7 mdc7 mpm7 mcd7 mct7 : Value} {m8 : Addr} {mod8 man8 : Option Addr} {msl8 : Array (Option Value)} {moc8 mkV8 mdc8 mpm8 mcd8 mct8 : Value} {m9 : Addr} {mod9 man9 : Option Addr} {msl9 : Array (Option Value)} {moc9 mkV9 mdc9 mpm9 mcd9 mct9 : Value} {m10 : Addr} {mod10 man10 : Option Addr} {msl10 : Array (Option Value)} {moc10 mdc10 mpm10 mcd10 mct10 : Value} {DK10 : Addr} {tD10 : Tok} {TDf : Addr} {oTD : Value} {dTD : Option Addr} {tTD : Tok} {nTD : Nat} {sTD : Array (Option Value)} {tcC tcD tcF : Tok} {tN : Addr} {tnm tq : Str} {tbs0 tsub : List Value} {thd tab : Bool} {tsn : List Str} {tcol : Option Bool} {tdd : Option Addr} {tk0 tk1 tk2 tk3 tk5 : Option Value} {tnew : String} {CpB : Addr} {m0B : Addr} {mod0B man0B : Option Addr} {msl0B : Array (Option Value)} {moc0B mkV0B mdc0B mpm0B mcd0B mct0B : Value} {m1B : Addr} {mod1B man1B : Option Addr} {msl1B : Array (Option Value)} {moc1B mkV1B mdc1B mpm1B mcd1B mct1B : Value} {m2B : Addr} {mod2B man2B : Option Addr} {msl2B : Array (Option Value)} {moc2B mkV2B mdc2B mpm2B mcd2B mct2B : Value} {ex0 : Addr} {ex1 : Addr} {x15 : Addr} {tf15 tcd15 tcc15 tN15 : Addr} {to15 tkV15 tdc15 tpm15 tct15 tcl15 tccl15 : Value} {td15 tan15 tcdd15 tccd15 tdd15 : Option Addr} {tsl15 tcs15 tccs15 : Array (Option Value)} {tcv15 : Array Value} {tfile15 tnm15 tq15 : Str} {tft15 : Tok} {tbs15 tbm15 tsub15 : List Value} {tsn15 : List Str} {tab15 : Bool} {tcol15 : Option Bool} {tk0_15 tk1_15 tk2_15 tk3_15 tk5_15 : Option Value}
    (a0 : PySem.W.nsIn K mainGlobals "entry" = some (some (.ref g0)))
    (l0 : K.lookup g0 = some ⟨oc0, od0, .func (PySem.W.fnOf "entry" "entry" (defArgs s_entry) (defBody s_entry) (defScope s_entry) .none kV0 dc0 pm0 an0 cd0 ct0), sl0⟩)
    (c0 : PySem.W.codeIn K cd0 "entry" = true)
    (k0 : PySem.W.keepIn K (.ref g0) = true)
    (a1 : PySem.W.nsIn K mainGlobals "rows_to_periods" = some (some (.ref g1)))
    (l1 : K.lookup g1 = some ⟨oc1, od1, .func (PySem.W.fnOf "rows_to_periods" "rows_to_periods" (defArgs s_rows_to_periods) (defBody s_rows_to_periods) (defScope s_rows_to_periods) .none kV1 dc1 pm1 an1 cd1 ct1), sl1⟩)
    (c1 : PySem.W.codeIn K cd1 "rows_to_periods" = true)
    (k1 : PySem.W.keepIn K (.ref g1) = true)
    (a2 : PySem.W.nsIn K mainGlobals "_law_draws" = some (some (.ref g2)))
    (l2 : K.lookup g2 = some ⟨oc2, od2, .func (PySem.W.fnOf "_law_draws" "_law_draws" (defArgs s__law_draws) (defBody s__law_draws) (defScope s__law_draws) .none kV2 dc2 pm2 an2 cd2 ct2), sl2⟩)
    (c2 : PySem.W.codeIn K cd2 "_law_draws" = true)
    (k2 : PySem.W.keepIn K (.ref g2) = true)
    (a3 : PySem.W.nsIn K mainGlobals "_law_draw" = some (some (.ref g3)))
    (l3 : K.lookup g3 = some ⟨oc3, od3, .func (PySem.W.fnOf "_law_draw" "_law_draw" (defArgs s__law_draw) (defBody s__law_draw) (defScope s__law_draw) .none kV3 dc3 pm3 an3 cd3 ct3), sl3⟩)
    (c3 : PySem.W.codeIn K cd3 "_law_draw" = true)
    (k3 : PySem.W.keepIn K (.ref g3) = true)
    (a4 : PySem.W.nsIn K mainGlobals "_law_pick" = some (some (.ref g4)))
    (l4 : K.lookup g4 = some ⟨oc4, od4, .func (PySem.W.fnOf "_law_pick" "_law_pick" (defArgs s__law_pick) (defBody s__law_pick) (defScope s__law_pick) .none kV4 dc4 pm4 an4 cd4 ct4), sl4⟩)
    (c4 : PySem.W.codeIn K cd4 "_law_pick" = true)
    (k4 : PySem.W.keepIn K (.ref g4) = true)
    (a5 : PySem.W.nsIn K mainGlobals "_law_name" = some (some (.ref g5)))
    (l5 : K.lookup g5 = some ⟨oc5, od5, .func (PySem.W.fnOf "_law_name" "_law_name" (defArgs s__law_name) (defBody s__law_name) (defScope s__law_name) .none kV5 dc5 pm5 an5 cd5 ct5), sl5⟩)
    (c5 : PySem.W.codeIn K cd5 "_law_name" = true)
    (k5 : PySem.W.keepIn K (.ref g5) = true)
    (a6 : PySem.W.nsIn K mainGlobals "_law_number" = some (some (.ref g6)))
    (l6 : K.lookup g6 = some ⟨oc6, od6, .func (PySem.W.fnOf "_law_number" "_law_number" (defArgs s__law_number) (defBody s__law_number) (defScope s__law_number) .none kV6 dc6 pm6 an6 cd6 ct6), sl6⟩)
    (c6 : PySem.W.codeIn K cd6 "_law_number" = true)
    (k6 : PySem.W.keepIn K (.ref g6) = true)
    (a7 : PySem.W.nsIn K mainGlobals "_law_expression" = some (some (.ref g7)))
    (l7 : K.lookup g7 = some ⟨oc7, od7, .func (PySem.W.fnOf "_law_expression" "_law_expression" (defArgs s__law_expression) (defBody s__law_expression) (defScope s__law_expression) .none kV7 dc7 pm7 an7 cd7 ct7), sl7⟩)
    (c7 : PySem.W.codeIn K cd7 "_law_expression" = true)
    (k7 : PySem.W.keepIn K (.ref g7) = true)
    (a8 : PySem.W.nsIn K mainGlobals "_law_expression_text" = some (some (.ref g8)))
    (l8 : K.lookup g8 = some ⟨oc8, od8, .func (PySem.W.fnOf "_law_expression_text" "_law_expression_text" (defArgs s__law_expression_text) (defBody s__law_expression_text) (defScope s__law_expression_text) .none kV8 dc8 pm8 an8 cd8 ct8), sl8⟩)
    (c8 : PySem.W.codeIn K cd8 "_law_expression_text" = true)
    (k8 : PySem.W.keepIn K (.ref g8) = true)
    (a9 : PySem.W.nsIn K mainGlobals "_law_definitions" = some (some (.ref g9)))
    (l9 : K.lookup g9 = some ⟨oc9, od9, .func (PySem.W.fnOf "_law_definitions" "_law_definitions" (defArgs s__law_definitions) (defBody s__law_definitions) (defScope s__law_definitions) .none kV9 dc9 pm9 an9 cd9 ct9), sl9⟩)
    (c9 : PySem.W.codeIn K cd9 "_law_definitions" = true)
    (k9 : PySem.W.keepIn K (.ref g9) = true)
    (a10 : PySem.W.nsIn K mainGlobals "_law_source_text" = some (some (.ref g10)))
    (l10 : K.lookup g10 = some ⟨oc10, od10, .func (PySem.W.fnOf "_law_source_text" "_law_source_text" (defArgs s__law_source_text) (defBody s__law_source_text) (defScope s__law_source_text) .none kV10 dc10 pm10 an10 cd10 ct10), sl10⟩)
    (c10 : PySem.W.codeIn K cd10 "_law_source_text" = true)
    (k10 : PySem.W.keepIn K (.ref g10) = true)
    (a11 : PySem.W.nsIn K mainGlobals "read_source" = some (some (.ref g11)))
    (l11 : K.lookup g11 = some ⟨oc11, od11, .func (PySem.W.fnOf "read_source" "read_source" (defArgs s_read_source) (defBody s_read_source) (defScope s_read_source) .none kV11 dc11 pm11 an11 cd11 ct11), sl11⟩)
    (c11 : PySem.W.codeIn K cd11 "read_source" = true)
    (k11 : PySem.W.keepIn K (.ref g11) = true)
    (a12 : PySem.W.nsIn K mainGlobals "read_definition" = some (some (.ref g12)))
    (l12 : K.lookup g12 = some ⟨oc12, od12, .func (PySem.W.fnOf "read_definition" "read_definition" (defArgs s_read_definition) (defBody s_read_definition) (defScope s_read_definition) .none kV12 dc12 pm12 an12 cd12 ct12), sl12⟩)
    (c12 : PySem.W.codeIn K cd12 "read_definition" = true)
    (k12 : PySem.W.keepIn K (.ref g12) = true)
    (a13 : PySem.W.nsIn K mainGlobals "check_names" = some (some (.ref g13)))
    (l13 : K.lookup g13 = some ⟨oc13, od13, .func (PySem.W.fnOf "check_names" "check_names" (defArgs s_check_names) (defBody s_check_names) (defScope s_check_names) .none kV13 dc13 pm13 an13 cd13 ct13), sl13⟩)
    (c13 : PySem.W.codeIn K cd13 "check_names" = true)
    (k13 : PySem.W.keepIn K (.ref g13) = true)
    (a14 : PySem.W.nsIn K mainGlobals "computed" = some (some (.ref g14)))
    (l14 : K.lookup g14 = some ⟨oc14, od14, .func (PySem.W.fnOf "computed" "computed" (defArgs s_computed) (defBody s_computed) (defScope s_computed) .none kV14 dc14 pm14 an14 cd14 ct14), sl14⟩)
    (c14 : PySem.W.codeIn K cd14 "computed" = true)
    (k14 : PySem.W.keepIn K (.ref g14) = true)
    (a15 : PySem.W.nsIn K mainGlobals "computed_size" = some (some (.ref g15)))
    (l15 : K.lookup g15 = some ⟨oc15, od15, .func (PySem.W.fnOf "computed_size" "computed_size" (defArgs s_computed_size) (defBody s_computed_size) (defScope s_computed_size) .none kV15 dc15 pm15 an15 (.ref cL) ct15), sl15⟩)
    (c15 : PySem.W.codeIn K (.ref cL) "computed_size" = true)
    (k15 : PySem.W.keepIn K (.ref g15) = true)
    (a16 : PySem.W.nsIn K mainGlobals "computed_depth" = some (some (.ref g16)))
    (l16 : K.lookup g16 = some ⟨oc16, od16, .func (PySem.W.fnOf "computed_depth" "computed_depth" (defArgs s_computed_depth) (defBody s_computed_depth) (defScope s_computed_depth) .none kV16 dc16 pm16 an16 (.ref cA16) ct16), sl16⟩)
    (c16 : PySem.W.codeIn K (.ref cA16) "computed_depth" = true)
    (k16 : PySem.W.keepIn K (.ref g16) = true)
    (a17 : PySem.W.nsIn K mainGlobals "repeated" = some (some (.ref g17)))
    (l17 : K.lookup g17 = some ⟨oc17, od17, .func (PySem.W.fnOf "repeated" "repeated" (defArgs s_repeated) (defBody s_repeated) (defScope s_repeated) .none kV17 dc17 pm17 an17 cd17 ct17), sl17⟩)
    (c17 : PySem.W.codeIn K cd17 "repeated" = true)
    (k17 : PySem.W.keepIn K (.ref g17) = true)
    (a18 : PySem.W.nsIn K mainGlobals "power_value" = some (some (.ref g18)))
    (l18 : K.lookup g18 = some ⟨oc18, od18, .func (PySem.W.fnOf "power_value" "power_value" (defArgs s_power_value) (defBody s_power_value) (defScope s_power_value) .none kV18 dc18 pm18 an18 (.ref cA18) ct18), sl18⟩)
    (c18 : PySem.W.codeIn K (.ref cA18) "power_value" = true)
    (k18 : PySem.W.keepIn K (.ref g18) = true)
    (a19 : PySem.W.nsIn K mainGlobals "computed_value" = some (some (.ref g19)))
    (l19 : K.lookup g19 = some ⟨oc19, od19, .func (PySem.W.fnOf "computed_value" "computed_value" (defArgs s_computed_value) (defBody s_computed_value) (defScope s_computed_value) .none kV19 dc19 pm19 an19 (.ref cA19) ct19), sl19⟩)
    (c19 : PySem.W.codeIn K (.ref cA19) "computed_value" = true)
    (k19 : PySem.W.keepIn K (.ref g19) = true)
    (a20 : PySem.W.nsIn K mainGlobals "law" = some (some (.ref g20)))
    (l20 : K.lookup g20 = some ⟨oc20, od20, .func (PySem.W.fnOf "law" "law" (defArgs s_law) (defBody s_law) (defScope s_law) .none kV20 dc20 pm20 an20 cd20 ct20), sl20⟩)
    (c20 : PySem.W.codeIn K cd20 "law" = true)
    (k20 : PySem.W.keepIn K (.ref g20) = true)
    (z_len : PySem.W.nsIn K mainGlobals "len" = some none)
    (z_list : PySem.W.nsIn K mainGlobals "list" = some none)
    (z_tuple : PySem.W.nsIn K mainGlobals "tuple" = some none)
    (z_dict : PySem.W.nsIn K mainGlobals "dict" = some none)
    (z_bool : PySem.W.nsIn K mainGlobals "bool" = some none)
    (z_isinstance : PySem.W.nsIn K mainGlobals "isinstance" = some none)
    (z_max : PySem.W.nsIn K mainGlobals "max" = some none)
    (z_min : PySem.W.nsIn K mainGlobals "min" = some none)
    (z_range : PySem.W.nsIn K mainGlobals "range" = some none)
    (z_all : PySem.W.nsIn K mainGlobals "all" = some none)
    (z_sorted : PySem.W.nsIn K mainGlobals "sorted" = some none)
    (z_enumerate : PySem.W.nsIn K mainGlobals "enumerate" = some none)
    (z_sum : PySem.W.nsIn K mainGlobals "sum" = some none)
    (z_str : PySem.W.nsIn K mainGlobals "str" = some none)
    (z_int : PySem.W.nsIn K mainGlobals "int" = some none)
    (q_MAX_NAME_DIGITS : PySem.W.nsIn K mainGlobals "MAX_NAME_DIGITS" = some (some (.int 2 tc_MAX_NAME_DIGITS)))
    (q_MAX_POWER_DIGITS : PySem.W.nsIn K mainGlobals "MAX_POWER_DIGITS" = some (some (.int 30 tc_MAX_POWER_DIGITS)))
    (q_MAX_NESTING : PySem.W.nsIn K mainGlobals "MAX_NESTING" = some (some (.int 30 tc_MAX_NESTING)))
    (q_MAX_DEFINITIONS : PySem.W.nsIn K mainGlobals "MAX_DEFINITIONS" = some (some (.int 30 tc_MAX_DEFINITIONS)))
    (q_MAX_TABLE : PySem.W.nsIn K mainGlobals "MAX_TABLE" = some (some (.int 9 tc_MAX_TABLE)))
    (lC : K.lookup cL = some ⟨.type "code", edL, .fields vsL, slL⟩)
    (lP11 : vsL[11]? = some (.ref Pt))
    (nP : K.lookup Pt = none)
    (v18 : vsL.getD 18 .none = .str f18 t18)
    (v7 : vsL.getD 7 .none = .int i7 t7)
    (v9 : vsL.getD 9 .none = .bool b9)
    (v10 : vsL.getD 10 .none = .int i10 t10)
    (vne : (cL != Pt) = true)
    (lC_16 : K.lookup cA16 = some ⟨.type "code", edA16, .fields vsA16, slA16⟩)
    (lP11_16 : vsA16[11]? = some (.ref PA16))
    (nP_16 : K.lookup PA16 = none)
    (v18_16 : vsA16.getD 18 .none = .str fA18_16 tA18_16)
    (v7_16 : vsA16.getD 7 .none = .int iA7_16 tA7_16)
    (v9_16 : vsA16.getD 9 .none = .bool bA9_16)
    (v10_16 : vsA16.getD 10 .none = .int iA10_16 tA10_16)
    (vne_16 : (cA16 != PA16) = true)
    (pne_16 : (Pt != PA16) = true)
    (lC_19 : K.lookup cA19 = some ⟨.type "code", edA19, .fields vsA19, slA19⟩)
    (lP11_19 : vsA19[11]? = some (.ref PA19))
    (nP_19 : K.lookup PA19 = none)
    (v18_19 : vsA19.getD 18 .none = .str fA18_19 tA18_19)
    (v7_19 : vsA19.getD 7 .none = .int iA7_19 tA7_19)
    (v9_19 : vsA19.getD 9 .none = .bool bA9_19)
    (v10_19 : vsA19.getD 10 .none = .int iA10_19 tA10_19)
    (vne_19 : (cA19 != PA19) = true)
    (pne_19 : (Pt != PA19) = true)
    (lC_18 : K.lookup cA18 = some ⟨.type "code", edA18, .fields vsA18, slA18⟩)
    (lP11_18 : vsA18[11]? = some (.ref PA18))
    (nP_18 : K.lookup PA18 = none)
    (v18_18 : vsA18.getD 18 .none = .str fA18_18 tA18_18)
    (v7_18 : vsA18.getD 7 .none = .int iA7_18 tA7_18)
    (v9_18 : vsA18.getD 9 .none = .bool bA9_18)
    (v10_18 : vsA18.getD 10 .none = .int iA10_18 tA10_18)
    (vne_18 : (cA18 != PA18) = true)
    (pne_18 : (Pt != PA18) = true)
    (pne_16_19 : (PA16 != PA19) = true)
    (pne_18_19 : (PA18 != PA19) = true)
    (pne_16_18 : (PA16 != PA18) = true)
    (aCR : PySem.W.nsIn K mainGlobals "Reader" = some (some (.ref CpR)))
    (ma0R : PySem.W.findIn K (.ref CpR) "__init__" = some (some (.ref m0R)))
    (mi0R : PySem.W.isFn K (.ref m0R) = true)
    (ml0R : K.lookup m0R = some ⟨moc0R, mod0R, .func (PySem.W.fnOf "__init__" "Reader.__init__" (defArgs s_Reader___init__) (defBody s_Reader___init__) (defScope s_Reader___init__) .none mkV0R mdc0R mpm0R man0R mcd0R mct0R), msl0R⟩)
    (mc0R : PySem.W.codeIn K mcd0R "Reader.__init__" = true)
    (mk0R : PySem.W.keepIn K (.ref m0R) = true)
    (ma1R : PySem.W.findIn K (.ref CpR) "at_end" = some (some (.ref m1R)))
    (mi1R : PySem.W.isFn K (.ref m1R) = true)
    (ml1R : K.lookup m1R = some ⟨moc1R, mod1R, .func (PySem.W.fnOf "at_end" "Reader.at_end" (defArgs s_Reader_at_end) (defBody s_Reader_at_end) (defScope s_Reader_at_end) .none mkV1R mdc1R mpm1R man1R mcd1R mct1R), msl1R⟩)
    (mc1R : PySem.W.codeIn K mcd1R "Reader.at_end" = true)
    (mk1R : PySem.W.keepIn K (.ref m1R) = true)
    (ma2R : PySem.W.findIn K (.ref CpR) "sees" = some (some (.ref m2R)))
    (mi2R : PySem.W.isFn K (.ref m2R) = true)
    (ml2R : K.lookup m2R = some ⟨moc2R, mod2R, .func (PySem.W.fnOf "sees" "Reader.sees" (defArgs s_Reader_sees) (defBody s_Reader_sees) (defScope s_Reader_sees) .none mkV2R mdc2R mpm2R man2R mcd2R mct2R), msl2R⟩)
    (mc2R : PySem.W.codeIn K mcd2R "Reader.sees" = true)
    (mk2R : PySem.W.keepIn K (.ref m2R) = true)
    (ma3R : PySem.W.findIn K (.ref CpR) "take" = some (some (.ref m3R)))
    (mi3R : PySem.W.isFn K (.ref m3R) = true)
    (ml3R : K.lookup m3R = some ⟨moc3R, mod3R, .func (PySem.W.fnOf "take" "Reader.take" (defArgs s_Reader_take) (defBody s_Reader_take) (defScope s_Reader_take) .none mkV3R mdc3R mpm3R man3R mcd3R mct3R), msl3R⟩)
    (mc3R : PySem.W.codeIn K mcd3R "Reader.take" = true)
    (mk3R : PySem.W.keepIn K (.ref m3R) = true)
    (ma4R : PySem.W.findIn K (.ref CpR) "take_digits" = some (some (.ref m4R)))
    (mi4R : PySem.W.isFn K (.ref m4R) = true)
    (ml4R : K.lookup m4R = some ⟨moc4R, mod4R, .func (PySem.W.fnOf "take_digits" "Reader.take_digits" (defArgs s_Reader_take_digits) (defBody s_Reader_take_digits) (defScope s_Reader_take_digits) .none mkV4R mdc4R mpm4R man4R mcd4R mct4R), msl4R⟩)
    (mc4R : PySem.W.codeIn K mcd4R "Reader.take_digits" = true)
    (mk4R : PySem.W.keepIn K (.ref m4R) = true)
    (ma5R : PySem.W.findIn K (.ref CpR) "take_name" = some (some (.ref m5R)))
    (mi5R : PySem.W.isFn K (.ref m5R) = true)
    (ml5R : K.lookup m5R = some ⟨moc5R, mod5R, .func (PySem.W.fnOf "take_name" "Reader.take_name" (defArgs s_Reader_take_name) (defBody s_Reader_take_name) (defScope s_Reader_take_name) .none mkV5R mdc5R mpm5R man5R mcd5R mct5R), msl5R⟩)
    (mc5R : PySem.W.codeIn K mcd5R "Reader.take_name" = true)
    (mk5R : PySem.W.keepIn K (.ref m5R) = true)
    (ma6R : PySem.W.findIn K (.ref CpR) "take_powers" = some (some (.ref m6R)))
    (mi6R : PySem.W.isFn K (.ref m6R) = true)
    (ml6R : K.lookup m6R = some ⟨moc6R, mod6R, .func (PySem.W.fnOf "take_powers" "Reader.take_powers" (defArgs s_Reader_take_powers) (defBody s_Reader_take_powers) (defScope s_Reader_take_powers) .none mkV6R mdc6R mpm6R man6R mcd6R mct6R), msl6R⟩)
    (mc6R : PySem.W.codeIn K mcd6R "Reader.take_powers" = true)
    (mk6R : PySem.W.keepIn K (.ref m6R) = true)
    (ma7R : PySem.W.findIn K (.ref CpR) "take_atom" = some (some (.ref m7R)))
    (mi7R : PySem.W.isFn K (.ref m7R) = true)
    (ml7R : K.lookup m7R = some ⟨moc7R, mod7R, .func (PySem.W.fnOf "take_atom" "Reader.take_atom" (defArgs s_Reader_take_atom) (defBody s_Reader_take_atom) (defScope s_Reader_take_atom) .none mkV7R mdc7R mpm7R man7R mcd7R mct7R), msl7R⟩)
    (mc7R : PySem.W.codeIn K mcd7R "Reader.take_atom" = true)
    (mk7R : PySem.W.keepIn K (.ref m7R) = true)
    (ma8R : PySem.W.findIn K (.ref CpR) "take_expression" = some (some (.ref m8R)))
    (mi8R : PySem.W.isFn K (.ref m8R) = true)
    (ml8R : K.lookup m8R = some ⟨moc8R, mod8R, .func (PySem.W.fnOf "take_expression" "Reader.take_expression" (defArgs s_Reader_take_expression) (defBody s_Reader_take_expression) (defScope s_Reader_take_expression) .none mkV8R mdc8R mpm8R man8R mcd8R mct8R), msl8R⟩)
    (mc8R : PySem.W.codeIn K mcd8R "Reader.take_expression" = true)
    (mk8R : PySem.W.keepIn K (.ref m8R) = true)
    (ma9R : PySem.W.findIn K (.ref CpR) "take_definition" = some (some (.ref m9R)))
    (mi9R : PySem.W.isFn K (.ref m9R) = true)
    (ml9R : K.lookup m9R = some ⟨moc9R, mod9R, .func (PySem.W.fnOf "take_definition" "Reader.take_definition" (defArgs s_Reader_take_definition) (defBody s_Reader_take_definition) (defScope s_Reader_take_definition) .none mkV9R mdc9R mpm9R man9R mcd9R mct9R), msl9R⟩)
    (mc9R : PySem.W.codeIn K mcd9R "Reader.take_definition" = true)
    (mk9R : PySem.W.keepIn K (.ref m9R) = true)
    (ma10R : PySem.W.findIn K (.ref CpR) "finish" = some (some (.ref m10R)))
    (mi10R : PySem.W.isFn K (.ref m10R) = true)
    (ml10R : K.lookup m10R = some ⟨moc10R, mod10R, .func (PySem.W.fnOf "finish" "Reader.finish" (defArgs s_Reader_finish) (defBody s_Reader_finish) (defScope s_Reader_finish) .none mkV10R mdc10R mpm10R man10R mcd10R mct10R), msl10R⟩)
    (mc10R : PySem.W.codeIn K mcd10R "Reader.finish" = true)
    (mk10R : PySem.W.keepIn K (.ref m10R) = true)
    (cpgR : PySem.W.plainGet K CpR Str.empty = true)
    (chdR : PySem.W.hasDictIn K CpR = true)
    (cpoR : PySem.W.plainOver K CpR = true)
    (csaR : PySem.W.findIn K (.ref CpR) "__setattr__" = some (some (.builtin "object.__setattr__")))
    (cmkR : PySem.W.makesIn K CpR = true)
    (ckcR : PySem.W.keepIn K (.ref CpR) = true)
    (cn0R : PySem.W.findIn K (.ref CpR) "text" = some none)
    (cn1R : PySem.W.findIn K (.ref CpR) "place" = some none)
    (cn2R : PySem.W.findIn K (.ref CpR) "deepest" = some none)
    (aC : PySem.W.nsIn K mainGlobals "Program" = some (some (.ref Cp)))
    (ma0 : PySem.W.findIn K (.ref Cp) "__init__" = some (some (.ref m0)))
    (mi0 : PySem.W.isFn K (.ref m0) = true)
    (ml0 : K.lookup m0 = some ⟨moc0, mod0, .func (PySem.W.fnOf "__init__" "Program.__init__" (defArgs s_Program___init__) (defBody s_Program___init__) (defScope s_Program___init__) (.ref TDf) mkV0 mdc0 mpm0 man0 mcd0 mct0), msl0⟩)
    (lTD : K.lookup TDf = some ⟨oTD, dTD, .seq #[.str "" tTD] nTD, sTD⟩)
    (mc0 : PySem.W.codeIn K mcd0 "Program.__init__" = true)
    (mk0 : PySem.W.keepIn K (.ref m0) = true)
    (ma1 : PySem.W.findIn K (.ref Cp) "include" = some (some (.ref m1)))
    (mi1 : PySem.W.isFn K (.ref m1) = true)
    (ml1 : K.lookup m1 = some ⟨moc1, mod1, .func (PySem.W.fnOf "include" "Program.include" (defArgs s_Program_include) (defBody s_Program_include) (defScope s_Program_include) .none mkV1 mdc1 mpm1 man1 mcd1 mct1), msl1⟩)
    (mc1 : PySem.W.codeIn K mcd1 "Program.include" = true)
    (mk1 : PySem.W.keepIn K (.ref m1) = true)
    (ma2 : PySem.W.findIn K (.ref Cp) "names" = some (some (.ref m2)))
    (mi2 : PySem.W.isFn K (.ref m2) = true)
    (ml2 : K.lookup m2 = some ⟨moc2, mod2, .func (PySem.W.fnOf "names" "Program.names" (defArgs s_Program_names) (defBody s_Program_names) (defScope s_Program_names) .none mkV2 mdc2 mpm2 man2 mcd2 mct2), msl2⟩)
    (mc2 : PySem.W.codeIn K mcd2 "Program.names" = true)
    (mk2 : PySem.W.keepIn K (.ref m2) = true)
    (ma3 : PySem.W.findIn K (.ref Cp) "source" = some (some (.ref m3)))
    (mi3 : PySem.W.isFn K (.ref m3) = true)
    (ml3 : K.lookup m3 = some ⟨moc3, mod3, .func (PySem.W.fnOf "source" "Program.source" (defArgs s_Program_source) (defBody s_Program_source) (defScope s_Program_source) .none mkV3 mdc3 mpm3 man3 mcd3 mct3), msl3⟩)
    (mc3 : PySem.W.codeIn K mcd3 "Program.source" = true)
    (mk3 : PySem.W.keepIn K (.ref m3) = true)
    (ma4 : PySem.W.findIn K (.ref Cp) "__len__" = some (some (.ref m4)))
    (mi4 : PySem.W.isFn K (.ref m4) = true)
    (ml4 : K.lookup m4 = some ⟨moc4, mod4, .func (PySem.W.fnOf "__len__" "Program.__len__" (defArgs s_Program___len__) (defBody s_Program___len__) (defScope s_Program___len__) .none mkV4 mdc4 mpm4 man4 mcd4 mct4), msl4⟩)
    (mc4 : PySem.W.codeIn K mcd4 "Program.__len__" = true)
    (mk4 : PySem.W.keepIn K (.ref m4) = true)
    (ma5 : PySem.W.findIn K (.ref Cp) "__eq__" = some (some (.ref m5)))
    (mi5 : PySem.W.isFn K (.ref m5) = true)
    (ml5 : K.lookup m5 = some ⟨moc5, mod5, .func (PySem.W.fnOf "__eq__" "Program.__eq__" (defArgs s_Program___eq__) (defBody s_Program___eq__) (defScope s_Program___eq__) .none mkV5 mdc5 mpm5 man5 mcd5 mct5), msl5⟩)
    (mc5 : PySem.W.codeIn K mcd5 "Program.__eq__" = true)
    (mk5 : PySem.W.keepIn K (.ref m5) = true)
    (ma6 : PySem.W.findIn K (.ref Cp) "check_name" = some (some (.ref m6)))
    (mi6 : PySem.W.isFn K (.ref m6) = true)
    (ml6 : K.lookup m6 = some ⟨moc6, mod6, .func (PySem.W.fnOf "check_name" "Program.check_name" (defArgs s_Program_check_name) (defBody s_Program_check_name) (defScope s_Program_check_name) .none mkV6 mdc6 mpm6 man6 mcd6 mct6), msl6⟩)
    (mc6 : PySem.W.codeIn K mcd6 "Program.check_name" = true)
    (mk6 : PySem.W.keepIn K (.ref m6) = true)
    (ma7 : PySem.W.findIn K (.ref Cp) "size_of" = some (some (.ref m7)))
    (mi7 : PySem.W.isFn K (.ref m7) = true)
    (ml7 : K.lookup m7 = some ⟨moc7, mod7, .func (PySem.W.fnOf "size_of" "Program.size_of" (defArgs s_Program_size_of) (defBody s_Program_size_of) (defScope s_Program_size_of) .none mkV7 mdc7 mpm7 man7 mcd7 mct7), msl7⟩)
    (mc7 : PySem.W.codeIn K mcd7 "Program.size_of" = true)
    (mk7 : PySem.W.keepIn K (.ref m7) = true)
    (ma8 : PySem.W.findIn K (.ref Cp) "names_up_to" = some (some (.ref m8)))
    (mi8 : PySem.W.isFn K (.ref m8) = true)
    (ml8 : K.lookup m8 = some ⟨moc8, mod8, .func (PySem.W.fnOf "names_up_to" "Program.names_up_to" (defArgs s_Program_names_up_to) (defBody s_Program_names_up_to) (defScope s_Program_names_up_to) .none mkV8 mdc8 mpm8 man8 mcd8 mct8), msl8⟩)
    (mc8 : PySem.W.codeIn K mcd8 "Program.names_up_to" = true)
    (mk8 : PySem.W.keepIn K (.ref m8) = true)
    (ma9 : PySem.W.findIn K (.ref Cp) "add_definition" = some (some (.ref m9)))
    (mi9 : PySem.W.isFn K (.ref m9) = true)
    (ml9 : K.lookup m9 = some ⟨moc9, mod9, .func (PySem.W.fnOf "add_definition" "Program.add_definition" (defArgs s_Program_add_definition) (defBody s_Program_add_definition) (defScope s_Program_add_definition) .none mkV9 mdc9 mpm9 man9 mcd9 mct9), msl9⟩)
    (mc9 : PySem.W.codeIn K mcd9 "Program.add_definition" = true)
    (mk9 : PySem.W.keepIn K (.ref m9) = true)
    (ma10 : PySem.W.findIn K (.ref Cp) "evaluate" = some (some (.ref m10)))
    (mi10 : PySem.W.isFn K (.ref m10) = true)
    (ml10 : K.lookup m10 = some ⟨moc10, mod10, .func (PySem.W.fnOf "evaluate" "Program.evaluate" (defArgs s_Program_evaluate) (defBody s_Program_evaluate) (defScope s_Program_evaluate) .none (.ref DK10) mdc10 mpm10 man10 mcd10 mct10), msl10⟩)
    (mc10 : PySem.W.codeIn K mcd10 "Program.evaluate" = true)
    (mk10 : PySem.W.keepIn K (.ref m10) = true)
    (mh10 : PySem.W.nsIn K DK10 "size" = some (some (.int 3 tD10)))
    (cpg : PySem.W.plainGet K Cp Str.empty = true)
    (chd : PySem.W.hasDictIn K Cp = true)
    (cpo : PySem.W.plainOver K Cp = true)
    (csa : PySem.W.findIn K (.ref Cp) "__setattr__" = some (some (.builtin "object.__setattr__")))
    (cmk : PySem.W.makesIn K Cp = true)
    (ckc : PySem.W.keepIn K (.ref Cp) = true)
    (cn0 : PySem.W.findIn K (.ref Cp) "texts" = some none)
    (cn1 : PySem.W.findIn K (.ref Cp) "codes" = some none)
    (cn2 : PySem.W.findIn K (.ref Cp) "sizes" = some none)
    (cn3 : PySem.W.findIn K (.ref Cp) "depths" = some none)
    (q_CAPITALS : PySem.W.nsIn K mainGlobals "CAPITALS" = some (some (.str "ABCDEFGHIJKLMNOPQRSTUVWXYZ" tcC)))
    (q_DIGITS : PySem.W.nsIn K mainGlobals "DIGITS" = some (some (.str "0123456789" tcD)))
    (q_FIRST_DIGITS : PySem.W.nsIn K mainGlobals "FIRST_DIGITS" = some (some (.str "123456789" tcF)))
    (te1 : PySem.W.findIn K (.ref Cp) "__class__" = some (some (.builtin "object.__class__")))
    (te2 : PySem.W.specialIn K (.builtin "object.__class__") "__get__" = some (some (.builtin "getset_descriptor.__get__")))
    (te3 : PySem.W.takesIn K (.builtin "object.__class__") = some true)
    (te4 : PySem.W.mroIn K Cp (.type "object") = some true)
    (te5 : PySem.W.isClsIn K Cp = true)
    (te6 : PySem.W.typeIn K (.ref Cp) = some (.type "type"))
    (ts_int : PySem.W.subIn K (.type "int") (.ref Cp) = some false)
    (tn_int : PySem.W.notFirst K Cp (.type "int") = true)
    (te_int : (Value.type "int" == Value.ref Cp) = false)
    (ts_str : PySem.W.subIn K (.type "str") (.ref Cp) = some false)
    (tn_str : PySem.W.notFirst K Cp (.type "str") = true)
    (te_str : (Value.type "str" == Value.ref Cp) = false)
    (tlk : K.lookup Cp = some (excClassObj tnm tq Cp tN tbs0 [.type "object"] thd tsn tsub tab tcol tdd tk0 tk1 tk2 tk3 tk5 tnew))
    (tok : PySem.W.nsOkIn K tN = true)
    (teq : PySem.W.nsIn K tN "__eq__" = some (some (.ref m5)))
    (tne : PySem.W.nsIn K tN "__ne__" = some none)
    (tfn : moc5 = .type "function")
    (aCB : PySem.W.nsIn K mainGlobals "Table" = some (some (.ref CpB)))
    (ma0B : PySem.W.findIn K (.ref CpB) "__init__" = some (some (.ref m0B)))
    (mi0B : PySem.W.isFn K (.ref m0B) = true)
    (ml0B : K.lookup m0B = some ⟨moc0B, mod0B, .func (PySem.W.fnOf "__init__" "Table.__init__" (defArgs s_TInit) (defBody s_TInit) (defScope s_TInit) .none mkV0B mdc0B mpm0B man0B mcd0B mct0B), msl0B⟩)
    (mc0B : PySem.W.codeIn K mcd0B "Table.__init__" = true)
    (mk0B : PySem.W.keepIn K (.ref m0B) = true)
    (ma1B : PySem.W.findIn K (.ref CpB) "check_element" = some (some (.ref m1B)))
    (mi1B : PySem.W.isFn K (.ref m1B) = true)
    (ml1B : K.lookup m1B = some ⟨moc1B, mod1B, .func (PySem.W.fnOf "check_element" "Table.check_element" (defArgs s_TChk) (defBody s_TChk) (defScope s_TChk) .none mkV1B mdc1B mpm1B man1B mcd1B mct1B), msl1B⟩)
    (mc1B : PySem.W.codeIn K mcd1B "Table.check_element" = true)
    (mk1B : PySem.W.keepIn K (.ref m1B) = true)
    (ma2B : PySem.W.findIn K (.ref CpB) "apply" = some (some (.ref m2B)))
    (mi2B : PySem.W.isFn K (.ref m2B) = true)
    (ml2B : K.lookup m2B = some ⟨moc2B, mod2B, .func (PySem.W.fnOf "apply" "Table.apply" (defArgs s_TApp) (defBody s_TApp) (defScope s_TApp) .none mkV2B mdc2B mpm2B man2B mcd2B mct2B), msl2B⟩)
    (mc2B : PySem.W.codeIn K mcd2B "Table.apply" = true)
    (mk2B : PySem.W.keepIn K (.ref m2B) = true)
    (cpgB : PySem.W.plainGet K CpB Str.empty = true)
    (chdB : PySem.W.hasDictIn K CpB = true)
    (cpoB : PySem.W.plainOver K CpB = true)
    (csaB : PySem.W.findIn K (.ref CpB) "__setattr__" = some (some (.builtin "object.__setattr__")))
    (cmkB : PySem.W.makesIn K CpB = true)
    (ckcB : PySem.W.keepIn K (.ref CpB) = true)
    (cn0B : PySem.W.findIn K (.ref CpB) "size" = some none)
    (cn1B : PySem.W.findIn K (.ref CpB) "rows" = some none)
    (ea0 : PySem.W.nsIn K mainGlobals "InvalidSize" = some (some (.ref ex0)))
    (eq0 : PySem.W.excIn K ex0 [.type "ValueError", .type "Exception", .type "BaseException", .type "object"] "ValueError.__new__" = true)
    (ek0 : PySem.W.keepIn K (.ref ex0) = true)
    (eb0 : PySem.W.subIn K (.ref ex0) (.type "BaseException") = some true)
    (et0 : PySem.W.typeIn K (.ref ex0) = some (.type "type"))
    (ea1 : PySem.W.nsIn K mainGlobals "InvalidElement" = some (some (.ref ex1)))
    (eq1 : PySem.W.excIn K ex1 [.type "ValueError", .type "Exception", .type "BaseException", .type "object"] "ValueError.__new__" = true)
    (ek1 : PySem.W.keepIn K (.ref ex1) = true)
    (eb1 : PySem.W.subIn K (.ref ex1) (.type "BaseException") = some true)
    (et1 : PySem.W.typeIn K (.ref ex1) = some (.type "type"))
    (z_super : PySem.W.nsIn K mainGlobals "super" = some none)
    (tany : PySem.W.nsIn K cStatics "thirdparty.any" = some none)
    (ttop : (l.prog.main.scope.names.lookup ("super" : Str)).isSome = false)
    (ax15 : PySem.W.nsIn K mainGlobals "UnknownName" = some (some (.ref x15)))
    (ky15 : PySem.W.typeIn K (.ref x15) = some (.type "type"))
    (xs15 : PySem.W.subIn K (.ref x15) (.type "BaseException") = some true)
    (xf15_name : PySem.W.findIn K (.ref x15) "name" = some none)
    (ti15 : PySem.W.findIn K (.ref x15) "__init__" = some (some (.ref tf15)))
    (tt15 : PySem.W.typeIn K (.ref tf15) = some (.type "function"))
    (tl15 : K.lookup tf15 = some ⟨to15, td15, .func (PySem.W.ksFn "__init__" "UnknownName.__init__" (defArgs s_UNInit) (defBody s_UNInit) (defScope s_UNInit) .none tkV15 tdc15 tpm15 tan15 (.ref tcd15) tct15 tcc15), tsl15⟩)
    (tci15 : PySem.W.codeIn K (.ref tcd15) "UnknownName.__init__" = true)
    (tco15 : K.lookup tcd15 = some ⟨tcl15, tcdd15, .fields tcv15, tcs15⟩)
    (tcf15 : tcv15[2]? = some (.str tfile15 tft15))
    (tpf15 : ((l.prog.main.file : Str) == tfile15) = true)
    (tce15 : K.lookup tcc15 = some ⟨tccl15, tccd15, .cell (some (.ref x15)), tccs15⟩)
    (tlk15 : K.lookup x15 = some (excClassObj tnm15 tq15 x15 tN15 tbs15 tbm15 true tsn15 tsub15 tab15 tcol15 tdd15 tk0_15 tk1_15 tk2_15 tk3_15 tk5_15 "ValueError.__new__"))
    (tre15 : PySem.HandSPX.refsVE tbm15 = true)
    (tsa15 : PySem.W.findIn K (.ref x15) "__setattr__" = some (some (.builtin "object.__setattr__")))
    (tkp15 : PySem.W.keepIn K (.ref x15) = true)
    (tmr15 : PySem.W.mroIn K x15 (.ref x15) = some true)
    (tks15 : PySem.W.ks_superIn K x15 x15 "__init__" = some (some (.builtin "ValueError.__init__")))
    (tva15 : PySem.W.subIn K (.ref x15) (.type "ValueError") = some true) (tT_L : h.get? Pt = some { cls := .none, data := .fields #[] }) (tT_16 : h.get? PA16 = some { cls := .none, data := .fields #[] }) (tT_19 : h.get? PA19 = some { cls := .none, data := .fields #[] }) (tT_18 : h.get? PA18 = some { cls := .none, data := .fields #[] }) :
    LamX.LawAtS l w K CX0 64 63 "_law_script" mg fa h := by
  have e := hfa.symm.trans (PySem.W.mg_of X G a20)
  cases e
  have F0 := fun_mk (st := s_entry) l0 c0 k0
  have d_entry : D K mg "entry" s_entry ["row", "element"] _ _ := ⟨F0, F0.binds (ps := ["row", "element"]) fun _ _ _ _ _ _ us hl => match us, hl with | [_, _], _ => rfl, PySem.W.mg_of X G a0⟩
  have F1 := fun_mk (st := s_rows_to_periods) l1 c1 k1
  have d_rows_to_periods : D K mg "rows_to_periods" s_rows_to_periods ["last"] _ _ := ⟨F1, F1.binds (ps := ["last"]) fun _ _ _ _ _ _ us hl => match us, hl with | [_], _ => rfl, PySem.W.mg_of X G a1⟩
  have F2 := fun_mk (st := s__law_draws) l2 c2 k2
  have d__law_draws : D K mg "_law_draws" s__law_draws ["_law_script"] _ _ := ⟨F2, F2.binds (ps := ["_law_script"]) fun _ _ _ _ _ _ us hl => match us, hl with | [_], _ => rfl, PySem.W.mg_of X G a2⟩
  have F3 := fun_mk (st := s__law_draw) l3 c3 k3
  have d__law_draw : D K mg "_law_draw" s__law_draw ["_law_rng", "_law_amount"] _ _ := ⟨F3, F3.binds (ps := ["_law_rng", "_law_amount"]) fun _ _ _ _ _ _ us hl => match us, hl with | [_, _], _ => rfl, PySem.W.mg_of X G a3⟩
  have F4 := fun_mk (st := s__law_pick) l4 c4 k4
  have d__law_pick : D K mg "_law_pick" s__law_pick ["_law_rng", "_law_terms"] _ _ := ⟨F4, F4.binds (ps := ["_law_rng", "_law_terms"]) fun _ _ _ _ _ _ us hl => match us, hl with | [_, _], _ => rfl, PySem.W.mg_of X G a4⟩
  have F5 := fun_mk (st := s__law_name) l5 c5 k5
  have d__law_name : D K mg "_law_name" s__law_name ["_law_rng"] _ _ := ⟨F5, F5.binds (ps := ["_law_rng"]) fun _ _ _ _ _ _ us hl => match us, hl with | [_], _ => rfl, PySem.W.mg_of X G a5⟩
  have F6 := fun_mk (st := s__law_number) l6 c6 k6
  have d__law_number : D K mg "_law_number" s__law_number ["_law_rng"] _ _ := ⟨F6, F6.binds (ps := ["_law_rng"]) fun _ _ _ _ _ _ us hl => match us, hl with | [_], _ => rfl, PySem.W.mg_of X G a6⟩
  have F7 := fun_mk (st := s__law_expression) l7 c7 k7
  have d__law_expression : D K mg "_law_expression" s__law_expression ["_law_rng", "_law_names", "_law_deep", "_law_small"] _ _ := ⟨F7, F7.binds (ps := ["_law_rng", "_law_names", "_law_deep", "_law_small"]) fun _ _ _ _ _ _ us hl => match us, hl with | [_, _, _, _], _ => rfl, PySem.W.mg_of X G a7⟩
  have F8 := fun_mk (st := s__law_expression_text) l8 c8 k8
  have d__law_expression_text : D K mg "_law_expression_text" s__law_expression_text ["_law_told"] _ _ := ⟨F8, F8.binds (ps := ["_law_told"]) fun _ _ _ _ _ _ us hl => match us, hl with | [_], _ => rfl, PySem.W.mg_of X G a8⟩
  have F9 := fun_mk (st := s__law_definitions) l9 c9 k9
  have d__law_definitions : D K mg "_law_definitions" s__law_definitions ["_law_rng", "_law_many", "_law_small"] _ _ := ⟨F9, F9.binds (ps := ["_law_rng", "_law_many", "_law_small"]) fun _ _ _ _ _ _ us hl => match us, hl with | [_, _, _], _ => rfl, PySem.W.mg_of X G a9⟩
  have F10 := fun_mk (st := s__law_source_text) l10 c10 k10
  have d__law_source_text : D K mg "_law_source_text" s__law_source_text ["_law_rows"] _ _ := ⟨F10, F10.binds (ps := ["_law_rows"]) fun _ _ _ _ _ _ us hl => match us, hl with | [_], _ => rfl, PySem.W.mg_of X G a10⟩
  have F11 := fun_mk (st := s_read_source) l11 c11 k11
  have d_read_source : D K mg "read_source" s_read_source ["text"] _ _ := ⟨F11, F11.binds (ps := ["text"]) fun _ _ _ _ _ _ us hl => match us, hl with | [_], _ => rfl, PySem.W.mg_of X G a11⟩
  have F12 := fun_mk (st := s_read_definition) l12 c12 k12
  have d_read_definition : D K mg "read_definition" s_read_definition ["text"] _ _ := ⟨F12, F12.binds (ps := ["text"]) fun _ _ _ _ _ _ us hl => match us, hl with | [_], _ => rfl, PySem.W.mg_of X G a12⟩
  have F13 := fun_mk (st := s_check_names) l13 c13 k13
  have d_check_names : D K mg "check_names" s_check_names ["known", "definitions"] _ _ := ⟨F13, F13.binds (ps := ["known", "definitions"]) fun _ _ _ _ _ _ us hl => match us, hl with | [_, _], _ => rfl, PySem.W.mg_of X G a13⟩
  have F14 := fun_mk (st := s_computed) l14 c14 k14
  have d_computed : D K mg "computed" s_computed ["steps", "known", "generator", "join", "power"] _ _ := ⟨F14, F14.binds (ps := ["steps", "known", "generator", "join", "power"]) fun _ _ _ _ _ _ us hl => match us, hl with | [_, _, _, _, _], _ => rfl, PySem.W.mg_of X G a14⟩
  have F15 := fun_mk (st := s_computed_size) l15 c15 k15
  have d_computed_size : D K mg "computed_size" s_computed_size ["steps", "sizes"] _ _ := ⟨F15, F15.binds (ps := ["steps", "sizes"]) fun _ _ _ _ _ _ us hl => match us, hl with | [_, _], _ => rfl, PySem.W.mg_of X G a15⟩
  have F16 := fun_mk (st := s_computed_depth) l16 c16 k16
  have d_computed_depth : D K mg "computed_depth" s_computed_depth ["steps", "depths"] _ _ := ⟨F16, F16.binds (ps := ["steps", "depths"]) fun _ _ _ _ _ _ us hl => match us, hl with | [_, _], _ => rfl, PySem.W.mg_of X G a16⟩
  have F17 := fun_mk (st := s_repeated) l17 c17 k17
  have d_repeated : D K mg "repeated" s_repeated ["step", "start", "times"] _ _ := ⟨F17, F17.binds (ps := ["step", "start", "times"]) fun _ _ _ _ _ _ us hl => match us, hl with | [_, _, _], _ => rfl, PySem.W.mg_of X G a17⟩
  have F18 := fun_mk (st := s_power_value) l18 c18 k18
  have d_power_value : D K mg "power_value" s_power_value ["table", "sign", "base", "number"] _ _ := ⟨F18, F18.binds (ps := ["table", "sign", "base", "number"]) fun _ _ _ _ _ _ us hl => match us, hl with | [_, _, _, _], _ => rfl, PySem.W.mg_of X G a18⟩
  have F19 := fun_mk (st := s_computed_value) l19 c19 k19
  have d_computed_value : D K mg "computed_value" s_computed_value ["table", "steps", "known"] _ _ := ⟨F19, F19.binds (ps := ["table", "steps", "known"]) fun _ _ _ _ _ _ us hl => match us, hl with | [_, _, _], _ => rfl, PySem.W.mg_of X G a19⟩
  have F20 := fun_mk (st := s_law) l20 c20 k20
  have d_law : D K mg "law" s_law ["_law_script"] _ _ := ⟨F20, F20.binds (ps := ["_law_script"]) fun _ _ _ _ _ _ us hl => match us, hl with | [_], _ => rfl, PySem.W.mg_of X G a20⟩
  have B : Blt mg := ⟨PySem.W.mg_none_of X G z_len, PySem.W.mg_none_of X G z_list, PySem.W.mg_none_of X G z_tuple, PySem.W.mg_none_of X G z_dict, PySem.W.mg_none_of X G z_bool, PySem.W.mg_none_of X G z_isinstance, PySem.W.mg_none_of X G z_max, PySem.W.mg_none_of X G z_min, PySem.W.mg_none_of X G z_range, PySem.W.mg_none_of X G z_all, PySem.W.mg_none_of X G z_sorted, PySem.W.mg_none_of X G z_enumerate, PySem.W.mg_none_of X G z_sum, PySem.W.mg_none_of X G z_str, PySem.W.mg_none_of X G z_int⟩
  have MF0R := fun_mk (st := s_Reader___init__) ml0R mc0R mk0R
  have mb0R := MF0R.binds (ps := ["self", "text"]) fun _ _ _ _ _ _ us hl => match us, hl with | [_, _], _ => rfl
  have MF1R := fun_mk (st := s_Reader_at_end) ml1R mc1R mk1R
  have mb1R := MF1R.binds (ps := ["self"]) fun _ _ _ _ _ _ us hl => match us, hl with | [_], _ => rfl
  have MF2R := fun_mk (st := s_Reader_sees) ml2R mc2R mk2R
  have mb2R := MF2R.binds (ps := ["self", "signs"]) fun _ _ _ _ _ _ us hl => match us, hl with | [_, _], _ => rfl
  have MF3R := fun_mk (st := s_Reader_take) ml3R mc3R mk3R
  have mb3R := MF3R.binds (ps := ["self", "signs"]) fun _ _ _ _ _ _ us hl => match us, hl with | [_, _], _ => rfl
  have MF4R := fun_mk (st := s_Reader_take_digits) ml4R mc4R mk4R
  have mb4R := MF4R.binds (ps := ["self", "most"]) fun _ _ _ _ _ _ us hl => match us, hl with | [_, _], _ => rfl
  have MF5R := fun_mk (st := s_Reader_take_name) ml5R mc5R mk5R
  have mb5R := MF5R.binds (ps := ["self"]) fun _ _ _ _ _ _ us hl => match us, hl with | [_], _ => rfl
  have MF6R := fun_mk (st := s_Reader_take_powers) ml6R mc6R mk6R
  have mb6R := MF6R.binds (ps := ["self"]) fun _ _ _ _ _ _ us hl => match us, hl with | [_], _ => rfl
  have MF7R := fun_mk (st := s_Reader_take_atom) ml7R mc7R mk7R
  have mb7R := MF7R.binds (ps := ["self"]) fun _ _ _ _ _ _ us hl => match us, hl with | [_], _ => rfl
  have MF8R := fun_mk (st := s_Reader_take_expression) ml8R mc8R mk8R
  have mb8R := MF8R.binds (ps := ["self"]) fun _ _ _ _ _ _ us hl => match us, hl with | [_], _ => rfl
  have MF9R := fun_mk (st := s_Reader_take_definition) ml9R mc9R mk9R
  have mb9R := MF9R.binds (ps := ["self"]) fun _ _ _ _ _ _ us hl => match us, hl with | [_], _ => rfl
  have MF10R := fun_mk (st := s_Reader_finish) ml10R mc10R mk10R
  have mb10R := MF10R.binds (ps := ["self"]) fun _ _ _ _ _ _ us hl => match us, hl with | [_], _ => rfl
  have TR : RdT K mg CpR := ⟨⟨cpgR, chdR, cpoR, csaR⟩, cn0R, cn1R, cn2R, PySem.W.mg_of X G aCR⟩
  have MF0 : FunD K "__init__" "Program.__init__" (defArgs s_Program___init__) (defBody s_Program___init__) (defScope s_Program___init__) [.str ""] [] m0 _ := ⟨⟨_, _, _, _, _, _, _, _, _, _, rfl, ml0, mc0, .inr ⟨(fun z => nomatch z), TDf, _, [.str "" tTD], nTD, rfl, lTD, rfl, .cons ⟨_, rfl⟩ .nil⟩, .inl rfl⟩, mk0⟩
  have MF1 := fun_mk (st := s_Program_include) ml1 mc1 mk1
  have mb1 := MF1.binds (ps := ["self", "definitions"]) fun _ _ _ _ _ _ us hl => match us, hl with | [_, _], _ => rfl
  have MF2 := fun_mk (st := s_Program_names) ml2 mc2 mk2
  have mb2 := MF2.binds (ps := ["self"]) fun _ _ _ _ _ _ us hl => match us, hl with | [_], _ => rfl
  have MF3 := fun_mk (st := s_Program_source) ml3 mc3 mk3
  have mb3 := MF3.binds (ps := ["self"]) fun _ _ _ _ _ _ us hl => match us, hl with | [_], _ => rfl
  have MF4 := fun_mk (st := s_Program___len__) ml4 mc4 mk4
  have mb4 := MF4.binds (ps := ["self"]) fun _ _ _ _ _ _ us hl => match us, hl with | [_], _ => rfl
  have MF5 := fun_mk (st := s_Program___eq__) ml5 mc5 mk5
  have mb5 := MF5.binds (ps := ["self", "other"]) fun _ _ _ _ _ _ us hl => match us, hl with | [_, _], _ => rfl
  have MF6 := fun_mk (st := s_Program_check_name) ml6 mc6 mk6
  have mb6 := MF6.binds (ps := ["self", "name"]) fun _ _ _ _ _ _ us hl => match us, hl with | [_, _], _ => rfl
  have MF7 := fun_mk (st := s_Program_size_of) ml7 mc7 mk7
  have mb7 := MF7.binds (ps := ["self", "name"]) fun _ _ _ _ _ _ us hl => match us, hl with | [_, _], _ => rfl
  have MF8 := fun_mk (st := s_Program_names_up_to) ml8 mc8 mk8
  have mb8 := MF8.binds (ps := ["self", "name"]) fun _ _ _ _ _ _ us hl => match us, hl with | [_, _], _ => rfl
  have MF9 := fun_mk (st := s_Program_add_definition) ml9 mc9 mk9
  have mb9 := MF9.binds (ps := ["self", "text"]) fun _ _ _ _ _ _ us hl => match us, hl with | [_, _], _ => rfl
  have MF10 := dev_mk ml10 mc10 mk10 mh10
  have T : PrT K mg Cp := ⟨⟨cpg, chd, cpo, csa⟩, cn0, cn1, cn2, cn3, PySem.W.mg_of X G aC⟩
  have CR : CstR mg := ⟨⟨_, PySem.W.mg_of X G q_CAPITALS⟩, ⟨_, PySem.W.mg_of X G q_DIGITS⟩, ⟨_, PySem.W.mg_of X G q_FIRST_DIGITS⟩, ⟨_, PySem.W.mg_of X G q_MAX_NAME_DIGITS⟩, ⟨_, PySem.W.mg_of X G q_MAX_POWER_DIGITS⟩, ⟨_, PySem.W.mg_of X G q_MAX_NESTING⟩, ⟨_, PySem.W.mg_of X G q_MAX_DEFINITIONS⟩⟩
  have nC : PySem.W.notFirst K Cp (.ref Cp) = true := by
    unfold PySem.W.notFirst
    rw [beq_self_eq_true]
    rfl
  have TE : PrE K Cp m5 := ⟨te1, te2, te3, te4, if_pos (beq_self_eq_true _), kit_for te_int te5 te6 ts_int, kit_for te_str te5 te6 ts_str, tn_int, tn_str, nC, ma5, mi5, ⟨⟨_, _, _, _, _, _, _, _, _, _, _, _, _, _, _, _, tlk, tok, teq, tne⟩, ⟨_, ml5, tfn⟩⟩⟩
  have MF0B := fun_mk (st := s_TInit) ml0B mc0B mk0B
  have mb0B := MF0B.binds (ps := ["self", "size"]) fun _ _ _ _ _ _ us hl => match us, hl with | [_, _], _ => rfl
  have MF1B := fun_mk (st := s_TChk) ml1B mc1B mk1B
  have mb1B := MF1B.binds (ps := ["self", "element"]) fun _ _ _ _ _ _ us hl => match us, hl with | [_, _], _ => rfl
  have MF2B := fun_mk (st := s_TApp) ml2B mc2B mk2B
  have mb2B := MF2B.binds (ps := ["self", "one", "other"]) fun _ _ _ _ _ _ us hl => match us, hl with | [_, _, _], _ => rfl
  have TB : TabT K mg CpB := ⟨⟨cpgB, chdB, cpoB, csaB⟩, cn0B, cn1B, PySem.W.mg_of X G aCB⟩
  have EC0 : ErrC K mg "InvalidSize" ex0 := ⟨eq0, PySem.W.mg_of X G ea0, ek0, eb0, et0⟩
  have EC1 : ErrC K mg "InvalidElement" ex1 := ⟨eq1, PySem.W.mg_of X G ea1, ek1, eb1, et1⟩
  have FL15 : FunS l.prog K mg "UnknownName" "UnknownName.__init__" s_UNInit ["self", "name"] x15 tf15 _ := ⟨⟨_, _, _, _, _, _, _, _, _, _, _, _, _, _, _, _, _, _, _, _, rfl, tl15, tci15, tco15, tcf15, tpf15, tce15⟩, ttop, ⟨⟨_, _, _, _, _, _, _, _, _, _, _, _, _, _, _, tlk15, tre15⟩, tsa15, xs15, ky15, tkp15⟩, tmr15, PySem.W.mg_none_of X G z_super, tany, tks15, tva15, ti15, tt15, Binds.all fun us hl => match us, hl with | [_, _], _ => rfl, PySem.W.mg_of X G ax15⟩
  have hne_16 : Pt ≠ PA16 := fun z => by
    rw [z] at pne_16
    simp at pne_16
  have hne_19 : Pt ≠ PA19 := fun z => by
    rw [z] at pne_19
    simp at pne_19
  have hne_16_19 : PA16 ≠ PA19 := fun z => by
    rw [z] at pne_16_19
    simp at pne_16_19
  have hne_18_19 : PA18 ≠ PA19 := fun z => by
    rw [z] at pne_18_19
    simp at pne_18_19
  have hne_18 : Pt ≠ PA18 := fun z => by
    rw [z] at pne_18
    simp at pne_18
  have hne_16_18 : PA16 ≠ PA18 := fun z => by
    rw [z] at pne_16_18
    simp at pne_16_18
  refine ⟨PySem.W.fnOf "law" "law" (defArgs s_law) (defBody s_law) (defScope s_law) .none kV20 dc20 pm20 an20 cd20 ct20, [(cL, Pt), (cA16, PA16), (cA19, PA19), (cA18, PA18)], spLawTs K [Pt, PA16, PA19, PA18], ?_, ?_, ?_, fun s v => .of_eq rfl, fun H a ns hl hb hH hS => ⟨a, ns, rfl, hS, ?_, fun _ => rfl⟩, fun base _ _ hTB => ?_⟩
  · intro p hp
    rcases List.mem_cons.mp hp with e | hp
    · rw [e]
      exact tT_L
    rcases List.mem_cons.mp hp with e | hp
    · rw [e]
      exact tT_16
    rcases List.mem_cons.mp hp with e | hp
    · rw [e]
      exact tT_19
    rw [List.mem_singleton.mp hp]
    exact tT_18
  · intro p hp
    rcases List.mem_cons.mp hp with e | hp
    · rw [e]
      exact nP
    rcases List.mem_cons.mp hp with e | hp
    · rw [e]
      exact nP_16
    rcases List.mem_cons.mp hp with e | hp
    · rw [e]
      exact nP_19
    rw [List.mem_singleton.mp hp]
    exact nP_18
  · intro p hp
    rcases List.mem_cons.mp hp with e | hp
    · rw [e]
      exact PySem.W.codeHd_of_K X (codeHd_mk lC lP11 v18 v7 v9 v10 vne)
    rcases List.mem_cons.mp hp with e | hp
    · rw [e]
      exact PySem.W.codeHd_of_K X (codeHd_mk lC_16 lP11_16 v18_16 v7_16 v9_16 v10_16 vne_16)
    rcases List.mem_cons.mp hp with e | hp
    · rw [e]
      exact PySem.W.codeHd_of_K X (codeHd_mk lC_19 lP11_19 v18_19 v7_19 v9_19 v10_19 vne_19)
    rw [List.mem_singleton.mp hp]
    exact PySem.W.codeHd_of_K X (codeHd_mk lC_18 lP11_18 v18_18 v7_18 v9_18 v10_18 vne_18)
  · intro p hp
    rcases List.mem_cons.mp hp with e | hp
    · rw [e]
      exact hH (cL, Pt) List.mem_cons_self
    rcases List.mem_cons.mp hp with e | hp
    · rw [e]
      exact hH (cA16, PA16) (List.mem_cons_of_mem _ List.mem_cons_self)
    rcases List.mem_cons.mp hp with e | hp
    · rw [e]
      exact hH (cA19, PA19) (List.mem_cons_of_mem _ (List.mem_cons_of_mem _ List.mem_cons_self))
    rw [List.mem_singleton.mp hp]
    exact hH (cA18, PA18) (List.mem_cons_of_mem _ (List.mem_cons_of_mem _ (List.mem_cons_of_mem _ List.mem_cons_self)))
  · exact ok_law d_law B (PySem.W.mg_of X G q_MAX_TABLE) EC0 EC1 FL15 xf15_name CR TR ⟨cmkR, ma0R, mi0R, ckcR⟩ MF0R mb0R ⟨MF1R, mb1R, ⟨ma1R, mi1R, mk1R⟩⟩ ⟨MF2R, mb2R, ⟨ma2R, mi2R, mk2R⟩⟩ ⟨MF3R, mb3R, ⟨ma3R, mi3R, mk3R⟩⟩ ⟨MF4R, mb4R, ⟨ma4R, mi4R, mk4R⟩⟩ ⟨MF5R, mb5R, ⟨ma5R, mi5R, mk5R⟩⟩ ⟨MF6R, mb6R, ⟨ma6R, mi6R, mk6R⟩⟩ ⟨MF7R, mb7R, ⟨ma7R, mi7R, mk7R⟩⟩ ⟨MF8R, mb8R, ⟨ma8R, mi8R, mk8R⟩⟩ ⟨MF9R, mb9R, ⟨ma9R, mi9R, mk9R⟩⟩ ⟨MF10R, mb10R, ⟨ma10R, mi10R, mk10R⟩⟩ T ⟨cmk, ma0, mi0, ckc⟩ MF0 ⟨MF1, mb1, ⟨ma1, mi1, mk1⟩⟩ ⟨MF2, mb2, ⟨ma2, mi2, mk2⟩⟩ ⟨MF3, mb3, ⟨ma3, mi3, mk3⟩⟩ ma4 mi4 MF4 mb4 MF5 mb5 TE ⟨MF6, mb6, ⟨ma6, mi6, mk6⟩⟩ ⟨MF7, mb7, ⟨ma7, mi7, mk7⟩⟩ ⟨MF8, mb8, ⟨ma8, mi8, mk8⟩⟩ ⟨MF9, mb9, ⟨ma9, mi9, mk9⟩⟩ MF10 ⟨ma10, mi10, mk10⟩ TB ⟨cmkB, ma0B, mi0B, ckcB⟩ MF0B mb0B MF1B mb1B ⟨ma1B, mi1B, mk1B⟩ MF2B mb2B ⟨ma2B, mi2B, mk2B⟩ l15 c15 (hTB (cL, Pt) List.mem_cons_self) d_computed_size l16 c16 (hTB (cA16, PA16) (List.mem_cons_of_mem _ List.mem_cons_self)) d_computed_depth l19 c19 (hTB (cA19, PA19) (List.mem_cons_of_mem _ (List.mem_cons_of_mem _ List.mem_cons_self))) d_computed_value l18 c18 (hTB (cA18, PA18) (List.mem_cons_of_mem _ (List.mem_cons_of_mem _ (List.mem_cons_of_mem _ List.mem_cons_self)))) d_power_value (by simp [hne_16, hne_19, hne_18, hne_16_19, hne_16_18, hne_18_19, Ne.symm hne_16, Ne.symm hne_19, Ne.symm hne_18, Ne.symm hne_16_19, Ne.symm hne_16_18, Ne.symm hne_18_19]) d_read_source d_read_definition d_check_names d_computed d_repeated d_entry d_rows_to_periods d__law_draws d__law_draw d__law_pick d__law_name d__law_number d__law_expression d__law_expression_text d__law_definitions d__law_source_text
theorem walk {l : PySem.W.OpenLaw} {q : Program} {loose : List Str} {XP : (Str → Option Value) → Heap → Prop} {YP : World → Heap → Prop} {d : DefRec} {K : Params → PySem.W.Frag} (hn : l.most = some 63) (hdf : d.params.defaults = [])
    (hY : ∀ (w : World) (h : Heap), YP w h → (K w.params).In h)
    (F : ∀ (w : World) (mg : Str → Option Value) (fa : Addr) (h : Heap), YP w h → (K w.params).In h → h.Ns mainGlobals mg → mg d.name = some (.ref fa) → LamX.LawAtS l w (K w.params) CX0 64 63 "_law_script" mg fa h) :
    PySem.W.WalkO q loose XP YP l.row.toRowW d [] (fun f vs => PySem.call f vs) :=
  LamX.walk_ofTs (n := 63) (k := 64) (x := "_law_script") (CX := fun _ => CX0) hn (by decide) hdf ⟨rfl, by decide, by decide⟩ hY F fun _ _ _ _ _ z => z
end U
open PySem PySem.W PyProof.Rows
set_option maxRecDepth 100000 in
set_option maxHeartbeats 0 in
theorem PySem.Challenge.cw_uponboth_k62_definitions_one_by_one_holds : PySem.Challenge.rw_uponboth_k62_definitions_one_by_one.Holds := by
  w_on; o_law; k_head; (case hw => w_witness2)
  k_fill
  refine U.walk (l := PySem.Challenge.rw_uponboth_k62_definitions_one_by_one) rfl rfl (fun w h Y => PySem.W.km_in_of Y) ?F
  case F =>
    intro w mg fa h Y KX G hmg
    refine' U.all_mk KX G hmg ?a0 ?l0 ?c0 ?k0 ?a1 ?l1 ?c1 ?k1 ?a2 ?l2 ?c2 ?k2 ?a3 ?l3 ?c3 ?k3 ?a4 ?l4 ?c4 ?k4 ?a5 ?l5 ?c5 ?k5 ?a6 ?l6 ?c6 ?k6 ?a7 ?l7 ?c7 ?k7 ?a8 ?l8 ?c8 ?k8 ?a9 ?l9 ?c9 ?k9 ?a10 ?l10 ?c10 ?k10 ?a11 ?l11 ?c11 ?k11 ?a12 ?l12 ?c12 ?k12 ?a13 ?l13 ?c13 ?k13 ?a14 ?l14 ?c14 ?k14 ?a15 ?l15 ?c15 ?k15 ?a16 ?l16 ?c16 ?k16 ?a17 ?l17 ?c17 ?k17 ?a18 ?l18 ?c18 ?k18 ?a19 ?l19 ?c19 ?k19 ?a20 ?l20 ?c20 ?k20 ?z_len ?z_list ?z_tuple ?z_dict ?z_bool ?z_isinstance ?z_max ?z_min ?z_range ?z_all ?z_sorted ?z_enumerate ?z_sum ?z_str ?z_int ?q_MAX_NAME_DIGITS ?q_MAX_POWER_DIGITS ?q_MAX_NESTING ?q_MAX_DEFINITIONS ?q_MAX_TABLE ?lC ?lP11 ?nP ?v18 ?v7 ?v9 ?v10 ?vne ?lC_16 ?lP11_16 ?nP_16 ?v18_16 ?v7_16 ?v9_16 ?v10_16 ?vne_16 ?pne_16 ?lC_19 ?lP11_19 ?nP_19 ?v18_19 ?v7_19 ?v9_19 ?v10_19 ?vne_19 ?pne_19 ?lC_18 ?lP11_18 ?nP_18 ?v18_18 ?v7_18 ?v9_18 ?v10_18 ?vne_18 ?pne_18 ?pne_16_19 ?pne_18_19 ?pne_16_18 ?aCR ?ma0R ?mi0R ?ml0R ?mc0R ?mk0R ?ma1R ?mi1R ?ml1R ?mc1R ?mk1R ?ma2R ?mi2R ?ml2R ?mc2R ?mk2R ?ma3R ?mi3R ?ml3R ?mc3R ?mk3R ?ma4R ?mi4R ?ml4R ?mc4R ?mk4R ?ma5R ?mi5R ?ml5R ?mc5R ?mk5R ?ma6R ?mi6R ?ml6R ?mc6R ?mk6R ?ma7R ?mi7R ?ml7R ?mc7R ?mk7R ?ma8R ?mi8R ?ml8R ?mc8R ?mk8R ?ma9R ?mi9R ?ml9R ?mc9R ?mk9R ?ma10R ?mi10R ?ml10R ?mc10R ?mk10R ?cpgR ?chdR ?cpoR ?csaR ?cmkR ?ckcR ?cn0R ?cn1R ?cn2R ?aC ?ma0 ?mi0 ?ml0 ?lTD ?mc0 ?mk0 ?ma1 ?mi1 ?ml1 ?mc1 ?mk1 ?ma2 ?mi2 ?ml2 ?mc2 ?mk2 ?ma3 ?mi3 ?ml3 ?mc3 ?mk3 ?ma4 ?mi4 ?ml4 ?mc4 ?mk4 ?ma5 ?mi5 ?ml5 ?mc5 ?mk5 ?ma6 ?mi6 ?ml6 ?mc6 ?mk6 ?ma7 ?mi7 ?ml7 ?mc7 ?mk7 ?ma8 ?mi8 ?ml8 ?mc8 ?mk8 ?ma9 ?mi9 ?ml9 ?mc9 ?mk9 ?ma10 ?mi10 ?ml10 ?mc10 ?mk10 ?mh10 ?cpg ?chd ?cpo ?csa ?cmk ?ckc ?cn0 ?cn1 ?cn2 ?cn3 ?q_CAPITALS ?q_DIGITS ?q_FIRST_DIGITS ?te1 ?te2 ?te3 ?te4 ?te5 ?te6 ?ts_int ?tn_int ?te_int ?ts_str ?tn_str ?te_str ?tlk ?tok ?teq ?tne ?tfn ?aCB ?ma0B ?mi0B ?ml0B ?mc0B ?mk0B ?ma1B ?mi1B ?ml1B ?mc1B ?mk1B ?ma2B ?mi2B ?ml2B ?mc2B ?mk2B ?cpgB ?chdB ?cpoB ?csaB ?cmkB ?ckcB ?cn0B ?cn1B ?ea0 ?eq0 ?ek0 ?eb0 ?et0 ?ea1 ?eq1 ?ek1 ?eb1 ?et1 ?z_super ?tany ?ttop ?ax15 ?ky15 ?xs15 ?xf15_name ?ti15 ?tt15 ?tl15 ?tci15 ?tco15 ?tcf15 ?tpf15 ?tce15 ?tlk15 ?tre15 ?tsa15 ?tkp15 ?tmr15 ?tks15 ?tva15 ?tT_L ?tT_16 ?tT_19 ?tT_18
    (case a0 => k_is)
    (case l0 => k_is)
    (case c0 => k_is)
    (case k0 => k_is)
    (case a1 => k_is)
    (case l1 => k_is)
    (case c1 => k_is)
    (case k1 => k_is)
    (case a2 => k_is)
    (case l2 => k_is)
    (case c2 => k_is)
    (case k2 => k_is)
    (case a3 => k_is)
    (case l3 => k_is)
    (case c3 => k_is)
    (case k3 => k_is)
    (case a4 => k_is)
    (case l4 => k_is)
    (case c4 => k_is)
    (case k4 => k_is)
    (case a5 => k_is)
    (case l5 => k_is)
    (case c5 => k_is)
    (case k5 => k_is)
    (case a6 => k_is)
    (case l6 => k_is)
    (case c6 => k_is)
    (case k6 => k_is)
    (case a7 => k_is)
    (case l7 => k_is)
    (case c7 => k_is)
    (case k7 => k_is)
    (case a8 => k_is)
    (case l8 => k_is)
    (case c8 => k_is)
    (case k8 => k_is)
    (case a9 => k_is)
    (case l9 => k_is)
    (case c9 => k_is)
    (case k9 => k_is)
    (case a10 => k_is)
    (case l10 => k_is)
    (case c10 => k_is)
    (case k10 => k_is)
    (case a11 => k_is)
    (case l11 => k_is)
    (case c11 => k_is)
    (case k11 => k_is)
    (case a12 => k_is)
    (case l12 => k_is)
    (case c12 => k_is)
    (case k12 => k_is)
    (case a13 => k_is)
    (case l13 => k_is)
    (case c13 => k_is)
    (case k13 => k_is)
    (case a14 => k_is)
    (case l14 => k_is)
    (case c14 => k_is)
    (case k14 => k_is)
    (case a15 => k_is)
    (case l15 => k_is)
    (case c15 => k_is)
    (case k15 => k_is)
    (case a16 => k_is)
    (case l16 => k_is)
    (case c16 => k_is)
    (case k16 => k_is)
    (case a17 => k_is)
    (case l17 => k_is)
    (case c17 => k_is)
    (case k17 => k_is)
    (case a18 => k_is)
    (case l18 => k_is)
    (case c18 => k_is)
    (case k18 => k_is)
    (case a19 => k_is)
    (case l19 => k_is)
    (case c19 => k_is)
    (case k19 => k_is)
    (case a20 => k_is)
    (case l20 => k_is)
    (case c20 => k_is)
    (case k20 => k_is)
    (case z_len => k_is)
    (case z_list => k_is)
    (case z_tuple => k_is)
    (case z_dict => k_is)
    (case z_bool => k_is)
    (case z_isinstance => k_is)
    (case z_max => k_is)
    (case z_min => k_is)
    (case z_range => k_is)
    (case z_all => k_is)
    (case z_sorted => k_is)
    (case z_enumerate => k_is)
    (case z_sum => k_is)
    (case z_str => k_is)
    (case z_int => k_is)
    (case q_MAX_NAME_DIGITS => k_is)
    (case q_MAX_POWER_DIGITS => k_is)
    (case q_MAX_NESTING => k_is)
    (case q_MAX_DEFINITIONS => k_is)
    (case q_MAX_TABLE => k_is)
    (case lC => k_is)
    (case lP11 => rfl)
    (case nP => (first | rfl | with_unfolding_all rfl | decide +revert))
    (case v18 => rfl)
    (case v7 => rfl)
    (case v9 => rfl)
    (case v10 => rfl)
    (case vne => rfl)
    (case lC_16 => k_is)
    (case lP11_16 => rfl)
    (case nP_16 => (first | rfl | with_unfolding_all rfl | decide +revert))
    (case v18_16 => rfl)
    (case v7_16 => rfl)
    (case v9_16 => rfl)
    (case v10_16 => rfl)
    (case vne_16 => rfl)
    (case pne_16 => rfl)
    (case lC_19 => k_is)
    (case lP11_19 => rfl)
    (case nP_19 => (first | rfl | with_unfolding_all rfl | decide +revert))
    (case v18_19 => rfl)
    (case v7_19 => rfl)
    (case v9_19 => rfl)
    (case v10_19 => rfl)
    (case vne_19 => rfl)
    (case pne_19 => rfl)
    (case lC_18 => k_is)
    (case lP11_18 => rfl)
    (case nP_18 => (first | rfl | with_unfolding_all rfl | decide +revert))
    (case v18_18 => rfl)
    (case v7_18 => rfl)
    (case v9_18 => rfl)
    (case v10_18 => rfl)
    (case vne_18 => rfl)
    (case pne_18 => rfl)
    (case pne_16_19 => rfl)
    (case pne_18_19 => rfl)
    (case pne_16_18 => rfl)
    (case aCR => k_is)
    (case ma0R => k_is)
    (case mi0R => k_is)
    (case ml0R => k_is)
    (case mc0R => k_is)
    (case mk0R => k_is)
    (case ma1R => k_is)
    (case mi1R => k_is)
    (case ml1R => k_is)
    (case mc1R => k_is)
    (case mk1R => k_is)
    (case ma2R => k_is)
    (case mi2R => k_is)
    (case ml2R => k_is)
    (case mc2R => k_is)
    (case mk2R => k_is)
    (case ma3R => k_is)
    (case mi3R => k_is)
    (case ml3R => k_is)
    (case mc3R => k_is)
    (case mk3R => k_is)
    (case ma4R => k_is)
    (case mi4R => k_is)
    (case ml4R => k_is)
    (case mc4R => k_is)
    (case mk4R => k_is)
    (case ma5R => k_is)
    (case mi5R => k_is)
    (case ml5R => k_is)
    (case mc5R => k_is)
    (case mk5R => k_is)
    (case ma6R => k_is)
    (case mi6R => k_is)
    (case ml6R => k_is)
    (case mc6R => k_is)
    (case mk6R => k_is)
    (case ma7R => k_is)
    (case mi7R => k_is)
    (case ml7R => k_is)
    (case mc7R => k_is)
    (case mk7R => k_is)
    (case ma8R => k_is)
    (case mi8R => k_is)
    (case ml8R => k_is)
    (case mc8R => k_is)
    (case mk8R => k_is)
    (case ma9R => k_is)
    (case mi9R => k_is)
    (case ml9R => k_is)
    (case mc9R => k_is)
    (case mk9R => k_is)
    (case ma10R => k_is)
    (case mi10R => k_is)
    (case ml10R => k_is)
    (case mc10R => k_is)
    (case mk10R => k_is)
    (case cpgR => k_is)
    (case chdR => k_is)
    (case cpoR => k_is)
    (case csaR => k_is)
    (case cmkR => k_is)
    (case ckcR => k_is)
    (case cn0R => k_is)
    (case cn1R => k_is)
    (case cn2R => k_is)
    (case aC => k_is)
    (case ma0 => k_is)
    (case mi0 => k_is)
    (case ml0 => k_is)
    (case lTD => k_is)
    (case mc0 => k_is)
    (case mk0 => k_is)
    (case ma1 => k_is)
    (case mi1 => k_is)
    (case ml1 => k_is)
    (case mc1 => k_is)
    (case mk1 => k_is)
    (case ma2 => k_is)
    (case mi2 => k_is)
    (case ml2 => k_is)
    (case mc2 => k_is)
    (case mk2 => k_is)
    (case ma3 => k_is)
    (case mi3 => k_is)
    (case ml3 => k_is)
    (case mc3 => k_is)
    (case mk3 => k_is)
    (case ma4 => k_is)
    (case mi4 => k_is)
    (case ml4 => k_is)
    (case mc4 => k_is)
    (case mk4 => k_is)
    (case ma5 => k_is)
    (case mi5 => k_is)
    (case ml5 => k_is)
    (case mc5 => k_is)
    (case mk5 => k_is)
    (case ma6 => k_is)
    (case mi6 => k_is)
    (case ml6 => k_is)
    (case mc6 => k_is)
    (case mk6 => k_is)
    (case ma7 => k_is)
    (case mi7 => k_is)
    (case ml7 => k_is)
    (case mc7 => k_is)
    (case mk7 => k_is)
    (case ma8 => k_is)
    (case mi8 => k_is)
    (case ml8 => k_is)
    (case mc8 => k_is)
    (case mk8 => k_is)
    (case ma9 => k_is)
    (case mi9 => k_is)
    (case ml9 => k_is)
    (case mc9 => k_is)
    (case mk9 => k_is)
    (case ma10 => k_is)
    (case mi10 => k_is)
    (case ml10 => k_is)
    (case mc10 => k_is)
    (case mk10 => k_is)
    (case mh10 => k_is)
    (case cpg => k_is)
    (case chd => k_is)
    (case cpo => k_is)
    (case csa => k_is)
    (case cmk => k_is)
    (case ckc => k_is)
    (case cn0 => k_is)
    (case cn1 => k_is)
    (case cn2 => k_is)
    (case cn3 => k_is)
    (case q_CAPITALS => k_is)
    (case q_DIGITS => k_is)
    (case q_FIRST_DIGITS => k_is)
    (case te1 => k_is)
    (case te2 => k_is)
    (case te3 => k_is)
    (case te4 => k_is)
    (case te5 => k_is)
    (case te6 => k_is)
    (case ts_int => k_is)
    (case tn_int => k_is)
    (case te_int => rfl)
    (case ts_str => k_is)
    (case tn_str => k_is)
    (case te_str => rfl)
    (case tlk => k_is)
    (case tok => (first | k_is | kernel_rfl | decide +kernel | rfl))
    (case teq => k_is)
    (case tne => k_is)
    (case tfn => rfl)
    (case aCB => k_is)
    (case ma0B => k_is)
    (case mi0B => k_is)
    (case ml0B => k_is)
    (case mc0B => k_is)
    (case mk0B => k_is)
    (case ma1B => k_is)
    (case mi1B => k_is)
    (case ml1B => k_is)
    (case mc1B => k_is)
    (case mk1B => k_is)
    (case ma2B => k_is)
    (case mi2B => k_is)
    (case ml2B => k_is)
    (case mc2B => k_is)
    (case mk2B => k_is)
    (case cpgB => k_is)
    (case chdB => k_is)
    (case cpoB => k_is)
    (case csaB => k_is)
    (case cmkB => k_is)
    (case ckcB => k_is)
    (case cn0B => k_is)
    (case cn1B => k_is)
    (case ea0 => k_is)
    (case eq0 => k_exc)
    (case ek0 => k_is)
    (case eb0 => k_is)
    (case et0 => k_is)
    (case ea1 => k_is)
    (case eq1 => k_exc)
    (case ek1 => k_is)
    (case eb1 => k_is)
    (case et1 => k_is)
    (case z_super => k_is)
    (case tany => k_is)
    (case ttop => (first | rfl | decide +kernel))
    (case ax15 => k_is)
    (case ky15 => k_is)
    (case xs15 => k_is)
    (case xf15_name => k_is)
    (case ti15 => k_is)
    (case tt15 => k_is)
    (case tl15 => k_is)
    (case tci15 => k_is)
    (case tco15 => k_is)
    (case tcf15 => rfl)
    (case tpf15 => (first | rfl | decide +kernel))
    (case tce15 => k_is)
    (case tlk15 => k_is)
    (case tre15 => rfl)
    (case tsa15 => k_is)
    (case tkp15 => k_is)
    (case tmr15 => k_is)
    (case tks15 => ks_is)
    (case tva15 => k_is)
    (case tT_L => exact PySem.W.km_tabs_of Y _ (by decide))
    (case tT_16 => exact PySem.W.km_tabs_of Y _ (by decide))
    (case tT_19 => exact PySem.W.km_tabs_of Y _ (by decide))
    (case tT_18 => exact PySem.W.km_tabs_of Y _ (by decide))
