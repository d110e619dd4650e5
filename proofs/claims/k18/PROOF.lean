import PyProof.Rows.All
import Wide.All
import OpenK.AllK
import Wide.FinOn
import HandS.Base
import HandS.Call
import HandS.List
import HandS.Comp
import HandS.Ends
import HandS.Words
import HandS.WordsList
import HandS.IsInst
import HandS.Codes
import HandS.ForMost
import HandS.ForExc
import HandS.FStr
import HandS.Style
import HandS.Hot
import HandS.HotCalls
import HandS.Lambda
import HandS.ExcIs
import HandS.Rev
import HandS.More
import HandS.StrMore
import PyProof.StrBlock2
import PyProof.FactsAll.list_3
import HandS.TupAny
import HandS.TupMul
import HandS.Defaults
import KE.KRevSl
import KE.KDflt
import KE.GoesMore
import HandS.EndTab
import HandS.EndOwn
import KE.KNestM
import HandS.ExcOwn
import HandS.ExcInit
import HandS.ExcField
import KE.KExcSuper
import KE.KExcIs
import KE.RegKSuper
import HandS.Dict
import HandS.More
import PySem.Challenge.RW_uponboth_k18_moves
set_option Elab.async false
set_option linter.all false
set_option maxRecDepth 100000
set_option maxHeartbeats 4000000
namespace U
open PySem L2
/-! ### what stands behind the top: a def by its name; the built-in names -/
structure D (K : PySem.W.Frag) (mg : Str → Option Value) (x : Str) (st : Stmt) (ps : List Str) (f : Addr) (fd : FuncData) : Prop where
  F : Fun K x x st f fd
  b : Binds K fd ps []
  m : mg x = some (.ref f)

/-! ### trees -/
inductive Tree where
  | L
  | N (l r : Tree)
namespace Tree
def sz : Tree → Nat
  | L => 1
  | N l r => sz l + sz r
def dp : Tree → Nat
  | L => 0
  | N l r => max (dp l) (dp r) + 1
def d : Tree → PyData
  | L => .tuple []
  | N l r => .tuple [d l, d r]
theorem sz_pos : ∀ t : Tree, 0 < t.sz
  | L => Nat.zero_lt_one
  | N l r => by
    have h := sz_pos l
    show 0 < l.sz + r.sz
    omega
theorem d_lay : ∀ t : Tree, t.d.canLay0 = true
  | L => rfl
  | N l r => by
    show ((PyData.canLay0 l.d) && ((PyData.canLay0 r.d) && true)) = true
    rw [d_lay l, d_lay r]
    rfl
theorem d_depth : ∀ t : Tree, t.d.depth = t.dp + 1
  | L => rfl
  | N l r => by
    show max l.d.depth (max r.d.depth 0) + 1 = max l.dp r.dp + 1 + 1
    rw [d_depth l, d_depth r]
    omega
theorem shaped {t : Tree} (h : t.dp ≤ 63) : SeqAt.shaped t.d = true := by
  unfold SeqAt.shaped
  rw [d_lay, d_depth, decide_eq_true (by omega)]
  rfl
def isL : Tree → Bool
  | L => true
  | N _ _ => false
theorem eqvL (t : Tree) : PyData.eqv t.d (.tuple []) = t.isL := by cases t <;> rfl
end Tree
abbrev TA (K : PySem.W.Frag) (H : Hp) (v : V) (t : Tree) : Prop := Dp K H v t.d
theorem shapedE : SeqAt.shaped (.tuple []) = true := by decide +kernel

/-! ### heaps: what is a tuple stays one -/
def Tp (H H' : Hp) : Prop := ∀ b xs, Rd H b (.tup xs) → Rd H' b (.tup xs)
theorem Tp.refl (H : Hp) : Tp H H := fun _ _ h => h
theorem Tp.trans {H H1 H2 : Hp} (a : Tp H H1) (b : Tp H1 H2) : Tp H H2 := fun c o h => b c o (a c o h)
theorem Tp.same {H H' : Hp} (e : Same H H') : Tp H H' := fun b xs h => by
  rcases h with h | ⟨o, h⟩
  · exact .inl (e _ _ h)
  · exact .inr ⟨o, e _ _ h⟩
def But (r : Addr) (H H' : Hp) : Prop := ∀ b o, b ≠ r → H b = some o → H' b = some o
theorem But.trans {r : Addr} {H H1 H2 : Hp} (a : But r H H1) (b : But r H1 H2) : But r H H2 := fun c o n h => b c o n (a c o n h)
theorem But.same {r : Addr} {H H' : Hp} (e : Same H H') : But r H H' := fun b o _ h => e b o h
theorem But.set {r : Addr} {H : Hp} {o : HO} : But r H (upd H r o) := fun b z n h => by rw [upd_ne n]; exact h
theorem Tp.but {r : Addr} {H H' : Hp} {ys : List V} (hr : H r = some (.lst ys)) (e : But r H H') : Tp H H' := fun b xs h => by
  rcases h with h | ⟨o, h⟩
  · exact .inl (e _ _ (ne_of h hr (by intro z; cases z)) h)
  · exact .inr ⟨o, e _ _ (ne_of h hr (by intro z; cases z)) h⟩
theorem Same.new {H : Hp} {p : Addr} (h : H p = none) (o : HO) : Same H (upd H p o) := fun b u q => by rw [upd_ne (ne_of_none q h)]; exact q
theorem Tp.sqT {K : PySem.W.Frag} {H H' : Hp} {a : Addr} {xs : List V} (e : Tp H H') (h : SqT K H a xs) : SqT K H' a xs := by
  rcases h with h | h
  · exact .inl (e _ _ h)
  · exact .inr h
theorem SqT.here {K : PySem.W.Frag} {H : Hp} {a : Addr} {xs : List V} (h : H a = some (.tup xs)) : SqT K H a xs := .inl (.inl h)
theorem SqL.here {K : PySem.W.Frag} {H : Hp} {a : Addr} {xs : List V} (h : H a = some (.lst xs)) : SqL K H a xs := .inl (.inl h)

section
variable {K : PySem.W.Frag} {H H' : Hp}
theorem ta_leaf {a : Addr} (h : SqT K H a []) : TA K H (.ref a) .L := Dp.tup h .nil
theorem ta_node {a : Addr} {x y : V} {l r : Tree} (h : SqT K H a [x, y]) (hl : TA K H x l) (hr : TA K H y r) : TA K H (.ref a) (.N l r) := Dp.tup h (.cons hl (.cons hr .nil))
theorem ta_invL {v : V} (h : TA K H v .L) : ∃ a, v = .ref a ∧ SqT K H a [] := by
  cases h with
  | tup hs ha =>
    cases ha
    exact ⟨_, rfl, hs⟩
theorem ta_invN {v : V} {l r : Tree} (h : TA K H v (.N l r)) : ∃ a x y, v = .ref a ∧ SqT K H a [x, y] ∧ TA K H x l ∧ TA K H y r := by
  cases h with
  | tup hs ha =>
    cases ha with
    | cons h1 h2 =>
      cases h2 with
      | cons h3 h4 =>
        cases h4
        exact ⟨_, _, _, rfl, hs, h1, h3⟩
theorem ta_inv : ∀ {v : V} {t : Tree}, TA K H v t → ∃ a xs, v = .ref a ∧ SqT K H a xs
  | _, .L, h => by
    obtain ⟨a, e, q⟩ := ta_invL h
    exact ⟨a, _, e, q⟩
  | _, .N _ _, h => by
    obtain ⟨a, x, y, e, q, _⟩ := ta_invN h
    exact ⟨a, _, e, q⟩
theorem ta_mono (e : Tp H H') : ∀ {t : Tree} {v : V}, TA K H v t → TA K H' v t
  | .L, v, h => by
    obtain ⟨a, rfl, q⟩ := ta_invL h
    exact ta_leaf (e.sqT q)
  | .N l r, v, h => by
    obtain ⟨a, x, y, rfl, q, h1, h2⟩ := ta_invN h
    exact ta_node (e.sqT q) (ta_mono e h1) (ta_mono e h2)
mutual
theorem dp_same (e : Same H H') : ∀ (d : PyData) {v : V}, Dp K H v d → Dp K H' v d
  | .none, _, h => by
    cases h
    exact .non
  | .bool b, _, h => by
    cases h
    exact .bl b
  | .int i, _, h => by
    cases h
    exact .int i
  | .str x, _, h => by
    cases h
    exact .str x
  | .list ds, _, h => by
    cases h with
    | lst hs ha => exact .lst (e.seq hs) (dp_sameAll e ds ha)
  | .tuple ds, _, h => by
    cases h with
    | tup hs ha => exact .tup ((Tp.same e).sqT hs) (dp_sameAll e ds ha)
  | .dict _, _, h => by cases h
theorem dp_sameAll (e : Same H H') : ∀ (ds : List PyData) {vs : List V}, DpAll K H vs ds → DpAll K H' vs ds
  | [], _, h => by
    cases h
    exact .nil
  | d :: ds, _, h => by
    cases h with
    | cons h1 h2 => exact .cons (dp_same e d h1) (dp_sameAll e ds h2)
end
end
theorem one_le : 1 ≤ sizeLine := by decide
theorem two_le : 2 ≤ sizeLine := by decide
theorem zero_le' : 0 ≤ sizeLine := by decide
theorem four_le : 4 ≤ sizeLine := by decide
theorem ite_eq {b c : Bool} {A B : Prop} (e : b = c) (h : if c = true then A else B) : if b = true then A else B := e ▸ h
theorem ite_yes {b : Bool} {A B : Prop} (e : b = true) (h : A) : if b = true then A else B := by rw [if_pos e]; exact h
theorem ite_no {b : Bool} {A B : Prop} (e : b = false) (h : B) : if b = true then A else B := by rw [e]; exact iteF h
theorem tyx_tup {K : PySem.W.Frag} {H : Hp} {a : Addr} {xs : List V} (h : SqT K H a xs) : TyX K H (.ref a) (.type "tuple") := by
  rcases h with (h | ⟨o, h⟩) | ⟨o, its, n, h, c, _⟩
  · exact .base (.tup h)
  · exact .fTuple h
  · exact .kTuple h c
theorem tyx_lst {K : PySem.W.Frag} {H : Hp} {a : Addr} {xs : List V} (h : SqL K H a xs) : TyX K H (.ref a) (.type "list") := by
  rcases h with (h | ⟨o, h⟩) | ⟨o, its, n, h, c, _⟩
  · exact .base (.lst h)
  · exact .base (.frz h)
  · exact .kList h c
def Tree.nodes : Tree → Nat
  | .L => 1
  | .N l r => l.nodes + r.nodes + 1
/-! ### enumerate(a text): each sign in a new pair -/
def ItES (z : Str) : It :=
  ⟨fun j _ => j < z.cps.size, fun j G v G' => ∃ q c, v = .ref q ∧ G q = none ∧ G' = upd G q (.tup [.int (j : Nat), .str ⟨#[c]⟩]) ∧ z.cps[j]? = some c, fun j _ => z.cps.size ≤ j⟩
theorem draws_text {Pr : Program} {wo : World} {Ar : Around} (calm : Ar.handled = none) (it : Addr) (z : Str) (tk : Tok) :
    PySem.Draws Pr wo Ar it [it] z.cps.size (fun j v => ∃ c u, z.cps[j]? = some c ∧ v = .str ⟨#[c]⟩ u) (fun j g => g.IsStrIter it (PySem.strIterType z) z tk j) := by
  unfold PySem.strIterType
  cases z.cps.all (· < 128)
  · exact PySem.Draws.strWide calm it z tk
  · exact PySem.Draws.strAscii calm it z tk
theorem turn_ES {Pr : Program} {wo : World} {Kf : PySem.W.Frag} {ts : List Expr} {nn : Nat} {tp : Pos} (en it : Addr) (z : Str) (tk : Tok) :
    Turn Pr wo Kf (.Tuple ts nn tp) (ItES z) [en, it] en (fun j g => (∃ old, PySem.IsEnum g en it ((j : Nat) : Int) old) ∧ g.IsStrIter it (PySem.strIterType z) z tk j ∧ en ≠ it ∧ j ≤ z.cps.size) where
  mem := List.mem_cons_self
  obj := fun j g st b hb => by
    obtain ⟨⟨old, h1⟩, ⟨ob, h2, h3, h4⟩, _⟩ := st
    rcases List.mem_cons.mp hb with rfl | hb
    · exact ⟨_, h1, fun v q => nomatch q⟩
    · cases List.mem_singleton.mp hb
      refine ⟨ob, h2, fun v q => ?_⟩
      rw [h4] at q
      cases q
  keep := fun j g g' st kk => by
    obtain ⟨⟨old, h1⟩, ⟨ob, h2, h3⟩, h5⟩ := st
    exact ⟨⟨old, kk en List.mem_cons_self _ h1⟩, ⟨ob, kk it (List.mem_cons_of_mem _ List.mem_cons_self) _ h2, h3⟩, h5⟩
  item := by
    intro X e1 e2 e3 calm j pins s σ G Ex inv fp st lt
    cases e1
    cases e2
    cases e3
    obtain ⟨⟨old, h1⟩, h2, ne, le⟩ := st
    have l1 : en < s.heap.objs.size := Heap.lt_size h1
    have l2 : it < s.heap.objs.size := by
      obtain ⟨_, y, _⟩ := h2
      exact Heap.lt_size y
    refine PySem.wpAny_pyNext_enum_itemD (draws_text (show X.A.in1.handled = none from inv.ok.hd calm) it z tk) h1 h2 lt ne (fun y => ne (List.mem_singleton.mp y)) fun u g' t2 hu out h2' hT sz kp => ?_
    obtain ⟨c, u', hc, rfl⟩ := hu
    refine ⟨_, rfl, PySem.wpAny_letOwnedTupleGo_enum (s := { s with heap := g', toks := t2 + 1 }) out fun g'' h1' sb => ?_⟩
    have hT' : g''.get? s.heap.objs.size = some { cls := .type "tuple", data := .seq #[.int j t2, .str ⟨#[c]⟩ u'] } := (sb.2 _ (Nat.ne_of_gt l1)).trans hT
    have made : ObjOk X.prog X.w (upd G s.heap.objs.size (.tup [.int (j : Nat), .str ⟨#[c]⟩])) g'' s.heap.objs.size (.tup [.int (j : Nat), .str ⟨#[c]⟩]) :=
      ⟨two_le, [.int j t2, .str ⟨#[c]⟩ u'], .cons ⟨_, rfl⟩ (.cons ⟨_, rfl⟩ .nil), ⟨_, hT', rfl, _, rfl⟩⟩
    have inv' : Inv X pins σ (upd G s.heap.objs.size (.tup [.int (j : Nat), .str ⟨#[c]⟩])) { s with heap := g'', toks := t2 + 1 } := by
      refine Inv.turnedNew (ch := [en, it]) inv (fun b ob nb y => ?_) fp (Nat.le_refl _) made
      have n1 : b ≠ en := fun y => nb (by rw [y]; exact List.mem_cons_self)
      have n2 : b ≠ it := fun y => nb (by rw [y]; exact List.mem_cons_of_mem _ List.mem_cons_self)
      exact (sb.2 b n1).trans (kp b ob n1 n2 y)
    refine ⟨.ref s.heap.objs.size, _, inv', rfl, ⟨_, c, rfl, inv.hok.fresh (Nat.le_refl _), rfl, hc⟩, ⟨⟨.str ⟨#[c]⟩ u', ?_⟩, ?_, ne, lt⟩, fun b hb => ?_⟩
    · rw [show (((j + 1 : Nat) : Nat) : Int) = (j : Int) + 1 by omega]
      exact h1'
    · obtain ⟨ob, y1, y2⟩ := h2'
      exact ⟨ob, (sb.2 it (Ne.symm ne)).trans y1, y2⟩
    · have lb : b < s.heap.objs.size := by
        rcases List.mem_cons.mp hb with rfl | hb
        · exact l1
        · cases List.mem_singleton.mp hb
          exact l2
      rw [upd_ne (Nat.ne_of_lt lb)]
      exact (fp b hb).1
  done := by
    intro X e1 e2 e3 calm j pins s σ G Ex inv fp st ge
    cases e1
    cases e2
    cases e3
    obtain ⟨⟨old, h1⟩, h2, ne, le⟩ := st
    have ej : j = z.cps.size := Nat.le_antisymm le ge
    subst ej
    obtain ⟨f0, f1, f2, f3, f4, f5⟩ := fp it (List.mem_cons_of_mem _ List.mem_cons_self)
    exact PySem.wpAny_pyNext_enum_endD (draws_text (show X.A.in1.handled = none from inv.ok.hd calm) it z tk) h1 h2 fun g' eb => ⟨rfl, inv.turned (t' := s.toks) (fun b o nb y => eb b o nb y) f0 f1 f3 f4 f5⟩
  self := fun Ar j s Q Ex st y => by
    obtain ⟨⟨_, h1⟩, _⟩ := st
    exact PySem.wpAny_pyIter_enum h1 y
def iES (ta : L2.TA) : TI := fun σ G R => ta σ G fun vs G1 => ∃ z : Str, vs = [.str z] ∧ R (ItES z) G1
theorem pi_ES {X : Cx} {ex : Expr} {ta : L2.TA} {p pos tp : Pos} {ts : List Expr} {nn : Nat} (gl : Gl X "enumerate") (mm : X.mg "enumerate" = none) (ha : PA X [ex] ta) (hs : starEach [ex] X.env = [(false, eval ex X.env)] := by rfl) :
    PI X (.Tuple ts nn tp) (.Call (.Name "enumerate" p) [ex] [] pos) (iES ta) := by
  refine ⟨fun pins s σ G R inv y => ?_⟩
  refine PyProof.Rows.Call_ (ld_blt inv gl mm PyProof.Rows.boot_enumerate (PyProof.Rows.callWith_type1 (thn (ha.run pos pins s σ G _ inv y) fun us s1 ⟨vs, G1, inv1, r1, q1⟩ => ?_) hs rfl))
  obtain ⟨z, rfl, q⟩ := q1
  cases r1 with
  | cons r rr =>
    cases rr
    obtain ⟨tk, rfl⟩ := r
    refine PySem.call_enumerate_str fun g' h1 h2 sz kp => PySem.wpAny_pyIter_enum h1 ?_
    refine ⟨s1.heap.objs.size + 1, [s1.heap.objs.size + 1, s1.heap.objs.size], _, _, G1, rfl, inv1.kept (t' := s1.toks) kp, turn_ES (s1.heap.objs.size + 1) s1.heap.objs.size z tk, ⟨⟨.none, h1⟩, h2, Nat.succ_ne_self _, Nat.zero_le _⟩, fun b hb => ?_, q⟩
    have ge : s1.heap.objs.size ≤ b := by
      rcases List.mem_cons.mp hb with rfl | hb
      · exact Nat.le_succ _
      · cases List.mem_singleton.mp hb
        exact Nat.le_refl _
    exact inv1.fpOk ge (inv1.hok.fresh ge)
theorem for_ES {z : Str} {g : TG} {tb : TS} {D : Ends} {σ : L2.St} {G : Hp} (Pv : Nat → L2.St → Hp → Prop) (h0 : Pv 0 σ G)
    (hs : ∀ j c σ G, z.cps[j]? = some c → Pv j σ G → ∀ q, G q = none → g (.ref q) σ (upd G q (.tup [.int (j : Nat), .str ⟨#[c]⟩])) fun σ2 G2 => tb { D with nx := Pv (j + 1), ct := Pv (j + 1), bk := D.nx } σ2 G2) (hd : ∀ σ G, Pv z.cps.size σ G → D.nx σ G) :
    ∃ Wd : Nat → Nat → L2.St → Hp → Prop, (∃ m, Wd 0 m σ G) ∧ ∀ j m σ G, Wd j m σ G →
      ((ItES z).stop j G ∧ D.nx σ G) ∨ ((ItES z).go j G ∧ ∃ Nn : L2.St → Hp → Prop, (∀ σ' G', Nn σ' G' → ∃ m', m' < m ∧ Wd (j + 1) m' σ' G') ∧ ∀ v G', (ItES z).yld j G v G' → g v σ G' fun σ2 G2 => tb { D with nx := Nn, ct := Nn, bk := D.nx } σ2 G2) := by
  refine ⟨fun j m σ G => m = z.cps.size - j ∧ j ≤ z.cps.size ∧ Pv j σ G, ⟨_, rfl, Nat.zero_le _, h0⟩, ?_⟩
  rintro j m σ G ⟨rfl, le, pv⟩
  rcases Nat.lt_or_ge j z.cps.size with lt | ge
  · refine .inr ⟨lt, Pv (j + 1), fun σ' G' y => ⟨z.cps.size - (j + 1), by omega, rfl, lt, y⟩, fun v G' y => ?_⟩
    obtain ⟨q, c, rfl, nq, rfl, hc⟩ := y
    exact hs j c σ G hc pv q nq
  · have ej : j = z.cps.size := Nat.le_antisymm le ge
    subst ej
    exact .inl ⟨Nat.le_refl _, hd σ G pv⟩
/-! ### iterators at their end while an exception is handled -/
section
variable {Pr : Program} {wo : World} {Ar : Around} {Ex : Value → Shared → Prop} {st : Shared}
open HotX
/-- a StopIteration, made and raised there: all that stood stands -/
theorem stop_hot {α : Type} {xh : Addr} {Qa : α → Shared → Prop} (hot : HotAt Ar xh st.heap) (k : ∀ g (a : Addr), (∀ b o, st.heap.get? b = some o → g.get? b = some o) → (∃ o, g.get? a = some o ∧ o.cls = .type "StopIteration") → Ex (.ref a) { st with heap := g }) :
    wpAny (model Pr wo) Ar (newExc (.type "StopIteration") [] >>= fun e => (raiseNew e : Sem α)) Qa Ex st := by
  obtain ⟨hh, oe, ve, e1, e2, e3⟩ := hot
  simp only [newExc, newTuple]
  refine wpAny_bind (wpAny_bind (wpAny_newObj_type (wpAny_bind (m := firstArgMember _ _) (wpAny_of_eq (a := Value.none) (by first | rfl | (simp only [firstArgMember]; rfl)) (wpAny_newObj_type ?_ (by size_fits)))) (by size_fits)))
  refine raiseNew_hot (x1 := xh) ⟨hh, oe, ve, Heap.get?_push_of_some _ (Heap.get?_push_of_some _ e1), e2, e3⟩ (Nat.ne_of_lt (Heap.lt_size (Heap.get?_push_of_some _ e1))) (Heap.get?_push_size _ rfl) rfl (by first | (simp; done) | (simp; omega)) ?_
  refine k _ _ (fun b o y => ?_) ⟨_, Heap.get?_update_self _ (Heap.get?_push_size _ rfl) rfl, rfl⟩
  rw [Heap.get?_update_other _ _ (Nat.ne_of_gt (Heap.lt_size (Heap.get?_push_of_some _ y)))]
  exact Heap.get?_push_of_some _ (Heap.get?_push_of_some _ y)
theorem list_end_hot {ite lis xh : Addr} {j : Nat} {its : Array Value} {Qn : Option Value → Shared → Prop} (hot : HotAt Ar xh st.heap) (nxi : xh ≠ ite) (hi : st.heap.IsListIter ite lis j) (hL : st.heap.IsList lis its) (out : its[j]? = none)
    (k : ∀ g, Heap.ExtBut ite st.heap g → Qn none { st with heap := g }) : wpAny (model Pr wo) Ar (pyNext (.ref ite)) Qn Ex st := by
  obtain ⟨oi, h1, h2, h3⟩ := id hi
  obtain ⟨ol, h4, _, nl, h5⟩ := hL
  obtain ⟨hh, oe, ve, e1, e2, e3⟩ := hot
  unfold pyNext
  refine wpAny_bind (wpAny_attempt (wpAny_callSpecial?_slot (name := Str.ofString "__next__") hi.typeIs PySem.slot_listiter_next (wpAny_call_entry PySem.slot_listiter_next hi.typeIs PySem.entry_listiter_next ?_ (PySem.args_listiter_next _))))
  show wpAny _ _ (field (.ref ite) 0 >>= _) _ _ st
  refine wpAny_bind (wpAny_field h1 h3 (x := .ref lis) rfl ?_)
  show wpAny _ _ (if (Value.ref lis == Value.none) = true then _ else _) _ _ st
  rw [if_neg (show ¬ ((Value.ref lis == Value.none) = true) from Bool.false_ne_true)]
  show wpAny _ _ (field (.ref ite) 1 >>= _) _ _ st
  refine wpAny_bind (wpAny_field h1 h3 (x := .int j 0) rfl ?_)
  show wpAny _ _ (seqItems? (.ref lis) >>= _) _ _ st
  refine wpAny_bind (wpAny_seqItems h4 h5 ?_)
  simp only [Int.toNat_natCast, out]
  refine wpAny_bind (wpAny_rule (wpAny_bind (wpAny_setField h1 h3 (by simp) ?_)))
  have hot' : HotAt Ar.in1 xh (st.heap.update ite (Obj.mapFields (·.setIfInBounds 0 Value.none))) := ⟨hh, oe, ve, by rw [Heap.get?_update_other _ _ nxi.symm]; exact e1, e2, e3⟩
  refine stop_hot hot' fun g a kp ha => ?_
  obtain ⟨oa, y1, y2⟩ := ha
  refine wpAny_bind (wpAny_isInstance (T := "StopIteration") (b := true) ⟨oa, y1, y2⟩ PySem.isSubtype_stop (wpAny_pure (k _ fun b o nb y => kp b o ?_)))
  rw [Heap.get?_update_other _ _ (Ne.symm nb)]
  exact y
theorem tuple_end_hot {ite tup xh : Addr} {j : Nat} {its : Array Value} {Qn : Option Value → Shared → Prop} (hot : HotAt Ar xh st.heap) (nxi : xh ≠ ite) (hi : PyProof.Rows.IsTupIter st.heap ite tup j) (hT : PyProof.Rows.IsTup st.heap tup its) (out : its[j]? = none)
    (k : ∀ g, Heap.ExtBut ite st.heap g → Qn none { st with heap := g }) : wpAny (model Pr wo) Ar (pyNext (.ref ite)) Qn Ex st := by
  obtain ⟨oi, h1, h2, h3⟩ := id hi
  obtain ⟨ol, h4, _, nl, h5⟩ := hT
  obtain ⟨hh, oe, ve, e1, e2, e3⟩ := hot
  unfold pyNext
  refine wpAny_bind (wpAny_attempt (wpAny_callSpecial?_slot (name := Str.ofString "__next__") hi.typeIs PySem.F.slot_tuple_iterator_next (wpAny_call_entry PySem.F.slot_tuple_iterator_next hi.typeIs PySem.F.entry_tuple_iterator_next ?_ (PySem.F.args_tuple_iterator_next_1 _))))
  show wpAny _ _ (field (.ref ite) 0 >>= _) _ _ st
  refine wpAny_bind (wpAny_field h1 h3 (x := .ref tup) rfl ?_)
  show wpAny _ _ (if (Value.ref tup == Value.none) = true then _ else _) _ _ st
  rw [if_neg (show ¬ ((Value.ref tup == Value.none) = true) from Bool.false_ne_true)]
  show wpAny _ _ (field (.ref ite) 1 >>= _) _ _ st
  refine wpAny_bind (wpAny_field h1 h3 (x := .int j 0) rfl ?_)
  show wpAny _ _ (seqItems? (.ref tup) >>= _) _ _ st
  refine wpAny_bind (wpAny_seqItems h4 h5 ?_)
  simp only [Int.toNat_natCast, out]
  refine wpAny_bind (wpAny_rule (wpAny_bind (wpAny_setField h1 h3 (by simp) ?_)))
  have hot' : HotAt Ar.in1 xh (st.heap.update ite (Obj.mapFields (·.setIfInBounds 0 Value.none))) := ⟨hh, oe, ve, by rw [Heap.get?_update_other _ _ nxi.symm]; exact e1, e2, e3⟩
  refine stop_hot hot' fun g a kp ha => ?_
  obtain ⟨oa, y1, y2⟩ := ha
  refine wpAny_bind (wpAny_isInstance (T := "StopIteration") (b := true) ⟨oa, y1, y2⟩ PySem.isSubtype_stop (wpAny_pure (k _ fun b o nb y => kp b o ?_)))
  rw [Heap.get?_update_other _ _ (Ne.symm nb)]
  exact y
/-- a, b = a tuple, there -/
theorem unpack_hot {tup xh : Addr} {its : Array Value} {Ql : List Value → Shared → Prop} (hot : HotAt Ar xh st.heap) (hT : PyProof.Rows.IsTup st.heap tup its)
    (k : ∀ g, Heap.ExtBut st.heap.objs.size st.heap g → Ql its.toList { st with heap := g }) : wpAny (model Pr wo) Ar (unpackItems (.ref tup) its.size none) Ql Ex st := by
  have nt : tup ≠ st.heap.objs.size := by
    obtain ⟨o, y, _⟩ := hT
    exact Nat.ne_of_lt (Heap.lt_size y)
  obtain ⟨hh, oe, ve, e1, e2, e3⟩ := hot
  have nx : xh ≠ st.heap.objs.size := Nat.ne_of_lt (Heap.lt_size e1)
  unfold unpackItems
  refine wpAny_bind ?_
  unfold notIterableAtAll
  refine wpAny_bind (wpAny_specialOf hT.typeIs PyProof.Rows.slot_tuple_iter.lookup (wpAny_pure ?_))
  simp only [Bool.false_eq_true, if_false]
  refine wpAny_bind (wpAny_holding (PyProof.Rows.iter_tuple hT (wpAny_bind (wpAny_holding (PyProof.Rows.draw_tuple nt its.size 0 _ _ ⟨_, Heap.get?_push_size _ rfl, rfl, rfl⟩ (hT.push _) (by omega) fun g1 hi1 sb1 => ?_)))))
  rw [show List.take its.size (List.drop 0 its.toList) = its.toList by rw [List.drop_zero]; exact List.take_of_length_le (by simp), if_neg (by simp)]
  have hT1 : PyProof.Rows.IsTup g1 tup its := (hT.push _).extBut sb1.extBut nt
  have hot1 : HotAt Ar xh g1 := ⟨hh, oe, ve, sb1.extBut _ _ nx (Heap.get?_push_of_some _ e1), e2, e3⟩
  refine wpAny_bind (wpAny_holding (tuple_end_hot (st := { st with heap := g1 }) hot1 nx hi1 hT1 (by simp) fun g2 eb2 => ?_))
  simp only [Option.isSome_none, Bool.false_eq_true, if_false]
  exact wpAny_pure (k g2 fun b o nb y => eb2 b o nb (sb1.extBut b o nb (Heap.get?_push_of_some _ y)))
end
/-! ### a context in which an exception is handled that stood when it began -/
structure HotB (X : Cx) (xh : Addr) (oh : Obj) : Prop where
  hnd : X.A.handled = some (.ref xh)
  obj : X.s_0.heap.get? xh = some oh
  dat : ∃ vs : Array Value, oh.data = .fields vs ∧ vs[2]? = some .none
  unt : X.H_0 xh = none
  nfs : xh ∉ X.fs
  nex : xh ∉ X.ex
section
variable {X : Cx} {pins : List (Addr × Obj)} {σ : L2.St} {H : Hp} {s : Shared} {xh : Addr} {oh : Obj}
theorem HotB.get (h : HotB X xh oh) (I : Inv X pins σ H s) : s.heap.get? xh = some oh := I.base.keep xh oh h.obj h.unt h.nfs h.nex
theorem HotB.hot (h : HotB X xh oh) (I : Inv X pins σ H s) : HotX.HotAt X.A xh s.heap := by
  obtain ⟨vs, d1, d2⟩ := h.dat
  exact ⟨h.hnd, oh, vs, h.get I, d1, d2⟩
theorem HotB.none (h : HotB X xh oh) (I : Inv X pins σ H s) : H xh = Option.none := I.base.free xh oh h.obj h.unt h.nex
theorem HotB.nloc (h : HotB X xh oh) (I : Inv X pins σ H s) : xh ≠ X.env.locals := fun z => by
  obtain ⟨m, ⟨o, es, ep, e1, e2, _⟩, _⟩ := I.loc
  obtain ⟨vs, d1, _⟩ := h.dat
  have g := h.get I
  rw [z, e1] at g
  cases g
  rw [d1] at e2
  cases e2
theorem HotB.blk (h : HotB X xh oh) (I : Inv X pins σ H s) (scope : Scope) (ce : Env) {fp : List Addr} (hf : xh ∉ fp) : HotB (X.blk s H scope ce fp) xh oh :=
  ⟨h.hnd, h.get I, h.dat, h.none I, fun z => (List.mem_cons.mp (I.stkSub xh z)).elim (h.nloc I) h.nfs, hf⟩
/-- (a, b) = a tuple, there -/
theorem pg_tupB {es : List Expr} {k : Nat} {t : TGs} {n : Nat} {pos : Pos} (hb : HotB X xh oh) (h : PGs X es t)
    (hn : (assignEach es X.env).length = n := by rfl) (hst : (assignEach es X.env).findIdx? (·.1) = Option.none := by rfl) : PG X (.Tuple es k pos) (gTup X.K n t) := by
  refine ⟨fun pins s σ H v u Q I r y => ?_⟩
  obtain ⟨a, xs, rfl, hq, hl, y⟩ := y
  cases r
  obtain ⟨its, rv, hT, hz⟩ := I.tuple hq
  have e1 : (assignEach es X.env).length = its.toArray.size := by
    rw [List.size_toArray, hn, ← hl, rv.length]
  rw [PyProof.Rows.assign_Tuple]
  refine wpAny_bind (wpAny_standAt ?_)
  unfold unpack
  rw [e1, hst]
  refine wpAny_bind (wpAny_holding (unpack_hot (hb.hot I) hT fun g eb => ?_))
  have I1 : Inv X pins σ H { s with heap := g } := I.kept (t' := s.toks) fun b o e => eb b o (Nat.ne_of_lt (Heap.lt_size e)) e
  exact h.run pins _ σ H xs _ Q I1 (by simpa using rv) y
/-- [elt for tg in a list if ..], there -/
def tLcB (K : PySem.W.Frag) (tl : TE) (g : TG) (tt : TT) (te : TE) (vs : List Nat) : TE := fun σ H Q => tl σ H fun x H1 => ∃ a xs, x = .ref a ∧ SqL K H1 a xs ∧ ∀ D, H1 D = Option.none → ∃ Pv : Nat → Hp → Prop, Pv 0 (upd H1 D (.lst [])) ∧ (∀ i G, i ≤ xs.length → Pv i G → SqL K G a xs) ∧
  (∀ i v G, xs[i]? = some v → Pv i G → g v (wipe σ vs) G fun σ2 G2 => wipe σ2 vs = wipe σ vs ∧ tt σ2 G2 fun b G3 => if b = true then te σ2 G3 fun y G4 => ∃ acc, G4 D = some (.lst acc) ∧ acc.length < sizeLine ∧ Pv (i + 1) (upd G4 D (.lst (acc ++ [y]))) else Pv (i + 1) G3) ∧ ∀ G, Pv xs.length G → Q (.ref D) G
theorem pe_lcB {elt tg iter : Expr} {ifs : List Expr} {scope : Scope} {own : List (Str × Nat)} {pos : Pos} {tl : TE} {g : TG} {tt : TT} {te : TE} (hb : HotB X xh oh) (hN : X.N.Nodup) (hi : PE X iter tl) (ok : BlkOk X.N X.env.scope scope own)
    (hg : ∀ (s : Shared) (H : Hp) (C : Addr) (cl : List (Str × Addr)) (fp : List Addr), HotB (X.blk s H scope (compEnvC scope cl C X.env) fp) xh oh → PG (X.blk s H scope (compEnvC scope cl C X.env) fp) tg g)
    (ht : ∀ (s : Shared) (H : Hp) (C : Addr) (cl : List (Str × Addr)) (fp : List Addr), PTs (X.blk s H scope (compEnvC scope cl C X.env) fp) ifs tt)
    (he : ∀ (s : Shared) (H : Hp) (C : Addr) (cl : List (Str × Addr)) (fp : List Addr), PE (X.blk s H scope (compEnvC scope cl C X.env) fp) elt te) (hs : ∀ x, foldedSetIterable iter X.env x = pure x := by intro _; rfl) :
    PE X (.ListComp elt [⟨tg, iter, ifs, 0⟩] scope pos) (tLcB X.K tl g tt te (own.map (·.2))) := by
  refine ⟨fun pins s σ H Q I h => ?_⟩
  rw [eval_ListComp]
  have hfree : ∀ y ∈ scope.names, y.2 = .free → ∃ c, X.env.cells.lookup y.1 = some c := fun y hy e => (ok.free y hy e).elim (fun k => I.ok.has _ (.inl k)) (fun k => I.ok.has _ (.inr k))
  refine wpAny_comprehension_free (use := Option.none) rfl hs (closure_ok hfree) ok.kind (fun y hy e => by rw [ok.uniq y hy, e]) (thn (hi.run pins s σ H _ I h) fun xv s1 ⟨x, H1, I1, r1, a, xs, ex, hL, k⟩ => ?_)
  subst ex
  cases r1
  obtain ⟨its, rv, hl, hz⟩ := I1.list hL
  refine PySem.wpAny_pyIter_list hl.isList ?_
  -- the iterator's object, the new list, the block's frame
  have I2 : Inv X pins σ H1 { s1 with heap := s1.heap.push { cls := .type "list_iterator", data := .fields #[.ref a, .int 0 0] } } := I1.kept (t' := s1.toks) fun b o e => Heap.get?_push_of_some _ e
  have hit2 : ({ s1 with heap := s1.heap.push { cls := .type "list_iterator", data := .fields #[.ref a, .int 0 0] } } : Shared).heap.IsListIter s1.heap.objs.size a 0 := ⟨_, Heap.get?_push_size _ rfl, rfl, rfl⟩
  have it0 : H1 s1.heap.objs.size = Option.none := I1.hok.fresh (Nat.le_refl _)
  have fit : FpOk X pins H1 s1.heap.objs.size := I1.fpOk (Nat.le_refl _) it0
  have nxi : xh ≠ s1.heap.objs.size := Nat.ne_of_lt (Heap.lt_size (hb.get I1))
  have ltit : s1.heap.objs.size < ({ s1 with heap := s1.heap.push { cls := .type "list_iterator", data := .fields #[.ref a, .int 0 0] } } : Shared).heap.objs.size := by
    show _ < (s1.heap.push _).objs.size
    rw [Heap.size_push]
    exact Nat.lt_succ_self _
  generalize ({ s1 with heap := s1.heap.push { cls := .type "list_iterator", data := .fields #[.ref a, .int 0 0] } } : Shared) = s2 at *
  generalize s1.heap.objs.size = it at *
  refine wpAny_newObj_type (newEnv_comp ?_) (by show 0 ≤ sizeLine; decide)
  obtain ⟨Pv, p0, pl, pt, pd⟩ := k s2.heap.objs.size (I2.hok.fresh (Nat.le_refl _))
  have I3 : Inv X pins σ (upd H1 s2.heap.objs.size (.lst [])) { s2 with heap := s2.heap.push { cls := .type "list", data := .seq ([] : List Value).toArray } } :=
    I2.laid (t' := s2.toks) (fun b o e => Heap.get?_push_of_some _ e) (Nat.le_refl _) ⟨Nat.zero_le _, [], 0, .nil, Heap.get?_push_size _ rfl⟩
  have hit3 : ({ s2 with heap := s2.heap.push { cls := .type "list", data := .seq ([] : List Value).toArray } } : Shared).heap.IsListIter it a 0 := by
    obtain ⟨o, y1, y2⟩ := hit2
    exact ⟨o, Heap.get?_push_of_some _ y1, y2⟩
  have lt3 : it < ({ s2 with heap := s2.heap.push { cls := .type "list", data := .seq ([] : List Value).toArray } } : Shared).heap.objs.size := by
    show _ < (s2.heap.push _).objs.size
    rw [Heap.size_push]
    exact Nat.lt_succ_of_lt ltit
  have fit3 : FpOk X pins (upd H1 s2.heap.objs.size (.lst [])) it := ⟨by rw [upd_ne (Nat.ne_of_lt ltit)]; exact it0, fit.2⟩
  generalize hDD : s2.heap.objs.size = D at *
  generalize ({ s2 with heap := s2.heap.push { cls := .type "list", data := .seq ([] : List Value).toArray } } : Shared) = s3 at *
  generalize upd H1 D (.lst []) = H3 at *
  have I4 := block_start I3 ok hN (fp := [it]) fun b hm => by
    rw [List.mem_singleton.mp hm]
    exact ⟨fit3, lt3⟩
  -- the block's context, by letters
  have hotB := fun ce => hb.blk I3 scope ce (fp := [it]) fun z => nxi (List.mem_singleton.mp z)
  have pg := fun cl => hg s3 H3 s3.heap.objs.size cl [it] (hotB _)
  have pts := fun cl => ht s3 H3 s3.heap.objs.size cl [it]
  have pe := fun cl => he s3 H3 s3.heap.objs.size cl [it]
  have hit4 : ({ s3 with heap := pushCells (s3.heap.push { cls := .type "dict", data := .dict #[] }) scope.names } : Shared).heap.IsListIter it a 0 := by
    obtain ⟨o, y1, y2⟩ := hit3
    exact ⟨o, pushCells_keeps _ _ _ _ (Heap.get?_push_of_some _ y1), y2⟩
  show codeAny _ _ (.compStart (.ListComp elt [⟨tg, iter, ifs, 0⟩] scope pos) 0 (.ref it) (.ref D) (compEnvC scope (cellsFrom (s3.heap.objs.size + 1) scope.names (cloFrom X.env.cells scope.names [])) s3.heap.objs.size X.env)) (compPost (model X.prog X.w) X.A X.xe Option.none (EP X pins σ Q) (.ref D) s3.heap.objs.size) { s3 with heap := pushCells (s3.heap.push { cls := .type "dict", data := .dict #[] }) scope.names }
  specialize pg (cellsFrom (s3.heap.objs.size + 1) scope.names (cloFrom X.env.cells scope.names []))
  specialize pts (cellsFrom (s3.heap.objs.size + 1) scope.names (cloFrom X.env.cells scope.names []))
  specialize pe (cellsFrom (s3.heap.objs.size + 1) scope.names (cloFrom X.env.cells scope.names []))
  have eL : (compEnvC scope (cellsFrom (s3.heap.objs.size + 1) scope.names (cloFrom X.env.cells scope.names [])) s3.heap.objs.size X.env).locals = s3.heap.objs.size := rfl
  generalize compEnvC scope (cellsFrom (s3.heap.objs.size + 1) scope.names (cloFrom X.env.cells scope.names [])) s3.heap.objs.size X.env = ce at *
  generalize ({ s3 with heap := pushCells (s3.heap.push { cls := .type "dict", data := .dict #[] }) scope.names } : Shared) = s4 at *
  have hb4 := hotB ce
  have mem1 : it ∈ [it] := List.mem_singleton.mpr rfl
  have fpk : ∀ {σ' : L2.St} {G : Hp} {s' : Shared}, Inv (X.blk s3 H3 scope ce [it]) [] σ' G s' → G it = Option.none → FpOk (X.blk s3 H3 scope ce [it]) [] G it := fun {σ' G s'} J g0 =>
    ⟨g0, (J.ok.exf it mem1).1, J.ok.exfs it mem1, .inl mem1, fun y c e => (J.ok.exf it mem1).2 y c e, fun p hp => absurd (show p ∈ ([] : List (Addr × Obj)) ++ [] from hp) (by simp)⟩
  have loop : ∀ s4 : Shared, Inv (X.blk s3 H3 scope ce [it]) [] (wipe σ (own.map (·.2))) H3 s4 → s4.heap.IsListIter it a 0 → codeAny (model X.prog X.w) X.A (.compLoop (.ListComp elt [⟨tg, iter, ifs, 0⟩] scope pos) 0 (.ref it) (.ref D) ce) (compPost (model X.prog X.w) X.A X.xe Option.none (EP X pins σ Q) (.ref D) s3.heap.objs.size) s4 := by
    intro s4 I4 hit4
    refine compLoop_any (fun n s' => ∃ j G, n = xs.length - j ∧ j ≤ xs.length ∧ Inv (X.blk s3 H3 scope ce [it]) [] (wipe σ (own.map (·.2))) G s' ∧ s'.heap.IsListIter it a j ∧ G it = Option.none ∧ Pv j G) ?_ _ ⟨0, H3, rfl, Nat.zero_le _, I4, hit4, fit3.1, p0⟩
    rintro n s5 ⟨j, G, rfl, le, I5, hi5, g5, pv⟩
    have hL5 : SqL (X.blk s3 H3 scope ce [it]).K G a xs := pl j G le pv
    obtain ⟨its5, rv5, hl5, hz5⟩ := I5.list hL5
    obtain ⟨f0, f1, f2, f3, f4, f5⟩ := fpk I5 g5
    rcases Nat.lt_or_ge j xs.length with lt | ge
    · obtain ⟨u, hu, ru⟩ := rv5.get (List.getElem?_eq_getElem lt)
      refine PySem.wpAny_pyNext_list_item hi5 hl5.isList (x := u) (by simpa using hu) fun g6 hi6 sb6 => ?_
      have I6 : Inv (X.blk s3 H3 scope ce [it]) [] (wipe σ (own.map (·.2))) G { s5 with heap := g6 } := I5.turned (t' := s5.toks) (fun b o nb e => (sb6.2 b nb).trans e) f0 f1 f3 f4 f5
      obtain ⟨o6, y1, y2, y3⟩ := id hi6
      refine go_of (s := { s5 with heap := g6 }) y1 y2 y3 (by decide) ?_
      have I6p := I6.pinned (fp := [it]) (fun b hm => by rw [List.mem_singleton.mp hm]; exact fpk I6 g5) (fun b hm => by rw [List.mem_singleton.mp hm]; exact ⟨o6, y1, fun v z => by rw [y3] at z; cases z⟩)
      refine thnF (pg.run _ _ _ G _ u _ I6p ru (pt j _ G (List.getElem?_eq_getElem lt) pv)) fun _ s8 ⟨σ8, H8, I8, hw8, q8⟩ => ?_
      refine thnF (pts.run _ s8 σ8 H8 _ I8 q8) fun b s9 ⟨H9, I9, q9⟩ => ?_
      have fin : ∀ {s' : Shared} {G' : Hp}, Inv (X.blk s3 H3 scope ce [it]) ([] ++ pinsAt [it] g6) σ8 G' s' → Pv (j + 1) G' → ∃ m, m < xs.length - j ∧ ∃ j' G', m = xs.length - j' ∧ j' ≤ xs.length ∧ Inv (X.blk s3 H3 scope ce [it]) [] (wipe σ (own.map (·.2))) G' s' ∧ s'.heap.IsListIter it a j' ∧ G' it = Option.none ∧ Pv j' G' := fun {s' G'} J nx => by
        have pin := J.pin (it, o6) (List.mem_append_right _ (List.mem_append_right _ (mem_pinsAt mem1 y1)))
        have hln : (wipe σ (own.map (·.2))).length = σ8.length := by rw [← hw8, wipe_length]
        refine ⟨xs.length - (j + 1), by omega, j + 1, G', rfl, lt, (J.unpinned (pins := [])).weak hln (fun i v e => ?_), ⟨o6, pin.1, y2, y3⟩, pin.2.1, nx⟩
        rw [← hw8] at e
        exact (wipe_some e).1
      cases b with
      | false =>
        simp only [Bool.false_eq_true, if_false] at q9 ⊢
        exact fin I9 q9
      | true =>
        simp only [if_true] at q9 ⊢
        refine thnF (pe.run _ s9 σ8 H9 _ I9 q9) fun z s10 ⟨yv, H10, I10, r10, acc, hD10, hz10, nx⟩ => ?_
        exact app_ok (X := X.blk s3 H3 scope ce [it]) I10 hD10 hz10 r10 fun s11 I11 => fin I11 nx
    · have ej : j = xs.length := Nat.le_antisymm le ge
      subst ej
      refine list_end_hot (hb4.hot I5) nxi hi5 hl5.isList (by have := rv5.length; simp; omega) fun g6 eb => ?_
      have I6 : Inv (X.blk s3 H3 scope ce [it]) [] (wipe σ (own.map (·.2))) G { s5 with heap := g6 } := I5.turned (t' := s5.toks) (fun b o nb e => eb b o nb e) f0 f1 f3 f4 f5
      have I7 : Inv X pins σ G { s5 with heap := g6 } := I3.call' (ch := [it]) I6.os I6.base I6.hok I6.bare fun b hm => by
        rw [List.mem_singleton.mp hm]
        exact ⟨fit3.2.2.2.1, fit3.2.1, fit3.2.2.2.2.1, fit3.2.2.2.2.2⟩
      have nC : G s3.heap.objs.size = Option.none := by
        have z : G ce.locals = Option.none := I6.free
        rw [eL] at z
        exact z
      obtain ⟨m, hn, _⟩ := I6.loc
      have hn : g6.Ns ce.locals m := hn
      rw [eL] at hn
      obtain ⟨k0, k1, k2, k3, k4, k5⟩ := I3.fpOk (Nat.le_refl _) nC
      exact ⟨m, hn, fun g7 sb => ⟨.ref D, G, I7.turned (t' := s5.toks) (fun b o nb e => (sb.2 b nb).trans e) k0 k1 k3 k4 k5, rfl, pd G pv⟩⟩
  refine codeAny_compStart_list (loop s4 I4 hit4) ?_
  exact PySem.wpAny_pyIter_listiter hit4 (loop s4 I4 hit4)
end
open PySem.Spec PyProof.Rows
/-! ### isinstance of the handled exception, wherever it was handed -/
def rIsB (K : PySem.W.Frag) (D xh : Addr) : List V → Hp → VK → Prop := fun vs H Q => ∃ (c : V) (u : Value) (b : Bool), vs = [.ref xh, c] ∧ ClsV c u ∧ PySem.W.kitOne K (.ref D) u = some b ∧ Q (.bl b) H
theorem call_isB {X : Cx} {xh D : Addr} {oh : Obj} (hb : HotB X xh oh) (C : ExcC X.K D) (hc : oh.cls = .ref D) (hd : oh.dict = none) : CallR X (.builtin "isinstance") (rIsB X.K D xh) := by
  intro pins s σ H vs us Q I r y
  obtain ⟨c, u, b, rfl, kc, e, q⟩ := y
  obtain ⟨u1, u2, rfl, r1, r2⟩ := vals2 r
  cases (show u1 = Value.ref xh from r1)
  have e2 := kc.eq r2
  subst e2
  obtain ⟨ws, d1, _⟩ := hb.dat
  have J : PySem.W.InstAt s.heap xh oh D none := by
    have g := hb.get I
    obtain ⟨oc, od, oda, osl⟩ := oh
    dsimp only at hc hd d1
    subst hc hd d1
    exact ⟨g, rfl, rfl, trivial⟩
  exact PySem.W.kia_one (PySem.W.handS_kitx_exc C.hg C.hk C.hs C.hd C.ha C.hn C.ht C.hm) I.kIn J e (fun z => nomatch z) fun tk => ⟨.bl b, H, I.tok tk, rfl, q⟩
/-! ### a def called while an exception is handled, that exception told -/
structure HotP (A : Around) (outer : List Env) (H : Hp) (s : Shared) (xh : Addr) (oh : Obj) : Prop where
  hnd : A.handled = some (.ref xh)
  dat : ∃ vs : Array Value, oh.data = .fields vs ∧ vs[2]? = some .none
  pin : L2H.PinOk outer H s (xh, oh)
theorem HotP.b {CX : CXT} {P : Program} {w : World} {K : PySem.W.Frag} {mg : Str → Option Value} {base : Heap} {N : List Str} {qual : Str} {scope : Scope} {f : Addr} {cd : Value} {A : Around} {outer : List Env} {s : Shared} {H : Hp} {E : XK} {xh : Addr} {oh : Obj} (h : HotP A outer H s xh oh) :
    HotB (L2H.cxH CX P w K mg base N qual scope f cd A outer s H E (xh, oh)) xh oh := ⟨h.hnd, h.pin.get, h.dat, h.pin.free, h.pin.nofs, fun z => nomatch (show xh ∈ ([] : List Addr) from z)⟩
/-- its promise: sp with the exception told -/
def FnB (P : Program) (w : World) (K : PySem.W.Frag) (mg : Str → Option Value) (base : Heap) (k : Nat) (f : Addr) (fd : FuncData) (ps : List Str) (sp : Addr → Value → Option Addr → Sp) : Prop :=
  ∀ (A : Around) (outer : List Env) (s : Shared) (H : Hp) (args : Args) (us : List Value) (vs : List V) (Q : VK) (xh : Addr) (oh : Obj), L2H.RoomH k A → HotP A outer H s xh oh → Env0 P w K mg base A outer s H → BindsTo s fd args (ps.zip us) → Vals vs us → vs.length = ps.length → sp xh oh.cls oh.dict vs H Q E0 →
    codeAny (model P w) A (.call (.ref f) args) (CR CX0 outer P w H s Q E0) s
theorem Fun.okB {P : Program} {w : World} {K : PySem.W.Frag} {mg : Str → Option Value} {base : Heap} {x qual : Str} {st : Stmt} {f : Addr} {fd : FuncData} {N ps : List Str} {k : Nat} {sp : Addr → Value → Option Addr → Sp} (F : L2.Fun K x qual st f fd) (S : FnScope N ps (defScope st))
    (body : ∀ (cdv : Value) (A : Around) (outer : List Env) (s : Shared) (H : Hp) (vs : List V) (Q : VK) (xh : Addr) (oh : Obj), L2H.RoomH k (A.deeper (PyProof.Rows.envOfC qual (defScope st) s.heap.objs.size f cdv)) → HotB (L2H.cxH CX0 P w K mg base N qual (defScope st) f cdv A outer s H E0 (xh, oh)).nox xh oh → sp xh oh.cls oh.dict vs H Q E0 →
      ∃ t, PSs (L2H.cxH CX0 P w K mg base N qual (defScope st) f cdv A outer s H E0 (xh, oh)).nox (defBody st) t ∧ t { nx := fun _ H' => Q .non H', rt := Q } (L2.start N vs) H) : FnB P w K mg base (k + 1) f fd ps sp := by
  obtain ⟨oc, od, kV, doc, pm, an, cdv, ct, osl, rfl, lk, hcd⟩ := F.ex
  intro A outer s H args us vs Q xh oh hr hp e0 hb r hl hsp
  have KX : K.In s.heap := e0.mod.kin.keeps fun b o e => (e0.bs b o e).1
  have hkind : ∀ y ∈ ps.zip us, (defScope st).names.lookup y.1 = some .local ∨ ((defScope st).names.lookup y.1 = some .cell ∧ ((cellsFrom (s.heap.objs.size + 1) (defScope st).names []).lookup y.1).isSome = true) := by
    rintro ⟨n, v⟩ hy
    exact (S.par n (List.of_mem_zip hy).1).imp id fun q => ⟨q, PySem.W.cellsFrom_some _ _ _ (.inl q)⟩
  refine codeAny_call_function hr.depth (KX _ _ lk) rfl S.co S.gen rfl (PySem.W.codeRec_of KX hcd) (hb _ _ _ _ (wpAny_newFunctionEnv_cells S.kind hkind fun env he s1 y => ?_))
  subst he
  refine ⟨(e0.mod.nolimit.keeps fun b o e => (e0.bs b o e).1).keeps y.toInCall.keep, codeAny_func ?_⟩
  have hB := hp.b (CX := CX0) (P := P) (w := w) (K := K) (mg := mg) (base := base) (N := N) (qual := qual) (scope := defScope st) (f := f) (cd := cdv) (E := E0)
  obtain ⟨t, ht, hq⟩ := body cdv A outer s H vs Q xh oh (hr.deeper _) ⟨hB.hnd, hB.obj, hB.dat, hB.unt, hB.nfs, hB.nex⟩ hsp
  have I : Inv (L2H.cxH CX0 P w K mg base N qual (defScope st) f cdv A outer s H E0 (xh, oh)) [] (L2.start N vs) H s1 := L2H.inv_startH S hp.pin e0 hl r y
  refine wpAny_mono (ht.run [] s1 (L2.start N vs) H _ (I.wish _) hq) (fun fl s' z => ?_) fun _ _ z => z.elim
  have z' : SP (L2H.cxH CX0 P w K mg base N qual (defScope st) f cdv A outer s H E0 (xh, oh)) [] { nx := fun _ H' => Q .non H', rt := Q } fl s' := z.unwish
  cases fl with
  | ret u =>
    obtain ⟨v, σ', H', J, rv, q⟩ := z'
    exact ⟨v, H', J.os, J.bare, J.base, J.hok, rv, q⟩
  | next =>
    obtain ⟨σ', H', J, q⟩ := z'
    exact ⟨V.non, H', J.os, J.bare, J.base, J.hok, rfl, q⟩
  | brk => exact z'.elim fun _ y => y.elim fun _ y => y.2.elim
  | cont => exact z'.elim fun _ y => y.elim fun _ y => y.2.elim
/-! ### calls of such defs, out of the suite or out of another such def -/
structure HotG (X : Cx) (xh : Addr) (oh : Obj) : Prop where
  hnd : X.A.handled = some (.ref xh)
  dat : ∃ vs : Array Value, oh.data = .fields vs ∧ vs[2]? = some .none
  at_ : ∀ {pins : List (Addr × Obj)} {σ : L2.St} {H : Hp} {s : Shared}, Inv X pins σ H s → s.heap.get? xh = some oh ∧ H xh = none ∧ xh ≠ X.env.locals ∧ xh ∉ X.fs
theorem HotB.g {X : Cx} {xh : Addr} {oh : Obj} (h : HotB X xh oh) : HotG X xh oh := ⟨h.hnd, h.dat, fun I => ⟨h.get I, h.none I, h.nloc I, h.nfs⟩⟩
theorem hotG_suite {X : Cx} {a : Addr} {oe : Obj} {pn : List (Addr × Obj)} {cls : Value} {d : Option Addr} (hz : L2N.Zn cls d oe) (hf : ∃ vs, oe.data = .fields vs) : HotG (X.suite a ((a, oe) :: pn)) a oe := by
  obtain ⟨vs, e⟩ := hf
  refine ⟨rfl, ⟨vs, e, hz.2.2 vs e⟩, fun I => ?_⟩
  obtain ⟨h1, h2, h3, h4, _⟩ := I.pin (a, oe) (List.mem_append_left _ List.mem_cons_self)
  exact ⟨h1, h2, h3, h4⟩
theorem HotG.p {X : Cx} {xh : Addr} {oh : Obj} (h : HotG X xh oh) {pins : List (Addr × Obj)} {σ : L2.St} {H : Hp} {s : Shared} (I : Inv X pins σ H s) : HotP X.A X.stack H s xh oh := by
  obtain ⟨h1, h2, h3, h4⟩ := h.at_ I
  obtain ⟨vs, d1, d2⟩ := h.dat
  exact ⟨h.hnd, h.dat, h1, h2, fun z => (List.mem_cons.mp (I.stkSub xh z)).elim h3 h4, fun v z => by rw [d1] at z; cases z⟩
def tCallG (sp : Addr → Value → Option Addr → Sp) (xh : Addr) (cls : Value) (dd : Option Addr) (n : Nat) (t : L2.TA) : TE := fun σ H Q => t σ H fun vs H1 => vs.length = n ∧ sp xh cls dd vs H1 Q E0
theorem pe_callG {X : Cx} {k : Nat} {f : Addr} {fd : FuncData} {ps : List Str} {sp : Addr → Value → Option Addr → Sp} {xh : Addr} {oh : Obj} {x : Str} {p pos : Pos} {e : Expr} {es : List Expr} {t : L2.TA} (G : FnB X.prog X.w X.K X.mg X.base k f fd ps sp) (hr : L2H.RoomH k X.A) (hg : HotG X xh oh) {cls : Value} {dd : Option Addr} (hcl : oh.cls = cls) (hdd : oh.dict = dd) (gl : Gl X x) (hm : X.mg x = some (.ref f)) (hk : PySem.W.keepIn X.K (.ref f) = true) (hb : Binds X.K fd ps [])
    (ha : PA X (e :: es) t) (hdb : (x == ("__debug__" : Str)) = false := by decide) (he : starEach (e :: es) X.env = (false, eval e X.env) :: starEach es X.env := by rfl) (hpl : (backTo pos (starEach es X.env)).any (·.1) = false := by rfl) :
    PE X (.Call (.Name x p) (e :: es) [] pos) (tCallG sp xh cls dd ps.length t) := by
  subst hcl hdd
  refine ⟨fun pins s σ H Q I y => ?_⟩
  refine wpAny_Call_Name_kw (ld_glob I gl hm (PySem.W.callWith_K (h₀ := X.base) I.ok.mod.kin hk (thn (ha.run pos pins s σ H _ I y) fun us s1 ⟨vs, H1, I1, r, q⟩ => ⟨I1.kIn, ?_⟩) he hpl) hdb)
  obtain ⟨hl, q⟩ := q
  have hu : us.length = ps.length := by rw [← r.length, hl]
  have hbb : BindsTo s1 fd ⟨us, []⟩ (ps.zip us) := by
    have z := hb s1 us I1.kIn (by rw [List.append_nil]; exact hu)
    rw [List.append_nil] at z
    exact z
  refine wpAny_call (codeAny_mono (G X.A X.stack s1 H1 ⟨us, []⟩ us vs Q xh oh hr (hg.p I1) I1.env0 hbb r hl q) fun rs s' hq => ?_)
  cases rs with
  | error e => exact False.elim hq
  | ok fl =>
    cases fl with
    | ret u => exact I1.after hq
    | next => exact False.elim hq
    | brk => exact False.elim hq
    | cont => exact False.elim hq
/-! ### a lambda without parameters handed to a def, its errors told with their context -/
def lamCxN (X : Cx) (A : Around) (outer : List Env) (s : Shared) (H : Hp) (E : XK) (scope : Scope) (f c : Addr) : Cx :=
  (LamX.lamCx X A outer s H E scope f c).wish fun e s' => wpAny (model X.prog X.w) (A.deeper (LamX.lamEnv X scope s.heap.objs.size f c)) (leaving (LamX.lamEnv X scope s.heap.objs.size f c) e) (fun _ s2 => L2N.CX X.prog X.w outer H s E e s2) (fun e2 s2 => L2N.CX X.prog X.w outer H s E e2 s2) s'
theorem pe_actN {X : Cx} {pins : List (Addr × Obj)} {σ : L2.St} {H : Hp} {s : Shared} {CXg : CXT} {Eg : XK} {Ng : List Str} {qg : Str} {sg : Scope} {g f c : Addr} {cdg pm ctv : Value} {params : Arguments} {body : Expr} {scope : Scope} {k i : Nat} {a : Str} {pn : List (Addr × Obj)} {xe : Value → Shared → Prop} {W : WX} {E : L2.St → XK} {tb : XK → TE} {p1 p2 : Pos}
    (I : Inv X pins σ H s) (L : LamX.LamS X.env.scope scope) (hf : s.heap.get? f = some (PySem.W.kla_obj "<lambda>" (X.env.qual ++ "<lambda>") params body scope (cloFrom X.env.cells scope.names []) pm c ctv)) (hfn : H f = none) (hfr : f ∉ frs X.stack)
    (hbind : bindArgs (PySem.W.kla_fn "<lambda>" (X.env.qual ++ "<lambda>") params body scope (cloFrom X.env.cells scope.names []) pm (.ref c) ctv) ⟨[], []⟩ = pure [])
    (tk : L2N.Takes ((cxOf CXg X.prog X.w X.K X.mg X.base Ng qg sg g cdg X.A X.stack s H Eg).tr pn xe) W) (hW : ∀ cls d σ2 H2, E σ2 cls d H2 → W cls d σ2 H2) (hr : Room (k + 1) (X.A.deeper (envOfC qg sg s.heap.objs.size g cdg)))
    (hbody : ∀ (A : Around) (outer : List Env) (s : Shared) (H : Hp) (E : XK), Room k (A.deeper (LamX.lamEnv X scope s.heap.objs.size f c)) → PE (lamCxN X A outer s H E scope f c) body (tb E))
    (hN : Ng[i]? = some a) (hv : Vis sg a) (hd : (a == ("__debug__" : Str)) = false := by decide) (hcd : (a == ("__classdict__" : Str)) = false := by decide) :
    PE ((cxOf CXg X.prog X.w X.K X.mg X.base Ng qg sg g cdg X.A X.stack s H Eg).tr pn xe) (.Call (.Name a p1) [] [] p2) (fun σZ HZ Q => σZ[i]? = some (some (.ref f)) ∧ HZ c = some (LamX.CodeO c (X.env.qual ++ "<lambda>")) ∧ tb (E σZ) σ HZ Q) := by
  refine ⟨fun pz sz σz Hz Q Iz ⟨hs, hc, y⟩ => ?_⟩
  refine wpAny_Call_Name_kw (thn ((pe_var (pos := p1) (i := i) hN hv hd hcd).run pz sz σz Hz (fun v H1 => v = .ref f ∧ H1 = Hz) Iz ⟨.ref f, hs, rfl, rfl⟩) fun u s1 ⟨v, H1, I1, r1, ev, eH⟩ => ?_)
  subst ev eH
  cases (show u = Value.ref f from r1)
  have of1 := I1.base.keep f _ hf hfn hfr (fun z => nomatch (show f ∈ ([] : List Addr) from z))
  refine PySem.W.callWith_F0 ⟨_, _, _, _, of1⟩ ?_
  obtain ⟨⟨oc, vs, t, hoc, hdc, hvc⟩, _, _⟩ := I1.hok c _ hc
  have run : codeAny (model X.prog X.w) (X.A.deeper (envOfC qg sg s.heap.objs.size g cdg)) (.call (.ref f) ⟨[], []⟩) (CR (L2N.CX X.prog X.w) (envOfC qg sg s.heap.objs.size g cdg :: X.stack) X.prog X.w H1 s1 Q (E σz)) s1 := by
    refine PySem.W.kla_callFunE hr.depth of1 rfl L.co L.gen rfl ⟨c, oc, vs, t, rfl, hoc, hdc, hvc⟩ ?_
    rw [hbind]
    refine wpAny_pure (wpAny_newFunctionEnv (fun y hy => (L.own y hy).2) (fun y hy => absurd hy (by simp)) (fun g1 hns hsb => ⟨I1.nolimit.fresh _ hsb, ?_⟩) L.kind)
    have kp : ∀ b o, s1.heap.get? b = some o → g1.get? b = some o := fun b o e => hsb.extBut b o (Nat.ne_of_lt (Heap.lt_size e)) (Heap.get?_push_of_some _ e)
    have J := LamX.lam_start2 (E := E σz) (f := f) (c' := c) (tk := s1.toks + ([] : List (Str × Value)).length) I L I1.env0 hr.hd I1.base hns kp
    refine PySem.W.kla_codeExpr (wpAny_mono ((hbody _ _ s1 H1 (E σz) (hr.deeper _)).run [] _ _ H1 Q (J.wish _) y) (fun v s3 ⟨w3, H3, J3, rv, q⟩ => ⟨w3, H3, J3.os, J3.bare, J3.base, J3.hok, rv, q⟩) fun e s3 z => z)
  refine wpAny_call (codeAny_mono run fun rs s2 hq => ?_)
  cases rs with
  | error e => exact tk e s2 (L2N.XE.of_call I1 (fun cls d H' h => hW cls d σz H' h) hq)
  | ok fl =>
    cases fl with
    | ret u => exact I1.after hq
    | next => exact False.elim hq
    | brk => exact False.elim hq
    | cont => exact False.elim hq
/-- the def that calls what it got; TT: what it makes of the lambda's reading -/
def GivesN (X : Cx) (Ng : List Str) (x : Str) (sg : Scope) (g : Addr) (cdg : Value) (bg : List Stmt) (a q : Str) (TT : (XK → Hp → VK → Prop) → Hp → VK → Prop) : Prop :=
  ∀ (k : Nat) (f c : Addr) (s : Shared) (H : Hp) (Q : VK) (tl : XK → Hp → VK → Prop), Room k (X.A.deeper (envOfC x sg s.heap.objs.size g cdg)) → 40 ≤ k →
    (∀ (W : WX) (pn : List (Addr × Obj)) (xe : Value → Shared → Prop) (E : L2.St → XK) (p1 p2 : Pos), L2N.Takes ((cxOf CX0 X.prog X.w X.K X.mg X.base Ng x sg g cdg X.A X.stack s H E0).tr pn xe) W → (∀ cls d σ2 H2, E σ2 cls d H2 → W cls d σ2 H2) →
      PE ((cxOf CX0 X.prog X.w X.K X.mg X.base Ng x sg g cdg X.A X.stack s H E0).tr pn xe) (.Call (.Name a p1) [] [] p2) (fun σZ HZ Q => σZ[0]? = some (some (.ref f)) ∧ HZ c = some (LamX.CodeO c q) ∧ tl (E σZ) HZ Q)) →
    H c = some (LamX.CodeO c q) → TT tl H Q →
    ∃ t, PSs (cxOf CX0 X.prog X.w X.K X.mg X.base Ng x sg g cdg X.A X.stack s H E0).nox bg t ∧ t { nx := fun _ H' => Q .non H', rt := Q } (L2.start Ng [.ref f]) H
theorem pe_lamN {X : Cx} {T : List (Addr × Str)} {TT : (XK → Hp → VK → Prop) → Hp → VK → Prop} {x a : Str} {g c P : Addr} {k : Nat} {pg : Arguments} {bg : List Stmt} {sg : Scope} {dV kV doc pm cdv ct oc : Value} {an od : Option Addr} {osl : Array (Option Value)} {Ng : List Str}
    {params : Arguments} {body : Expr} {scope : Scope} {t : XK → TE} {p lpos pos : Pos} (hg : Gl X x) (hm : X.mg x = some (.ref g)) (hk : PySem.W.keepIn X.K (.ref g) = true)
    (lk : X.K.lookup g = some ⟨oc, od, .func (PySem.W.fnOf x x pg bg sg dV kV doc pm an cdv ct), osl⟩) (hcg : PySem.W.codeIn X.K cdv x = true) (hb : Binds X.K (PySem.W.fnOf x x pg bg sg dV kV doc pm an cdv ct) [a] []) (Sg : FnScope Ng [a] sg) (hNg : Ng[0]? = some a) (hva : Vis sg a)
    (hG : GivesN X Ng x sg g cdv bg a (X.env.qual ++ "<lambda>") TT) (TB : LamX.TabB X.base X.mg c P) (hcode : X.env.code = .ref c) (hmT : (P, X.env.qual ++ "<lambda>") ∈ T) (hu : ∀ p ∈ T, p.1 = P → p.2 = X.env.qual ++ "<lambda>") (hr : Room (k + 2) X.A) (k40 : 40 ≤ k + 1) (L : LamX.LamS X.env.scope scope) (hdef : defaultsOf params X.env = ([], []))
    (hbind : ∀ (q : Str) (cl : List (Str × Addr)) (pm cv ctv : Value), bindArgs (PySem.W.kla_fn "<lambda>" q params body scope cl pm cv ctv) ⟨[], []⟩ = pure [])
    (hbody : ∀ (A : Around) (outer : List Env) (s : Shared) (H : Hp) (E : XK) (f c2 : Addr), Room k (A.deeper (LamX.lamEnv X scope s.heap.objs.size f c2)) → PE (lamCxN X A outer s H E scope f c2) body (t E))
    (hdb : (x == ("__debug__" : Str)) = false := by decide) (hd : (a == ("__debug__" : Str)) = false := by decide) (hcd : (a == ("__classdict__" : Str)) = false := by decide) :
    PE X (.Call (.Name x p) [.Lambda params body scope lpos] [] pos) (LamX.tLam T TT t) := by
  refine ⟨fun pins s σ H Q I ⟨hT, y⟩ => ?_⟩
  refine wpAny_Call_Name_kw (ld_glob I hg hm (PySem.W.callWith_K (h₀ := X.base) I.ok.mod.kin hk ?_ (by rfl) (by rfl)) hdb)
  show wpAny _ _ (spliced ((false, eval (.Lambda params body scope lpos) X.env) :: backTo pos (starEach [] X.env))) _ _ s
  refine Calls.spliced_cons (LamX.lam_make2 I TB hcode hmT hu hT hdef (L.has I.ok) fun f c2 pm2 ctv H1 s1 I1 eN T1 hf hfn hfr hco => Calls.spliced_nil ⟨I1.kIn, ?_⟩)
  have run : codeAny (model X.prog X.w) X.A (.call (.ref g) ⟨[.ref f], []⟩) (CR CX0 X.stack X.prog X.w H1 s1 Q E0) s1 := by
    refine LamX.run_ofS (N := Ng) (ps := [a]) (us := [.ref f]) (vs := [.ref f]) lk hcg Sg hr I1.env0 (hb s1 [.ref f] I1.kIn rfl) (.cons rfl .nil) rfl fun hr2 => ?_
    obtain ⟨t2, ht2, hq2⟩ := hG _ f c2 s1 H1 Q (fun E H' Q' => t E σ H' Q') hr2 k40 (fun W pn xe E p1 p2 tk hW => pe_actN (i := 0) I1 L hf hfn hfr (hbind _ _ _ _ _) tk hW hr2 (fun A outer s H E hr3 => hbody A outer s H E f c2 hr3) hNg hva hd hcd) hco (y H1 eN T1)
    exact ⟨t2, ht2.nox, hq2⟩
  refine wpAny_call (codeAny_mono run fun rs s2 hq => ?_)
  cases rs with
  | error e => exact (show False from hq).elim
  | ok fl =>
    cases fl with
    | ret u => exact I1.after hq
    | next => exact False.elim hq
    | brk => exact False.elim hq
    | cont => exact False.elim hq
/-! ### try: return ('value', ask()) / except TermError as e: the error's word and field -/
/-- a class that TermError names -/
structure Wd (K : PySem.W.Frag) (CT D : Addr) (dd : Option Addr) : Prop where
  exc : ExcC K D
  nod : dd = none
  mat : PySem.W.exmOne K (.ref D) (.ref CT) = some true
def spName (K : PySem.W.Frag) (CT : Addr) (word : Addr → Option Str) : Addr → Value → Option Addr → Sp := fun xh cls dd vs H Q _ => ∃ (D : Addr) (nm : Str), cls = .ref D ∧ Wd K CT D dd ∧ word D = some nm ∧ vs = [.ref xh] ∧ ∀ H', Same H H' → Q (.str nm) H'
def spField (word : Addr → Option Str) (fld : Addr → Option Addr → Hp → V → Prop) : Addr → Value → Option Addr → Sp := fun xh cls dd vs H Q _ => ∃ (D : Addr) (nm : Str) (v : V), cls = .ref D ∧ word D = some nm ∧ fld D dd H v ∧ vs = [.ref xh, .str nm] ∧ ∀ H', Same H H' → Q v H'
def tSuite (K : PySem.W.Frag) (CT : Addr) (word : Addr → Option Str) (fld : Addr → Option Addr → Hp → V → Prop) (a : Addr) (cls : Value) (d : Option Addr) : TS :=
  tSeq (tAsg (tCallG (spName K CT word) a cls d 1 (tCons (tVar 1) tNil)) (gName 2)) (tRet (tTup (tCons (tVar 2) (tCons (tCallG (spField word fld) a cls d 2 (tCons (tVar 1) (tCons (tVar 2) tNil))) tNil))))
def TTry (K : PySem.W.Frag) (CT : Addr) (word : Addr → Option Str) (fld : Addr → Option Addr → Hp → V → Prop) : (XK → Hp → VK → Prop) → Hp → VK → Prop := fun tl H Q =>
  ∀ f : Addr, tl (fun cls d H2 => wAs K (.ref CT) 1 (tSuite K CT word fld) (fun _ _ _ _ => False) { nx := fun _ H' => Q .non H', rt := Q } cls d [some (.ref f), none, none] H2) H
    (fun v H' => 2 ≤ sizeLine ∧ ∀ p, H' p = none → Q (.ref p) (upd H' p (.tup [.str ("value" : Str), v])))
theorem wTry {K : PySem.W.Frag} {CT : Addr} {word : Addr → Option Str} {fld : Addr → Option Addr → Hp → V → Prop} {Q : VK} {n : L2.St → Hp → Prop} {cls : Value} {dd : Option Addr} {f D : Addr} {nm : Str} {v : V} {H' : Hp}
    (hst : ∀ D dd H H' v, Same H H' → fld D dd H v → fld D dd H' v) (e : cls = .ref D) (hw : Wd K CT D dd) (ew : word D = some nm) (hf : fld D dd H' v) (h : ∀ (p : Addr) (H2 : Hp), Same H' H2 → H2 p = none → Q (.ref p) (upd H2 p (.tup [.str nm, v]))) :
    wAs K (.ref CT) 1 (tSuite K CT word fld) (fun _ _ _ _ => False) { nx := n, rt := Q } cls dd [some (.ref f), none, none] H' := by
  subst e
  refine ⟨true, hw.mat, fun _ a _ => ?_, fun z => nomatch z⟩
  refine ⟨_, rfl, rfl, D, nm, rfl, hw, ew, rfl, fun H1 k1 => ?_⟩
  refine ⟨_, rfl, _, rfl, _, rfl, rfl, D, nm, v, rfl, ew, hst _ _ _ _ _ k1 hf, rfl, fun H2 k2 => ⟨by show 2 ≤ sizeLine; decide, fun p hp => h p H2 (k1.trans k2) hp⟩⟩
theorem try_gives {X : Cx} {x q : Str} {sg : Scope} {g CT fN fF : Addr} {cdg : Value} {fdN fdF : FuncData} {word : Addr → Option Str} {fld : Addr → Option Addr → Hp → V → Prop} {j1 n1 n2 : Nat} {q1 q2 q3 q4 q5 q6 q7 q8 q9 p1 p2 p3 p4 p5 p6 p7 p8 p9 q10 q11 : Pos}
    (s0 : sg.names.lookup ("_law_ask" : Str) = some .local) (s1 : sg.names.lookup ("_law_e" : Str) = some .local) (s2 : sg.names.lookup ("_law_word" : Str) = some .local) (g1 : sg.names.lookup ("TermError" : Str) = some .globalImplicit) (g2 : sg.names.lookup ("_law_error_name" : Str) = some .globalImplicit) (g3 : sg.names.lookup ("_law_error_field" : Str) = some .globalImplicit)
    (mT : X.mg ("TermError" : Str) = some (.ref CT)) (mN : X.mg ("_law_error_name" : Str) = some (.ref fN)) (mF : X.mg ("_law_error_field" : Str) = some (.ref fF)) (kN : PySem.W.keepIn X.K (.ref fN) = true) (kF : PySem.W.keepIn X.K (.ref fF) = true) (bN : Binds X.K fdN [("_law_e" : Str)] []) (bF : Binds X.K fdF [("_law_e" : Str), "_law_word"] [])
    (GN : FnB X.prog X.w X.K X.mg X.base 3 fN fdN [("_law_e" : Str)] (spName X.K CT word)) (GF : FnB X.prog X.w X.K X.mg X.base 3 fF fdF [("_law_e" : Str), "_law_word"] (spField word fld)) :
    GivesN X [("_law_ask" : Str), "_law_e", "_law_word"] x sg g cdg [.Try [.Return (some (.Tuple [.Constant (.str ("value" : Str)) j1 p1, .Call (.Name ("_law_ask" : Str) p2) [] [] p3] n1 p4)) p5] [.ExceptHandler (some (.Name ("TermError" : Str) p6)) (some ("_law_e" : Str)) [.Assign [.Name ("_law_word" : Str) q1] (.Call (.Name ("_law_error_name" : Str) q2) [.Name ("_law_e" : Str) q3] [] q4) q5, .Return (some (.Tuple [.Name ("_law_word" : Str) q6, .Call (.Name ("_law_error_field" : Str) q7) [.Name ("_law_e" : Str) q8, .Name ("_law_word" : Str) q9] [] p7] n2 p8)) p9] q10] [] [] q11] ("_law_ask" : Str) q (TTry X.K CT word fld) := by
  intro k f c s H Q tl hr k40 act hc y
  have hr3 := hr.mono (show 3 ≤ k by omega)
  have nd : ([("_law_ask" : Str), "_law_e", "_law_word"] : List Str).Nodup := by decide +kernel
  refine ⟨_, pss_one (L2N.ps_try_as (i := 1) (c := .ref CT) (tb := fun W => tRet (tTup (tCons (tC (.str ("value" : Str))) (tCons (fun σZ HZ Q => σZ[0]? = some (some (.ref f)) ∧ HZ c = some (LamX.CodeO c q) ∧ tl (fun cls d H2 => W cls d σZ H2) HZ Q) tNil))))
    (ts := tSuite X.K CT word fld) (Wout := fun _ _ _ _ => False) rfl rfl nd rfl s1 ⟨g1, by decide +kernel, .inl mT⟩ (fun _ _ ⟨_, _, _, _, _, _, _, _, _, _, _, _, _, _, _, _, z⟩ => z.elim)
    (fun W pn xe tk _ => pss_one (ps_ret (pe_tup (pa_cons pe_str (pa_cons (act W pn xe (fun σ2 cls d H2 => W cls d σ2 H2) _ _ tk (fun _ _ _ _ h => h)) pa_nil)))))
    (fun a oe cls d pn hz hf => pss_cons (ps_set (i := 2) nd rfl (.inl s2) (by exact pe_callG (X := Cx.suite (cxOf CX0 X.prog X.w X.K X.mg X.base [("_law_ask" : Str), "_law_e", "_law_word"] x sg g cdg X.A X.stack s H E0).nox a ((a, oe) :: pn)) GN ⟨hr3.dp, hr3.un⟩ (hotG_suite hz hf) hz.1 hz.2.1 g2 mN kN bN (pa_cons (pe_var (i := 1) rfl (.inl s1)) pa_nil)))
      (pss_one (ps_ret (pe_tup (pa_cons (pe_var (i := 2) rfl (.inl s2)) (pa_cons (by exact pe_callG (X := Cx.suite (cxOf CX0 X.prog X.w X.K X.mg X.base [("_law_ask" : Str), "_law_e", "_law_word"] x sg g cdg X.A X.stack s H E0).nox a ((a, oe) :: pn)) GF ⟨hr3.dp, hr3.un⟩ (hotG_suite hz hf) hz.1 hz.2.1 g3 mF kF bF (pa_cons (pe_var (i := 1) rfl (.inl s1)) (pa_cons (pe_var (i := 2) rfl (.inl s2)) pa_nil))) pa_nil))))))), ?_⟩
  exact ⟨rfl, hc, y f⟩
section OPN
open PySem PySem.Spec PyProof.Rows
/-! ### an own exception whose __init__ says super().__init__(text), then self.f = x -/
/-- the context of such a body: its only cell is __class__'s, in the written part -/
def cxS (CX : CXT) (P : Program) (w : World) (K : PySem.W.Frag) (mg : Str → Option Value) (base : Heap) (N : List Str) (qual : Str) (scope : Scope) (f : Addr) (cd : Value) (cc : Addr) (A : Around) (outer : List Env) (s : Shared) (H : Hp) (E : XK) : Cx where
  prog := P
  w := w
  K := K
  mg := mg
  base := base
  A := A.deeper (PySem.W.ksEnv qual scope s.heap.objs.size f cd cc)
  N := N
  s_0 := s
  H_0 := H
  env := PySem.W.ksEnv qual scope s.heap.objs.size f cd cc
  outer := outer
  stack := PySem.W.ksEnv qual scope s.heap.objs.size f cd cc :: outer
  ex := []
  calm := true
  fn := fun _ => false
  pn := []
  xe := fun e s' => wpAny (model P w) (A.deeper (PySem.W.ksEnv qual scope s.heap.objs.size f cd cc)) (leaving (PySem.W.ksEnv qual scope s.heap.objs.size f cd cc) e) (fun _ s'' => CX outer H s E e s'') (fun e' s'' => CX outer H s E e' s'') s'
/-- the scope of such a def -/
structure SupScope (ps : List Str) (sc : Scope) : Prop where
  kind : sc.kind = .function
  co : sc.isCoroutine = false
  gen : sc.isGenerator = false
  nd : ps.Nodup
  par : ∀ x ∈ ps, sc.names.lookup x = some .local
  sup : sc.names.lookup ("super" : Str) = some .globalImplicit
  cls : sc.names.lookup ("__class__" : Str) = some .free
  noc : ∀ y ∈ sc.names, y.2 ≠ .cell
  fre : ∀ x, sc.names.lookup x = some .free → x = ("__class__" : Str)
theorem rev_lookup {ps : List Str} {us : List Value} {i : Nat} {y : Str} {u : Value} (nd : ps.Nodup) (hp : ps[i]? = some y) (hu : us[i]? = some u) : (ps.zip us).reverse.lookup y = some u := by
  have gen : ∀ {l : List (Str × Value)} {n : Str} {c : Value}, (l.map (·.1)).Nodup → (n, c) ∈ l → l.lookup n = some c := fun {l n c} => by
    induction l with
    | nil => intro _ h; cases h
    | cons p r ih =>
      intro hn h
      obtain ⟨k, d⟩ := p
      rw [List.map_cons, List.nodup_cons] at hn
      rw [List.lookup_cons]
      rcases List.mem_cons.mp h with e | h2
      · cases e
        rw [beq_self_eq_true]
      · have ne : (n == k) = false := by
          rw [beq_eq_false_iff_ne]
          rintro rfl
          exact hn.1 (List.mem_map.mpr ⟨_, h2, rfl⟩)
        rw [ne]
        exact ih hn.2 h2
  refine gen ?_ ?_
  · rw [List.map_reverse]
    unfold List.Nodup
    rw [List.pairwise_reverse]
    have e : (ps.zip us).map (·.1) = ps.take us.length := by
      clear hp hu nd
      induction ps generalizing us with
      | nil => simp
      | cons a r ih =>
        cases us with
        | nil => rfl
        | cons b s =>
          rw [List.zip_cons_cons, List.map_cons, ih]
          rfl
    rw [e]
    exact (nd.sublist (List.take_sublist _ _)).imp fun h z => h z.symm
  · rw [List.mem_reverse]
    refine List.mem_of_getElem? (i := i) ?_
    rw [List.getElem?_zip_eq_some]
    exact ⟨hp, hu⟩
theorem inv_startS {CX : CXT} {P : Program} {w : World} {K : PySem.W.Frag} {mg : Str → Option Value} {base : Heap} {ps : List Str} {qual : Str} {scope : Scope} {f cc D : Addr} {cd cl : Value} {cld : Option Addr} {csl : Array (Option Value)} {A : Around} {outer : List Env} {s : Shared} {h1 : Heap} {tk : Nat} {H : Hp} {E : XK} {us : List Value} {vs : List V}
    (S : SupScope ps scope) (hcell : K.lookup cc = some ⟨cl, cld, .cell (some (.ref D)), csl⟩) (hd : A.handled = none) (e0 : Env0 P w K mg base A outer s H) (hl : vs.length = ps.length) (r : Vals vs us)
    (ns : h1.Ns s.heap.objs.size (fun x => (ps.zip us).reverse.lookup x)) (hk : ∀ b o, s.heap.get? b = some o → h1.get? b = some o) :
    Inv (cxS CX P w K mg base ps qual scope f cd cc A outer s H E) [] (vs.map some) H { s with heap := h1, toks := tk } := by
  have KX : K.In s.heap := e0.mod.kin.keeps fun b o e => (e0.bs b o e).1
  have noA : ∀ b : Addr, b ∉ (cxS CX P w K mg base ps qual scope f cd cc A outer s H E).ex := fun b z => absurd (show b ∈ ([] : List Addr) from z) (by simp)
  have look1 : ∀ y c, (cxS CX P w K mg base ps qual scope f cd cc A outer s H E).env.cells.lookup y = some c → y = ("__class__" : Str) ∧ c = cc := fun y c h => by
    have h : List.lookup y [(("__class__" : Str), cc)] = some c := h
    rw [List.lookup_cons] at h
    by_cases q : (y == ("__class__" : Str)) = true
    · rw [q] at h
      exact ⟨eq_of_beq q, (Option.some.inj h).symm⟩
    · rw [Bool.not_eq_true] at q
      rw [q] at h
      cases h
  have base0 : base.get? cc = some ⟨cl, cld, .cell (some (.ref D)), csl⟩ := e0.mod.kin _ _ hcell
  refine ⟨⟨e0.mod, S.kind, rfl, rfl, Nat.le_refl _, fun y z c h1 h2 => ?_, fun y hy => ?_, fun y c h => ?_, fun _ => hd, Around.frames_deeper e0.frames, .inr ⟨rfl, rfl⟩, fun b z => absurd z (noA b), e0.bs, e0.bsz, fun b _ _ => noA b, fun b z => absurd z (noA b), e0.funs, e0.frf⟩,
    rfl, e0.bare, Un.kept hk, ⟨_, ns, fun i y v h1 h2 h3 => ?_⟩, fun y c h => ?_, e0.hok.fresh (Nat.le_refl _), fun y c h => ?_, fun p hp => absurd (show p ∈ ([] : List (Addr × Obj)) from hp) (by simp), e0.hok.kept hk, ?_⟩
  · rw [(look1 _ _ h1).1, (look1 _ _ h2).1]
  · have hy : scope.names.lookup y = some .cell ∨ scope.names.lookup y = some .free := hy
    rcases hy with hy | hy
    · exact absurd rfl (S.noc _ (PySem.mem_of_lookup hy))
    · exact ⟨cc, by rw [S.fre _ hy]; rfl⟩
  · exact nomatch h
  · have ha : vs[i]? = some v := by
      rw [List.getElem?_map] at h2
      cases e : vs[i]? with
      | none => rw [e] at h2; cases h2
      | some a => rw [e] at h2; cases h2; rfl
    obtain ⟨u, hu, rv⟩ := r.get ha
    have hp : ps[i]? = some y := h1
    refine ⟨u, rv, .inl ⟨S.par y (List.mem_of_getElem? hp), ?_⟩⟩
    exact rev_lookup S.nd hp hu
  · obtain ⟨rfl, rfl⟩ := look1 _ _ h
    exact ⟨_, _, hk _ _ (KX _ _ hcell), rfl⟩
  · obtain ⟨rfl, rfl⟩ := look1 _ _ h
    exact (e0.bs _ _ base0).2
  · show (vs.map some).length = ps.length
    rw [List.length_map, hl]
/-- the bound ValueError.__init__, called -/
theorem call_mw {X : Cx} {pins : List (Addr × Obj)} {σ : L2.St} {H : Hp} {s : Shared} {a C u : Addr} {us : List Value} {A : Around} {E : Value → Shared → Prop} {Q : Value → Shared → Prop} (T : OexC X.K C) (I : Inv X pins σ H s) (e : H a = some (exo a C none)) (hu : s.heap.get? u = some (PySem.W.kxs_mw "ValueError.__init__" a)) (hl : us.length ≤ sizeLine) (h : ∀ s', Inv X pins σ H s' → Q .none s') :
    wpAny (model X.prog X.w) A (call (.ref u) us) Q E s := by
  obtain ⟨nm, q, N, bs, bm, sn, sub, ab, col, dd, k0, k1, k2, k3, k5, hC, hbm⟩ := T.cls
  obtain ⟨t1, ho⟩ := exo_at I.hok e
  obtain ⟨hp, g, d, t, os⟩ := s
  refine wpAny_call (codeAny_of_tree ?_)
  show wpAny _ A.in1 (callAny (.ref u) ⟨us, []⟩) _ _ _
  simp only [callAny]
  refine wpAny_bind (wpAny_load hu ?_)
  simp only [PySem.W.kxs_mw, show (Value.type "method-wrapper" == Value.type "method" || Value.type "method-wrapper" == Value.type "builtin_function_or_method" || Value.type "method-wrapper" == Value.type "method-wrapper") = true by decide, if_true]
  refine PySem.W.KFB.if_so (by decide) ?_
  refine wpAny_bind (PySem.W.check_bound_init PySem.F.excBase_ValueError.toExcCallFacts (I.kIn _ _ hC) ho rfl ?_)
  refine wpAny_bind (wpAny_pure (wpAny_pure ?_))
  refine ⟨plainId_quiet PySem.F.excBase_ValueError.init.plain _, codeAny_builtin PySem.F.excBase_ValueError.initEntry ?_⟩
  refine PySem.W.exc_init_tree (cls := .ref C) (t0 := t1) (dv := none) (c2 := .none) (c3 := .none) (b4 := .bool false) ho hl fun h' k hx _ => ?_
  have J := I.write (t' := t) (x := a) (e := a) (o := exo a C none) (by rw [e]; exact True.intro) (.inl rfl) k ⟨_, hx⟩ (exo_ok hx)
  have eu : upd H a (exo a C none) = H := by
    funext b
    by_cases hb : b = a
    · rw [hb, upd_same, e]
    · rw [upd_ne hb]
  rw [eu] at J
  exact h _ J
theorem cw1 {M : Model} {A : Around} {E : Value → Shared → Prop} {s : Shared} {pos : Pos} {u x : Addr} {i : String} {env : Env} {e : Expr} {Q : Value → Shared → Prop} (h : wpAny M A (spliced (backTo pos (starEach [e] env))) (fun vs s₁ => PySem.W.KxsAt i u x s₁.heap ∧ wpAny M A (call (.ref u) vs) Q E s₁) E s)
    (he : starEach [e] env = [(false, eval e env)]) : wpAny M A (callWith pos (.ref u) [] (backTo pos (starEach [e] env)) []) Q E s := by
  rw [he] at h ⊢
  exact PySem.W.kxs_callWith (i := i) (x := x) rfl (PySem.Calls.evalArgs_plain h)
/-- such an __init__: the exception gets its dict, with the one field -/
def spS (C : Addr) (fld : Str) (okv : V → Prop) : Sp := fun vs H Q _ => ∃ (a : Addr) (v : V), vs = [.ref a, v] ∧ H a = some (exo a C none) ∧ okv v ∧ ∀ dx, H dx = none → dx ≠ a → Q .non (upd (upd H dx (exd dx [(fld, v)])) a (exo a C (some dx)))
open PySem.W in
theorem ok_sup {CX : CXT} {P : Program} {w : World} {K : PySem.W.Frag} {mg : Str → Option Value} {base : Heap} {f cda cc C : Addr} {name qual sf xn fld file : Str} {params : Arguments} {scope : Scope} {dV kV doc pm ct oc cl ccl : Value} {an od cld cdd : Option Addr} {osl csl ccs : Array (Option Value)} {cvs : Array Value} {tf : Tok} {ar : Arg} {e : Expr} {okv : V → Prop} {p0 p1 p2 p3 p4 q1 q2 q3 q4 : Pos}
    (lk : K.lookup f = some ⟨oc, od, .func (ksFn name qual params [.Expr (.Call (.Attribute (.Call (.Name ("super" : Str) p0) [] [] p1) ("__init__" : Str) p2) [e] [] p3) p4, .Assign [.Attribute (.Name sf q1) fld q2] (.Name xn q3) q4] scope dV kV doc pm an (.ref cda) ct cc), osl⟩)
    (hcd : codeIn K (.ref cda) qual = true) (S : SupScope [sf, xn] scope) (hp : (params.posonlyargs ++ params.args).head? = some ar) (har : ar.arg = sf)
    (hcode : K.lookup cda = some ⟨ccl, cdd, .fields cvs, ccs⟩) (hvs : cvs[2]? = some (.str file tf)) (hfile : ((P.main.file : Str) == file) = true) (htop : (P.main.scope.names.lookup ("super" : Str)).isSome = false)
    (hcell : K.lookup cc = some ⟨cl, cld, .cell (some (.ref C)), csl⟩) (T : OexC K C) (hsub : mroIn K C (.ref C) = some true) (hsuper : mg ("super" : Str) = none) (ho : nsIn K cStatics "thirdparty.any" = some none)
    (hm : ks_superIn K C C "__init__" = some (some (.builtin "ValueError.__init__"))) (hB : subIn K (.ref C) (.type "ValueError") = some true) (hno : findIn K (.ref C) fld = some none)
    (he : ∀ (A : Around) (outer : List Env) (s : Shared) (H : Hp) (E : XK) (a : Addr) (v : V), okv v → ∃ ta, PA (cxS CX P w K mg base [sf, xn] qual scope f (.ref cda) cc A outer s H E) [e] ta ∧ ta [some (.ref a), some v] H fun ws H2 => ws.length ≤ 1000 ∧ H2 = H)
    (hev : ∀ env : Env, ∃ pl : Sem Bool, eval (.Call (.Attribute (.Call (.Name ("super" : Str) p0) [] [] p1) ("__init__" : Str) p2) [e] [] p3) env = (do
      let ov ← attributeBase (.Call (.Name ("super" : Str) p0) [] [] p1) ("__init__" : Str) env (eval (.Call (.Name ("super" : Str) p0) [] [] p1) env)
      standAt p2.atName
      let (f, first) ← holding [ov] (getMethod ov ("__init__" : Str) pl)
      callWith p3 f first (backTo p3 (starEach [e] env)) []) := by exact fun _ => ⟨_, rfl⟩)
    (hsw : ∀ env : Env, swapsWith (.Call (.Attribute (.Call (.Name ("super" : Str) p0) [] [] p1) ("__init__" : Str) p2) [e] [] p3) none p4.line env = pure false := by exact fun _ => rfl)
    (hstar : ∀ env, starEach [e] env = [(false, eval e env)] := by exact fun _ => rfl) (hsw2 : ∀ env : Env, swapsWith (.Name xn q3) (some (.Attribute (.Name sf q1) fld q2)) q4.line env = pure false := by exact fun _ => rfl)
    (n1 : (sf == ("__debug__" : Str)) = false := by decide) (n2 : (sf == ("__classdict__" : Str)) = false := by decide) (n3 : (xn == ("__debug__" : Str)) = false := by decide) (n4 : (xn == ("__classdict__" : Str)) = false := by decide) :
    FnOk P w K mg base CX 1 f (ksFn name qual params [.Expr (.Call (.Attribute (.Call (.Name ("super" : Str) p0) [] [] p1) ("__init__" : Str) p2) [e] [] p3) p4, .Assign [.Attribute (.Name sf q1) fld q2] (.Name xn q3) q4] scope dV kV doc pm an (.ref cda) ct cc) [sf, xn] (spS C fld okv) := by
  refine ⟨fun vs H Q E h => ?_, fun A outer s H args us vs Q E hr e0 hb r hsp => ?_⟩
  · obtain ⟨_, _, rfl, _⟩ := h
    rfl
  obtain ⟨a, v, rfl, ha, hv, q⟩ := hsp
  have KX : K.In s.heap := e0.mod.kin.keeps fun b o e => (e0.bs b o e).1
  have lim : s.heap.NoLimit := e0.mod.nolimit.keeps fun b o e => (e0.bs b o e).1
  have hloc : ∀ y ∈ [sf, xn].zip us, scope.names.lookup y.1 = some .local := fun ⟨n, v⟩ hy => S.par n (List.of_mem_zip hy).1
  refine ks_codeAny_call_defAt (body := [.Expr (.Call (.Attribute (.Call (.Name ("super" : Str) p0) [] [] p1) ("__init__" : Str) p2) [e] [] p3) p4, .Assign [.Attribute (.Name sf q1) fld q2] (.Name xn q3) q4]) (binds := [sf, xn].zip us) hr.depth (KX _ _ lk) rfl lim (codeRec_of KX hcd) rfl hb S.noc hloc (fun h1 hns hk => ?_) S.co S.gen S.kind
  have I := inv_startS (CX := CX) (qual := qual) (f := f) (cd := .ref cda) (tk := s.toks + ([sf, xn].zip us).length) (E := E) S hcell hr.hd e0 rfl r hns hk
  obtain ⟨ta, hpa, hta⟩ := he A outer s H E a v hv
  obtain ⟨u, rfl, ru⟩ : ∃ u, us = [.ref a, u] ∧ RelV v u := by
    cases r with
    | cons r1 r2 =>
      cases r2 with
      | cons r3 r4 =>
        cases r4
        obtain rfl := (show _ = Value.ref a from r1)
        exact ⟨_, rfl, r3⟩
  have hz : ([sf, xn].zip [Value.ref a, u]).reverse.lookup sf = some (.ref a) := rev_lookup (i := 0) S.nd rfl rfl
  obtain ⟨mb, b1, b2⟩ := I.mod.blt
  obtain ⟨nm, qn, N, bs, bm, sn, sub, ab, col, dd, k0, k1, k2, k3, k5, hC, hbm⟩ := id T.cls
  have hcl : clsIn K C = some { name := nm, bases := bs, mro := .ref C :: bm, ns := N, qualname := qn, hasDict := true, slotNames := sn, subclasses := sub, abstract := ab, collection := col, hasDel := false } := by unfold clsIn; rw [hC] <;> rfl
  have hD1 := I.kIn _ _ hC
  obtain ⟨t1, ho1⟩ := exo_at I.hok ha
  obtain ⟨pl, hev1⟩ := hev (ksEnv qual scope s.heap.objs.size f (.ref cda) cc)
  refine ks_wpAt_execs_cons (ks_wpAt_Expr_any (ks_wpAt_MethodCall (pl := pl) ?_ hev1) (by show (scope.kind == .module && _) = false; rw [S.kind]; rfl) (hsw _))
  refine ks_wpAt_super_base (env := ksEnv qual scope s.heap.objs.size f (.ref cda) cc) S.sup S.cls (by decide) rfl (I.kIn _ _ lk) rfl hp rfl (I.kIn _ _ hcode) rfl hvs hfile htop ?_
  refine ks_loadName_global S.kind S.sup (Calls.loadGlobal_builtin (env := ksEnv qual scope s.heap.objs.size f (.ref cda) cc) (I.mod.glob.keeps I.bk) hsuper (b1.keeps I.bk) ((b2 _ (by decide)).trans PyProof.Rows.Boot.«super») ⟨rfl, ?_⟩)
  refine wpAny_loadName_free S.kind S.cls rfl ⟨_, I.kIn _ _ hcell, rfl⟩ ?_
  refine wpAny_loadName_local S.kind (by rw [har]; exact S.par sf (by simp)) hns (by rw [har]; exact hz) ?_
  refine ks_wpAny_isType_cls hD1 rfl ⟨rfl, ?_⟩
  refine ks_wpAny_call_super hD1 rfl ho1 rfl (fun c z => nomatch z) (looks_mroIn I.kIn hsub) (fun h2 e2 k2 => ?_)
  have I2 := I.kept (t' := s.toks + ([sf, xn].zip [Value.ref a, u]).length) k2
  have inst : InstAt h2 a { cls := .ref C, dict := none, data := .fields #[.ref t1, .none, .none, .none, .bool false, .none] } C none := ⟨k2 _ _ ho1, rfl, rfl, trivial⟩
  have hI : Looks (model P w) h2 (isInstance (.ref a) (.type "ValueError")) true := inst.type.andThen (looks_subIn I2.kIn hB)
  have hm1 : alongIn K "__init__" (((Value.ref C :: bm).dropWhile (· != .ref C)).drop 1) = some (some (.builtin "ValueError.__init__")) := by
    have z := hm
    unfold ks_superIn at z
    rw [hcl] at z
    exact z
  refine kxs_getMethod kxs_ValueError e2 (looks_opaque I2.kIn ho) (l₀ := .ref C :: bm) (fun A Q E s k q => wpAny_bind ((looks_clsIn I2.kIn hcl) A _ E s k (wpAny_pure q))) rfl I2.kIn hm1 hI (ks_ne I2.kIn inst hcl) (by decide) ?_
  have I3 := (I2.kept (t' := s.toks + ([sf, xn].zip [Value.ref a, u]).length + 1) (h' := h2.push (kxs_mw "ValueError.__init__" a)) fun b o z => Heap.get?_push_of_some _ z).pins_of (pins' := [(h2.objs.size, kxs_mw "ValueError.__init__" a)]) fun p hp => by
    obtain rfl : p = (h2.objs.size, kxs_mw "ValueError.__init__" a) := by simpa using hp
    exact ⟨Heap.get?_push_at rfl rfl, I2.hok.fresh (Nat.le_refl _), Nat.ne_of_gt I2.lt, I2.nofs (Nat.le_refl _), fun v z => nomatch z⟩
  refine cw1 (i := "ValueError.__init__") (x := a) (thn (hpa.run p3 _ _ _ _ _ I3 hta) fun us s4 ⟨vs, H1, I4, r4, hlen, hH⟩ => ?_) (hstar _)
  subst hH
  have hu := (I4.pin _ (List.mem_append_right _ (List.mem_singleton.mpr rfl))).1
  refine ⟨hu, call_mw T I4 ha hu (by rw [← Paired.length r4, sizeLine_eq]; omega) fun s5 J => ?_⟩
  have P2 : PS (cxS CX P w K mg base [sf, xn] qual scope f (.ref cda) cc A outer s H1 E) (.Assign [.Attribute (.Name sf q1) fld q2] (.Name xn q3) q4) (tOst K fld (tVar 0) (tVar 1)) := ps_ost (pe_var rfl (.inl (S.par sf (by simp))) n1 n2) (pe_var rfl (.inl (S.par xn (by simp))) n3 n4) (hsw2 _)
  refine ks_wpAt_execs_cons (wpAt_of_wpAny (thn (P2.run _ s5 _ _ { nx := fun _ H' => Q .non H', rt := Q } J ⟨_, rfl, _, rfl, a, C, rfl, T, hno, .inl ⟨ha, q⟩⟩) fun fl s6 hs => ?_))
  cases fl with
  | ret u =>
    obtain ⟨v, σ', H', J, rv, q⟩ := hs
    exact ⟨v, H', J.os, J.bare, J.base, J.hok, rv, q⟩
  | next =>
    obtain ⟨σ', H', J, q⟩ := hs
    exact wpAt_of_wpAny (wpAny_pure ⟨.non, H', J.os, J.bare, J.base, J.hok, rfl, q⟩)
  | brk =>
    obtain ⟨_, _, _, q⟩ := hs
    exact False.elim q
  | cont =>
    obtain ⟨_, _, _, q⟩ := hs
    exact False.elim q
end OPN
section OPN
open PySem PySem.Spec PyProof.Rows
/-! ### the handled exception with a dict: isinstance, its fields -/
def rIsF (K : PySem.W.Frag) (D xh : Addr) (dd : Option Addr) : List V → Hp → VK → Prop := fun vs H Q => (∀ d, dd = some d → ∃ fs, H d = some (.xd fs)) ∧ rIsB K D xh vs H Q
theorem hot_inst {X : Cx} {pins : List (Addr × Obj)} {σ : L2.St} {H : Hp} {s : Shared} {xh D : Addr} {oh : Obj} (hb : HotB X xh oh) (I : Inv X pins σ H s) (hc : oh.cls = .ref D) (hd : ∀ d, oh.dict = some d → ∃ fs, H d = some (.xd fs)) : ∃ od, PySem.W.InstAt s.heap xh oh D od := by
  have g := hb.get I
  obtain ⟨ws, d1, _⟩ := hb.dat
  have nc : PySem.W.notCls oh = true := by unfold PySem.W.notCls; rw [d1] <;> rfl
  cases e : oh.dict with
  | none => exact ⟨none, g, hc, nc, by rw [e]; trivial⟩
  | some d =>
    obtain ⟨fs, hfs⟩ := hd d e
    have hx : ObjOk X.prog X.w H s.heap d (.xd fs) := I.hok d _ hfs
    obtain ⟨mA, hns, _⟩ := hx
    obtain ⟨od, ho, _⟩ := lookIn_ns hns
    exact ⟨some od, g, hc, nc, by rw [e]; exact ho⟩
theorem call_isF {X : Cx} {xh D : Addr} {oh : Obj} (hb : HotB X xh oh) (C : ExcC X.K D) (hc : oh.cls = .ref D) : CallR X (.builtin "isinstance") (rIsF X.K D xh oh.dict) := by
  intro pins s σ H vs us Q I r y
  obtain ⟨hd, c, u, b, rfl, kc, e, q⟩ := y
  obtain ⟨u1, u2, rfl, r1, r2⟩ := vals2 r
  cases (show u1 = Value.ref xh from r1)
  have e2 := kc.eq r2
  subst e2
  obtain ⟨od, J⟩ := hot_inst hb I hc hd
  have hcl : (PySem.W.clsIn X.K D).isSome = true := by
    obtain ⟨cd, h, _⟩ := PySem.W.any_some C.hd
    rw [h]
    rfl
  exact PySem.W.kia_one (PySem.W.kitx_exc hcl C.hg C.hk C.hs C.ha C.hn C.ht C.hm) I.kIn J e (fun z => nomatch z) fun tk => ⟨.bl b, H, I.tok tk, rfl, q⟩
/-- e.f, e the handled exception -/
def tXfB (xh : Addr) (dd : Option Addr) (f : Str) (te : TE) : TE := fun σ H Q => te σ H fun x H1 => x = .ref xh ∧ ∃ (d : Addr) (fs : List (Str × V)) (v : V), dd = some d ∧ H1 d = some (.xd fs) ∧ fs.lookup f = some v ∧ Q v H1
theorem pe_xfB {X : Cx} {xh C : Addr} {oh : Obj} {e : Expr} {te : TE} {pos : Pos} {n : Str} (hb : HotB X xh oh) (T : XfC X.K C) (hno : PySem.W.findIn X.K (.ref C) n = some none) (hc : oh.cls = .ref C) (he : PE X e te) (hab : attributeBase e n X.env (eval e X.env) = eval e X.env := by rfl) :
    PE X (.Attribute e n pos) (tXfB xh oh.dict n te) := by
  refine ⟨fun pins s σ H Q I h => ?_⟩
  refine attr_of hab (thn (he.run pins s σ H _ I h) fun u s1 hh => ?_)
  obtain ⟨x, H1, I1, rx, ex, dd, fs, v, ed, ea, l, q⟩ := hh
  subst ex
  obtain rfl : u = Value.ref xh := rx
  have hx : ObjOk X.prog X.w H1 s1.heap dd (.xd fs) := I1.hok dd _ ea
  obtain ⟨mA, hns, hr⟩ := hx
  obtain ⟨od, ho, hl⟩ := lookIn_ns hns
  obtain ⟨u, hu, ru⟩ := RelO.some_of (v := v) (o := mA n) (by rw [← l]; exact hr n)
  obtain ⟨ws, d1, _⟩ := hb.dat
  have J : PySem.W.InstAt s1.heap xh oh C (some od) := ⟨hb.get I1, hc, by unfold PySem.W.notCls; rw [d1] <;> rfl, by rw [ed]; exact ho⟩
  exact HandSPX.exc_get I1.kIn J T.ga T.gg T.exC (PySem.W.findObj_own T.hdC hno rfl (by rw [hl, hu])) (handed_of ru) ⟨v, H1, I1.tok _, ru, q⟩
end OPN
section OPN
open PySem PySem.Spec PyProof.Rows
/-! ### the handled exception may have a dict: isinstance asks only that the dict is there -/
theorem call_isB2 {X : Cx} {xh D : Addr} {oh : Obj} (hb : HotB X xh oh) (C : ExcC X.K D) (hc : oh.cls = .ref D) (hd : ∀ d, oh.dict = some d → (∃ o, X.s_0.heap.get? d = some o) ∧ d ∉ X.ex) : CallR X (.builtin "isinstance") (rIsB X.K D xh) := by
  intro pins s σ H vs us Q I r y
  obtain ⟨c, u, b, rfl, kc, e, q⟩ := y
  obtain ⟨u1, u2, rfl, r1, r2⟩ := vals2 r
  cases (show u1 = Value.ref xh from r1)
  have e2 := kc.eq r2
  subst e2
  have g := hb.get I
  obtain ⟨ws, d1, _⟩ := hb.dat
  have nc : PySem.W.notCls oh = true := by unfold PySem.W.notCls; rw [d1] <;> rfl
  have J : ∃ od, PySem.W.InstAt s.heap xh oh D od := by
    cases e : oh.dict with
    | none => exact ⟨none, g, hc, nc, by rw [e]; trivial⟩
    | some d =>
      obtain ⟨⟨o, ho⟩, nx⟩ := hd d e
      obtain ⟨o', ho'⟩ := I.base.there d o ho nx
      exact ⟨some o', g, hc, nc, by rw [e]; exact ho'⟩
  obtain ⟨od, J⟩ := J
  have hcl : (PySem.W.clsIn X.K D).isSome = true := by
    obtain ⟨cd, h, _⟩ := PySem.W.any_some C.hd
    rw [h]
    rfl
  exact PySem.W.kia_one (PySem.W.kitx_exc hcl C.hg C.hk C.hs C.ha C.hn C.ht C.hm) I.kIn J e (fun z => nomatch z) fun tk => ⟨.bl b, H, I.tok tk, rfl, q⟩
theorem xd_there {P : Program} {w : World} {H : Hp} {h : Heap} {d : Addr} {fs : List (Str × V)} (k : HOk P w H h) (e : H d = some (.xd fs)) : ∃ o, h.get? d = some o := by
  have hx : ObjOk P w H h d (.xd fs) := k d _ e
  obtain ⟨mA, hns, _⟩ := hx
  obtain ⟨od, ho, _⟩ := lookIn_ns hns
  exact ⟨od, ho⟩
theorem Fun.okB2 {P : Program} {w : World} {K : PySem.W.Frag} {mg : Str → Option Value} {base : Heap} {x qual : Str} {st : Stmt} {f : Addr} {fd : FuncData} {N ps : List Str} {k : Nat} {sp : Addr → Value → Option Addr → Sp} (F : L2.Fun K x qual st f fd) (S : FnScope N ps (defScope st))
    (body : ∀ (cdv : Value) (A : Around) (outer : List Env) (s : Shared) (H : Hp) (vs : List V) (Q : VK) (xh : Addr) (oh : Obj), L2H.RoomH k (A.deeper (PyProof.Rows.envOfC qual (defScope st) s.heap.objs.size f cdv)) → HotB (L2H.cxH CX0 P w K mg base N qual (defScope st) f cdv A outer s H E0 (xh, oh)).nox xh oh → HOk P w H s.heap → sp xh oh.cls oh.dict vs H Q E0 →
      ∃ t, PSs (L2H.cxH CX0 P w K mg base N qual (defScope st) f cdv A outer s H E0 (xh, oh)).nox (defBody st) t ∧ t { nx := fun _ H' => Q .non H', rt := Q } (L2.start N vs) H) : FnB P w K mg base (k + 1) f fd ps sp := by
  obtain ⟨oc, od, kV, doc, pm, an, cdv, ct, osl, rfl, lk, hcd⟩ := F.ex
  intro A outer s H args us vs Q xh oh hr hp e0 hb r hl hsp
  have KX : K.In s.heap := e0.mod.kin.keeps fun b o e => (e0.bs b o e).1
  have hkind : ∀ y ∈ ps.zip us, (defScope st).names.lookup y.1 = some .local ∨ ((defScope st).names.lookup y.1 = some .cell ∧ ((cellsFrom (s.heap.objs.size + 1) (defScope st).names []).lookup y.1).isSome = true) := by
    rintro ⟨n, v⟩ hy
    exact (S.par n (List.of_mem_zip hy).1).imp id fun q => ⟨q, PySem.W.cellsFrom_some _ _ _ (.inl q)⟩
  refine codeAny_call_function hr.depth (KX _ _ lk) rfl S.co S.gen rfl (PySem.W.codeRec_of KX hcd) (hb _ _ _ _ (wpAny_newFunctionEnv_cells S.kind hkind fun env he s1 y => ?_))
  subst he
  refine ⟨(e0.mod.nolimit.keeps fun b o e => (e0.bs b o e).1).keeps y.toInCall.keep, codeAny_func ?_⟩
  have hB := hp.b (CX := CX0) (P := P) (w := w) (K := K) (mg := mg) (base := base) (N := N) (qual := qual) (scope := defScope st) (f := f) (cd := cdv) (E := E0)
  obtain ⟨t, ht, hq⟩ := body cdv A outer s H vs Q xh oh (hr.deeper _) ⟨hB.hnd, hB.obj, hB.dat, hB.unt, hB.nfs, hB.nex⟩ e0.hok hsp
  have I : Inv (L2H.cxH CX0 P w K mg base N qual (defScope st) f cdv A outer s H E0 (xh, oh)) [] (L2.start N vs) H s1 := L2H.inv_startH S hp.pin e0 hl r y
  refine wpAny_mono (ht.run [] s1 (L2.start N vs) H _ (I.wish _) hq) (fun fl s' z => ?_) fun _ _ z => z.elim
  have z' : SP (L2H.cxH CX0 P w K mg base N qual (defScope st) f cdv A outer s H E0 (xh, oh)) [] { nx := fun _ H' => Q .non H', rt := Q } fl s' := z.unwish
  cases fl with
  | ret u =>
    obtain ⟨v, σ', H', J, rv, q⟩ := z'
    exact ⟨v, H', J.os, J.bare, J.base, J.hok, rv, q⟩
  | next =>
    obtain ⟨σ', H', J, q⟩ := z'
    exact ⟨V.non, H', J.os, J.bare, J.base, J.hok, rfl, q⟩
  | brk => exact z'.elim fun _ y => y.elim fun _ y => y.2.elim
  | cont => exact z'.elim fun _ y => y.elim fun _ y => y.2.elim

end OPN
section OPN
open PySem.Spec PyProof.Rows
/-! ### try: return ('value', ask()) / except TermError as e: the error's word and field -/
/-- a class that TermError names -/
structure Wd2 (K : PySem.W.Frag) (CT D : Addr) (dd : Option Addr) (H : Hp) : Prop where
  exc : ExcC K D
  nod : ∀ d, dd = some d → ∃ fs, H d = some (.xd fs)
  mat : PySem.W.exmOne K (.ref D) (.ref CT) = some true
def spName2 (K : PySem.W.Frag) (CT : Addr) (word : Addr → Option Str) : Addr → Value → Option Addr → Sp := fun xh cls dd vs H Q _ => ∃ (D : Addr) (nm : Str), cls = .ref D ∧ Wd2 K CT D dd H ∧ word D = some nm ∧ vs = [.ref xh] ∧ ∀ H', Same H H' → Q (.str nm) H'
def tSuite2 (K : PySem.W.Frag) (CT : Addr) (word : Addr → Option Str) (fld : Addr → Option Addr → Hp → V → Prop) (a : Addr) (cls : Value) (d : Option Addr) : TS :=
  tSeq (tAsg (tCallG (spName2 K CT word) a cls d 1 (tCons (tVar 1) tNil)) (gName 2)) (tRet (tTup (tCons (tVar 2) (tCons (tCallG (spField word fld) a cls d 2 (tCons (tVar 1) (tCons (tVar 2) tNil))) tNil))))
def TTry2 (K : PySem.W.Frag) (CT : Addr) (word : Addr → Option Str) (fld : Addr → Option Addr → Hp → V → Prop) : (XK → Hp → VK → Prop) → Hp → VK → Prop := fun tl H Q =>
  ∀ f : Addr, tl (fun cls d H2 => wAs K (.ref CT) 1 (tSuite2 K CT word fld) (fun _ _ _ _ => False) { nx := fun _ H' => Q .non H', rt := Q } cls d [some (.ref f), none, none] H2) H
    (fun v H' => 2 ≤ sizeLine ∧ ∀ p, H' p = none → Q (.ref p) (upd H' p (.tup [.str ("value" : Str), v])))
theorem wTry2 {K : PySem.W.Frag} {CT : Addr} {word : Addr → Option Str} {fld : Addr → Option Addr → Hp → V → Prop} {Q : VK} {n : L2.St → Hp → Prop} {cls : Value} {dd : Option Addr} {f D : Addr} {nm : Str} {v : V} {H' : Hp}
    (hst : ∀ D dd H H' v, Same H H' → fld D dd H v → fld D dd H' v) (e : cls = .ref D) (hw : Wd2 K CT D dd H') (ew : word D = some nm) (hf : fld D dd H' v) (h : ∀ (p : Addr) (H2 : Hp), Same H' H2 → H2 p = none → Q (.ref p) (upd H2 p (.tup [.str nm, v]))) :
    wAs K (.ref CT) 1 (tSuite2 K CT word fld) (fun _ _ _ _ => False) { nx := n, rt := Q } cls dd [some (.ref f), none, none] H' := by
  subst e
  refine ⟨true, hw.mat, fun _ a _ => ?_, fun z => nomatch z⟩
  refine ⟨_, rfl, rfl, D, nm, rfl, hw, ew, rfl, fun H1 k1 => ?_⟩
  refine ⟨_, rfl, _, rfl, _, rfl, rfl, D, nm, v, rfl, ew, hst _ _ _ _ _ k1 hf, rfl, fun H2 k2 => ⟨by show 2 ≤ sizeLine; decide, fun p hp => h p H2 (k1.trans k2) hp⟩⟩
theorem try_gives2 {X : Cx} {x q : Str} {sg : Scope} {g CT fN fF : Addr} {cdg : Value} {fdN fdF : FuncData} {word : Addr → Option Str} {fld : Addr → Option Addr → Hp → V → Prop} {j1 n1 n2 : Nat} {q1 q2 q3 q4 q5 q6 q7 q8 q9 p1 p2 p3 p4 p5 p6 p7 p8 p9 q10 q11 : Pos}
    (s0 : sg.names.lookup ("_law_ask" : Str) = some .local) (s1 : sg.names.lookup ("_law_e" : Str) = some .local) (s2 : sg.names.lookup ("_law_word" : Str) = some .local) (g1 : sg.names.lookup ("TermError" : Str) = some .globalImplicit) (g2 : sg.names.lookup ("_law_error_name" : Str) = some .globalImplicit) (g3 : sg.names.lookup ("_law_error_field" : Str) = some .globalImplicit)
    (mT : X.mg ("TermError" : Str) = some (.ref CT)) (mN : X.mg ("_law_error_name" : Str) = some (.ref fN)) (mF : X.mg ("_law_error_field" : Str) = some (.ref fF)) (kN : PySem.W.keepIn X.K (.ref fN) = true) (kF : PySem.W.keepIn X.K (.ref fF) = true) (bN : Binds X.K fdN [("_law_e" : Str)] []) (bF : Binds X.K fdF [("_law_e" : Str), "_law_word"] [])
    (GN : FnB X.prog X.w X.K X.mg X.base 3 fN fdN [("_law_e" : Str)] (spName2 X.K CT word)) (GF : FnB X.prog X.w X.K X.mg X.base 3 fF fdF [("_law_e" : Str), "_law_word"] (spField word fld)) :
    GivesN X [("_law_ask" : Str), "_law_e", "_law_word"] x sg g cdg [.Try [.Return (some (.Tuple [.Constant (.str ("value" : Str)) j1 p1, .Call (.Name ("_law_ask" : Str) p2) [] [] p3] n1 p4)) p5] [.ExceptHandler (some (.Name ("TermError" : Str) p6)) (some ("_law_e" : Str)) [.Assign [.Name ("_law_word" : Str) q1] (.Call (.Name ("_law_error_name" : Str) q2) [.Name ("_law_e" : Str) q3] [] q4) q5, .Return (some (.Tuple [.Name ("_law_word" : Str) q6, .Call (.Name ("_law_error_field" : Str) q7) [.Name ("_law_e" : Str) q8, .Name ("_law_word" : Str) q9] [] p7] n2 p8)) p9] q10] [] [] q11] ("_law_ask" : Str) q (TTry2 X.K CT word fld) := by
  intro k f c s H Q tl hr k40 act hc y
  have hr3 := hr.mono (show 3 ≤ k by omega)
  have nd : ([("_law_ask" : Str), "_law_e", "_law_word"] : List Str).Nodup := by decide +kernel
  refine ⟨_, pss_one (L2N.ps_try_as (i := 1) (c := .ref CT) (tb := fun W => tRet (tTup (tCons (tC (.str ("value" : Str))) (tCons (fun σZ HZ Q => σZ[0]? = some (some (.ref f)) ∧ HZ c = some (LamX.CodeO c q) ∧ tl (fun cls d H2 => W cls d σZ H2) HZ Q) tNil))))
    (ts := tSuite2 X.K CT word fld) (Wout := fun _ _ _ _ => False) rfl rfl nd rfl s1 ⟨g1, by decide +kernel, .inl mT⟩ (fun _ _ ⟨_, _, _, _, _, _, _, _, _, _, _, _, _, _, _, _, z⟩ => z.elim)
    (fun W pn xe tk _ => pss_one (ps_ret (pe_tup (pa_cons pe_str (pa_cons (act W pn xe (fun σ2 cls d H2 => W cls d σ2 H2) _ _ tk (fun _ _ _ _ h => h)) pa_nil)))))
    (fun a oe cls d pn hz hf => pss_cons (ps_set (i := 2) nd rfl (.inl s2) (by exact pe_callG (X := Cx.suite (cxOf CX0 X.prog X.w X.K X.mg X.base [("_law_ask" : Str), "_law_e", "_law_word"] x sg g cdg X.A X.stack s H E0).nox a ((a, oe) :: pn)) GN ⟨hr3.dp, hr3.un⟩ (hotG_suite hz hf) hz.1 hz.2.1 g2 mN kN bN (pa_cons (pe_var (i := 1) rfl (.inl s1)) pa_nil)))
      (pss_one (ps_ret (pe_tup (pa_cons (pe_var (i := 2) rfl (.inl s2)) (pa_cons (by exact pe_callG (X := Cx.suite (cxOf CX0 X.prog X.w X.K X.mg X.base [("_law_ask" : Str), "_law_e", "_law_word"] x sg g cdg X.A X.stack s H E0).nox a ((a, oe) :: pn)) GF ⟨hr3.dp, hr3.un⟩ (hotG_suite hz hf) hz.1 hz.2.1 g3 mF kF bF (pa_cons (pe_var (i := 1) rfl (.inl s1)) (pa_cons (pe_var (i := 2) rfl (.inl s2)) pa_nil))) pa_nil))))))), ?_⟩
  exact ⟨rfl, hc, y f⟩
end OPN
section OPT
open PySem.Spec PyProof.Rows
theorem try_givesH2 {X : Cx} {x q : Str} {sg : Scope} {g CT fN fF : Addr} {cdg : Value} {fdN fdF : FuncData} {word : Addr → Option Str} {fld : Addr → Option Addr → Hp → V → Prop} {j1 n1 n2 : Nat} {q1 q2 q3 q4 q5 q6 q7 q8 q9 p1 p2 p3 p4 p5 p6 p7 p8 p9 q10 q11 : Pos}
    (s0 : sg.names.lookup ("_law_ask" : Str) = some .local) (s1 : sg.names.lookup ("_law_e" : Str) = some .local) (s2 : sg.names.lookup ("_law_word_here" : Str) = some .local) (g1 : sg.names.lookup ("TermError" : Str) = some .globalImplicit) (g2 : sg.names.lookup ("_law_error_name" : Str) = some .globalImplicit) (g3 : sg.names.lookup ("_law_error_field" : Str) = some .globalImplicit)
    (mT : X.mg ("TermError" : Str) = some (.ref CT)) (mN : X.mg ("_law_error_name" : Str) = some (.ref fN)) (mF : X.mg ("_law_error_field" : Str) = some (.ref fF)) (kN : PySem.W.keepIn X.K (.ref fN) = true) (kF : PySem.W.keepIn X.K (.ref fF) = true) (bN : Binds X.K fdN [("_law_e" : Str)] []) (bF : Binds X.K fdF [("_law_e" : Str), "_law_word_here"] [])
    (GN : FnB X.prog X.w X.K X.mg X.base 3 fN fdN [("_law_e" : Str)] (spName2 X.K CT word)) (GF : FnB X.prog X.w X.K X.mg X.base 3 fF fdF [("_law_e" : Str), "_law_word_here"] (spField word fld)) :
    GivesN X [("_law_ask" : Str), "_law_e", "_law_word_here"] x sg g cdg [.Try [.Return (some (.Tuple [.Constant (.str ("value" : Str)) j1 p1, .Call (.Name ("_law_ask" : Str) p2) [] [] p3] n1 p4)) p5] [.ExceptHandler (some (.Name ("TermError" : Str) p6)) (some ("_law_e" : Str)) [.Assign [.Name ("_law_word_here" : Str) q1] (.Call (.Name ("_law_error_name" : Str) q2) [.Name ("_law_e" : Str) q3] [] q4) q5, .Return (some (.Tuple [.Name ("_law_word_here" : Str) q6, .Call (.Name ("_law_error_field" : Str) q7) [.Name ("_law_e" : Str) q8, .Name ("_law_word_here" : Str) q9] [] p7] n2 p8)) p9] q10] [] [] q11] ("_law_ask" : Str) q (TTry2 X.K CT word fld) := by
  intro k f c s H Q tl hr k40 act hc y
  have hr3 := hr.mono (show 3 ≤ k by omega)
  have nd : ([("_law_ask" : Str), "_law_e", "_law_word_here"] : List Str).Nodup := by decide +kernel
  refine ⟨_, pss_one (L2N.ps_try_as (i := 1) (c := .ref CT) (tb := fun W => tRet (tTup (tCons (tC (.str ("value" : Str))) (tCons (fun σZ HZ Q => σZ[0]? = some (some (.ref f)) ∧ HZ c = some (LamX.CodeO c q) ∧ tl (fun cls d H2 => W cls d σZ H2) HZ Q) tNil))))
    (ts := tSuite2 X.K CT word fld) (Wout := fun _ _ _ _ => False) rfl rfl nd rfl s1 ⟨g1, by decide +kernel, .inl mT⟩ (fun _ _ ⟨_, _, _, _, _, _, _, _, _, _, _, _, _, _, _, _, z⟩ => z.elim)
    (fun W pn xe tk _ => pss_one (ps_ret (pe_tup (pa_cons pe_str (pa_cons (act W pn xe (fun σ2 cls d H2 => W cls d σ2 H2) _ _ tk (fun _ _ _ _ h => h)) pa_nil)))))
    (fun a oe cls d pn hz hf => pss_cons (ps_set (i := 2) nd rfl (.inl s2) (by exact pe_callG (X := Cx.suite (cxOf CX0 X.prog X.w X.K X.mg X.base [("_law_ask" : Str), "_law_e", "_law_word_here"] x sg g cdg X.A X.stack s H E0).nox a ((a, oe) :: pn)) GN ⟨hr3.dp, hr3.un⟩ (hotG_suite hz hf) hz.1 hz.2.1 g2 mN kN bN (pa_cons (pe_var (i := 1) rfl (.inl s1)) pa_nil)))
      (pss_one (ps_ret (pe_tup (pa_cons (pe_var (i := 2) rfl (.inl s2)) (pa_cons (by exact pe_callG (X := Cx.suite (cxOf CX0 X.prog X.w X.K X.mg X.base [("_law_ask" : Str), "_law_e", "_law_word_here"] x sg g cdg X.A X.stack s H E0).nox a ((a, oe) :: pn)) GF ⟨hr3.dp, hr3.un⟩ (hotG_suite hz hf) hz.1 hz.2.1 g3 mF kF bF (pa_cons (pe_var (i := 1) rfl (.inl s1)) (pa_cons (pe_var (i := 2) rfl (.inl s2)) pa_nil))) pa_nil))))))), ?_⟩
  exact ⟨rfl, hc, y f⟩
end OPT
section OPN
open PySem PySem.Spec PyProof.Rows PySem.W
/-! ### the def __init__ of such a class, and its raise -/
structure FunS (P : Program) (K : PySem.W.Frag) (mg : Str → Option Value) (x qual : Str) (st : Stmt) (ps : List Str) (C f : Addr) (fd : FuncData) : Prop where
  ex : ∃ (oc : Value) (od : Option Addr) (dV kV doc pm : Value) (an : Option Addr) (cda : Addr) (ct : Value) (osl : Array (Option Value)) (cc : Addr) (cl : Value) (cld : Option Addr) (csl : Array (Option Value)) (ccl : Value) (cdd : Option Addr) (cvs : Array Value) (ccs : Array (Option Value)) (file : Str) (tf : Tok),
    fd = ksFn "__init__" qual (defArgs st) (defBody st) (defScope st) dV kV doc pm an (.ref cda) ct cc ∧ K.lookup f = some ⟨oc, od, .func fd, osl⟩ ∧ codeIn K (.ref cda) qual = true ∧ K.lookup cda = some ⟨ccl, cdd, .fields cvs, ccs⟩ ∧ cvs[2]? = some (.str file tf) ∧ ((P.main.file : Str) == file) = true ∧ K.lookup cc = some ⟨cl, cld, .cell (some (.ref C)), csl⟩
  top : (P.main.scope.names.lookup ("super" : Str)).isSome = false
  T : OexC K C
  mro : mroIn K C (.ref C) = some true
  sup : mg ("super" : Str) = none
  any : nsIn K cStatics "thirdparty.any" = some none
  ini : ks_superIn K C C "__init__" = some (some (.builtin "ValueError.__init__"))
  val : subIn K (.ref C) (.type "ValueError") = some true
  iC : findIn K (.ref C) "__init__" = some (some (.ref f))
  tI : typeIn K (.ref f) = some (.type "function")
  b : Binds K fd ps []
  m : mg x = some (.ref C)
def okInt (v : V) : Prop := ∃ n : Int, v = .int n ∧ 0 ≤ n ∧ n < 10 ^ 12
end OPN
section OPN
open PySem PySem.Spec PyProof.Rows
/-- C(e, ..), the context told: the made exception has no context yet -/
theorem pmkN_oex {X : Cx} {CX : CXT} {x : Str} {e : Expr} {es : List Expr} {ta : L2.TA} {p pos : Pos} {C fI : Addr} {k : Nat} {fd : FuncData} {ps : List Str} {sp : Sp} (T : OexC X.K C) (iC : PySem.W.findIn X.K (.ref C) "__init__" = some (some (.ref fI))) (tI : PySem.W.typeIn X.K (.ref fI) = some (.type "function"))
    (F1 : FnOk X.prog X.w X.K X.mg X.base CX k fI fd ps sp) (hr : Room (k + 1) X.A) (hb : Binds X.K fd ps []) (hx : Passes CX X (fun _ _ _ => False)) (hg : Gl X x) (hm : X.mg x = some (.ref C)) (ha : PA X (e :: es) ta)
    (hdb : (x == ("__debug__" : Str)) = false := by decide) (he : starEach (e :: es) X.env = (false, eval e X.env) :: starEach es X.env := by rfl) (hpl : (backTo pos (starEach es X.env)).any (·.1) = false := by rfl) :
    L2N.PMk X (.Call (.Name x p) (e :: es) [] pos) (tMkO C sp [] ta) := by
  intro pins s σ H Q I h
  obtain ⟨nm, q, N, bs, bm, sn, sub, ab, col, dd, k0, k1, k2, k3, k5, hC, hbm⟩ := T.cls
  refine wpAny_Call_Name_kw (ld_glob I hg hm ?_ hdb)
  refine PySem.W.callWith_K (h₀ := X.base) I.ok.mod.kin T.kC (thn (ha.run pos pins s σ H _ I h) fun us s1 ⟨vs, H1, I1, r1, hz, q1⟩ => ⟨I1.kIn, ?_⟩) he hpl
  show wpAny _ _ (call (.ref C) us) _ _ _
  obtain ⟨hp, g, dr, tk, os⟩ := s1
  have hsz : hp.objs.size ≤ hp.objs.size + 1 := Nat.le_succ _
  have hq := q1 (hp.objs.size + 1) (I1.hok.fresh hsz)
  rw [List.append_nil] at hq
  have kk : ∀ b o, hp.get? b = some o → ((hp.push (PySem.W.kdv_tup us)).push (PySem.HandSPX.excO C hp.objs.size)).get? b = some o := fun b o z => Heap.get?_push_of_some _ (Heap.get?_push_of_some _ z)
  have hget : ((hp.push (PySem.W.kdv_tup us)).push (PySem.HandSPX.excO C hp.objs.size)).get? (hp.objs.size + 1) = some (PySem.HandSPX.excO C hp.objs.size) := by heap_get
  have I2 : Inv X pins σ (upd H1 (hp.objs.size + 1) (exo (hp.objs.size + 1) C none)) ⟨(hp.push (PySem.W.kdv_tup us)).push (PySem.HandSPX.excO C hp.objs.size), g, dr, tk, os⟩ :=
    I1.laid (t' := tk) (a := hp.objs.size + 1) (o := exo (hp.objs.size + 1) C none) (h' := (hp.push (PySem.W.kdv_tup us)).push (PySem.HandSPX.excO C hp.objs.size)) kk hsz (exo_ok hget)
  have r2 : Vals (V.ref (hp.objs.size + 1) :: vs) (Value.ref (hp.objs.size + 1) :: us) := .cons rfl r1
  have hl : (Value.ref (hp.objs.size + 1) :: us ++ []).length = ps.length := by
    have z := r2.length
    rw [F1.len _ _ _ _ hq] at z
    rw [List.append_nil]
    exact z.symm
  have hus : us.length ≤ sizeLine := by
    rw [← Paired.length r1, sizeLine_eq]
    omega
  have b2 := hb _ (Value.ref (hp.objs.size + 1) :: us) I2.kIn hl
  rw [List.append_nil] at b2
  refine wpAny_call (PySem.HandSPX.call_own PySem.F.excBase_ValueError (fun Y => PySem.HandSPX.refsVE_contains Y bm hbm) (I1.kIn _ _ hC) (PySem.W.looks_findIn I1.kIn iC) (fun self => PySem.W.bind_fn I1.kIn self tI) hus
    (codeAny_mono (F1.run _ X.stack _ _ ⟨Value.ref (hp.objs.size + 1) :: us, []⟩ (Value.ref (hp.objs.size + 1) :: us) _ _ (fun _ _ _ => False) (hr.make C us []) (I2.env0.make C us []) b2 r2 hq) fun r s' hq' => ?_))
  cases r with
  | error er => exact hx pins σ _ _ er s' I2 hq'
  | ok fl =>
    cases fl with
    | ret u =>
      obtain ⟨v, H2, os2, bare2, un2, hok2, rv, ev, d, fs, ea, ed, hd1, q2⟩ := hq'
      subst ev
      obtain ⟨h2, g2, d2, t2, os'⟩ := s'
      obtain ⟨t0, G, J, kG, ge, hoe, na⟩ := mk_end0 (d2 := d2) (t2 := t2) I1 hsz kk un2 hok2 os2 bare2 ea ed hd1
      refine ⟨rv, hp.objs.size + 1, _, _, ⟨G, g2, d2, t2, os'⟩, _, .ref C, some d, rfl, J, kG, ge, hoe, ⟨rfl, rfl, fun vs hv => ?_⟩, rfl, rfl, na, rfl, bare2, raises_own T.exC T.tyC, q2⟩
      cases hv
      rfl
    | next => exact False.elim hq'
    | brk => exact False.elim hq'
    | cont => exact False.elim hq'
end OPN
/-! ### a dict of the module: x in d, x not in d -/
section KDI
open PySem PySem.Spec PyProof.Rows
def KDin (K : PySem.W.Frag) (w : World) (a : Addr) (x : Str) (r : Option Value) : Prop :=
  ∃ es n, K.lookup a = some ⟨.type "dict", none, .dict es n, #[]⟩ ∧ PySem.W.KeysLit w.params es.toList ∧ PySem.W.nsIn K a x = some r ∧ (a == sysModules) = false
def rNInD (K : PySem.W.Frag) (w : World) : R2 := fun x y H Q => ∃ z p r, x = .str z ∧ y = .ref p ∧ KDin K w p z r ∧ Q (.bl (!r.isSome)) H
theorem op_notInKD {X : Cx} : OpR X (compareOp .NotIn) (rNInD X.K X.w) := by
  intro pins s σ H x y v u Q I rx ry h
  obtain ⟨z, p, r, rfl, rfl, ⟨es, n, hl, hk, e, hd⟩, q⟩ := h
  obtain ⟨t, rfl⟩ := (show ∃ t, v = Value.str z t from rx)
  obtain rfl : u = Value.ref p := ry
  have hm := PySem.W.mapOf_K (prog := X.prog) (w := X.w) I.kIn hl hk
  refine wpAny_notIn_of (strKind_is X.prog X.w z t) hd hm ?_
  rw [PySem.W.find_K hl e]
  exact fin_bl (I.tok _) q rfl
def rInD (K : PySem.W.Frag) (w : World) : R2 := fun x y H Q => ∃ z p r, x = .str z ∧ y = .ref p ∧ KDin K w p z r ∧ Q (.bl r.isSome) H
theorem op_inKD {X : Cx} : OpR X (compareOp .In) (rInD X.K X.w) := by
  intro pins s σ H x y v u Q I rx ry h
  obtain ⟨z, p, r, rfl, rfl, ⟨es, n, hl, hk, e, hd⟩, q⟩ := h
  obtain ⟨t, rfl⟩ := (show ∃ t, v = Value.str z t from rx)
  obtain rfl : u = Value.ref p := ry
  have hm := PySem.W.mapOf_K (prog := X.prog) (w := X.w) I.kIn hl hk
  refine wpAny_in_of (strKind_is X.prog X.w z t) hd hm ?_
  rw [PySem.W.find_K hl e]
  exact fin_bl (I.tok _) q rfl
end KDI
/-! ### xs[a:c] = ys -/
section SLC
open PySem PySem.Spec PyProof.Rows
def gSlc (to ta tc : TE) : TG := fun v σ H Q => to σ H fun o H1 => tPart ta σ H1 fun a H2 => tPart tc σ H2 fun c H3 => ∃ (l b : Addr) (xs ys : List V) (i j : Int), o = .ref l ∧ v = .ref b ∧ a = some i ∧ c = some j ∧ H3 l = some (.lst xs) ∧ H3 b = some (.lst ys) ∧ l ≠ b ∧ 0 ≤ i ∧ i ≤ j ∧ j ≤ xs.length ∧ xs.length + ys.length ≤ sizeLine ∧ Q σ (upd H3 l (.lst (xs.take i.toNat ++ ys ++ xs.drop j.toNat)))
theorem pg_slc {X : Cx} {o i j : Expr} {to ta tc : TE} {p2 pos : Pos} (ho : PE X o to) (hi : PE X i ta) (hj : PE X j tc)
    (ha : ∀ v, assign (.Subscript o (.Slice (some i) (some j) none p2) pos) X.env v = (do
      let ov ← holding [v] (eval o X.env)
      let iv ← holding [v, ov] (eval (.Slice (some i) (some j) none p2) X.env)
      standAt pos
      holding [v, ov, iv] (setItem ov iv v)
      release [iv, v, ov] []) := by intro _; rfl) : PG X (.Subscript o (.Slice (some i) (some j) none p2) pos) (gSlc to ta tc) := by
  refine ⟨fun pins s σ H v u Q I r h => ?_⟩
  rw [ha]
  refine wpAny_bind (wpAny_holding (thn (ho.run pins s σ H _ I h) fun ov s1 ⟨x, H1, I1, r1, q1⟩ => ?_))
  refine wpAny_bind (wpAny_holding ?_)
  refine wpAny_Slice (thn ((po_some hi).run pins s1 σ H1 _ I1 q1) fun vl s2 ⟨lo, H2, I2, pl, q2⟩ => thn ((po_some hj).run pins s2 σ H2 _ I2 q2) fun vu s3 ⟨up, H3, I3, pu, q3⟩ => ?_)
  obtain ⟨l, b, xs, ys, i, j, rfl, rfl, rfl, rfl, hl, hb, hne, h0, h1, h2, h3, q⟩ := q3
  rw [evalPart_none]
  refine wpAny_pure ?_
  have I4 : Inv X pins σ H3 { s3 with heap := s3.heap.push { cls := .type "slice", data := .fields #[vl, vu, .none] } } := I3.kept (t' := s3.toks) fun b ob q => Heap.get?_push_of_some _ q
  cases (show ov = Value.ref l from r1)
  cases (show u = Value.ref b from r)
  cases pl with
  | int _ tl =>
    cases pu with
    | int _ tu =>
      refine wpAny_bind (wpAny_standAt (wpAny_bind (wpAny_holding (set_slice (s := { s3 with heap := s3.heap.push { cls := .type "slice", data := .fields #[.int i tl, .int j tu, .none] } }) (a := i) (c := j) I4 hl hb hne (Heap.IsSliceOf.new ..) ⟨_, rfl⟩ ⟨_, rfl⟩ h0 h1 h2 h3 fun s' I' => ?_))))
      exact wpAny_release ⟨σ, _, I', q⟩
end SLC
/-! ### enumerate(a tuple) -/
theorem enumT_new (q : Addr) (its : Array Value) (m : Nat) (dc : Option Addr) (so : Array (Option Value)) :
    PySem.Meets (Builtin.«enumerate.__new__» ⟨[.type "enumerate", .ref q], []⟩) (fun _ Rr st => st.heap.get? q = some { cls := .type "tuple", dict := dc, data := .seq its m, slots := so } ∧
      Rr (.ok (.ret (.ref (st.heap.push { cls := .type "tuple_iterator", data := .fields #[.ref q, .int 0 0] }).objs.size)))
        { st with heap := (st.heap.push { cls := .type "tuple_iterator", data := .fields #[.ref q, .int 0 0] }).push { cls := .type "enumerate", data := .fields #[.none, .bool false, .ref st.heap.objs.size, rawInt 0, .none, .none] } }) :=
  .of_wp fun prog w A Rr st y => by
    obtain ⟨hp, gg, dd, tk, oo⟩ := st
    obtain ⟨hl, y⟩ := y
    have hsub := PySem.sub_enumerate
    have hT : PySem.Heap.IsTuple (Shared.heap ⟨hp, gg, dd, tk, oo⟩) q its := ⟨_, hl, rfl, m, rfl⟩
    wp_walk using PySem.AutoSeq1.wpAny_loadPart' hl
    refine wpAny_stack_any fun ss => wpAny_pure ?_
    split
    · rename_i cc _ _ _ _ _
      cases (cc == Value.type "enumerate")
      · wp_walk using PySem.AutoSeq1.wpAny_loadPart' hl, PySem.wpAny_pyIter_tuple hT
        exact ⟨_, rfl, y⟩
      · wp_walk using PySem.AutoSeq1.wpAny_loadPart' hl, PySem.wpAny_pyIter_tuple hT
        exact ⟨_, rfl, y⟩
    · wp_walk using PySem.AutoSeq1.wpAny_loadPart' hl, PySem.wpAny_pyIter_tuple hT
      exact ⟨_, rfl, y⟩
theorem enumT_call {prog : Program} {w : World} {A : Around} {Ex : Value → Shared → Prop} {st : Shared} {q : Addr} {its : Array Value} {Qq : Value → Shared → Prop} (hT : st.heap.IsTuple q its)
    (y : ∀ g', PySem.IsEnum g' (st.heap.objs.size + 1) st.heap.objs.size 0 .none → g'.IsTupleIter st.heap.objs.size q 0 → (∀ b o, st.heap.get? b = some o → g'.get? b = some o) → Qq (.ref (st.heap.objs.size + 1)) { st with heap := g' }) :
    wpAny (model prog w) A (call (.type "enumerate") [.ref q]) Qq Ex st := by
  obtain ⟨⟨cc, dc, dt, so⟩, hl, h1, m, h2⟩ := hT
  have h1 : cc = .type "tuple" := h1
  have h2 : dt = .seq its m := h2
  subst h1 h2
  refine PySem.callType_new PySem.F.called_enumerate (by decide) (PySem.F.typeCall_enumerate_1 _) (PySem.F.newCall_enumerate_1 _) (fun ob => PySem.F.args_object_init_2 ob _) PySem.F.entry_enumerate_new (enumT_new q its m dc so) ⟨hl, ?_⟩
  have e1 : (st.heap.push { cls := .type "tuple_iterator", data := .fields #[.ref q, .int 0 0] }).objs.size = st.heap.objs.size + 1 := Heap.size_push ..
  show _ ∧ _
  rw [e1]
  have e2 : PySem.IsEnum ((st.heap.push { cls := .type "tuple_iterator", data := .fields #[.ref q, .int 0 0] }).push { cls := .type "enumerate", data := .fields #[.none, .bool false, .ref st.heap.objs.size, rawInt 0, .none, .none] }) (st.heap.objs.size + 1) st.heap.objs.size 0 .none := by
    have e3 := Heap.get?_push_size (st.heap.push { cls := .type "tuple_iterator", data := .fields #[.ref q, .int 0 0] }) (o := { cls := .type "enumerate", data := .fields #[.none, .bool false, .ref st.heap.objs.size, rawInt 0, .none, .none] }) rfl
    rw [e1] at e3
    exact e3
  exact ⟨⟨_, e2, rfl⟩, y _ e2 ⟨_, Heap.get?_push_of_some _ (Heap.get?_push_size _ rfl), rfl, rfl⟩ fun b o z => Heap.get?_push_of_some _ (Heap.get?_push_of_some _ z)⟩
/-- the tuple at q, each item in a new pair -/
def ItET (Kf : PySem.W.Frag) (q : Addr) : It :=
  ⟨fun j G => ∃ (xs : List V) (v : V), SqT Kf G q xs ∧ xs[j]? = some v, fun j G v G' => ∃ p u, v = .ref p ∧ G p = none ∧ G' = upd G p (.tup [.int (j : Nat), u]) ∧ ∀ xs, SqT Kf G q xs → xs[j]? = some u, fun j G => ∃ xs : List V, SqT Kf G q xs ∧ xs.length = j⟩
theorem turn_ET {Pr : Program} {wo : World} {Kf : PySem.W.Frag} {ts : List Expr} {nn : Nat} {tp : Pos} (q en it : Addr) :
    Turn Pr wo Kf (.Tuple ts nn tp) (ItET Kf q) [en, it] en (fun j g => (∃ old, PySem.IsEnum g en it ((j : Nat) : Int) old) ∧ g.IsTupleIter it q j ∧ en ≠ it) where
  mem := List.mem_cons_self
  obj := fun j g st b hb => by
    obtain ⟨⟨old, h1⟩, ⟨ob, h2, h3, h4⟩, _⟩ := st
    rcases List.mem_cons.mp hb with rfl | hb
    · exact ⟨_, h1, fun v y => nomatch y⟩
    · cases List.mem_singleton.mp hb
      refine ⟨ob, h2, fun v y => ?_⟩
      rw [h4] at y
      cases y
  keep := fun j g g' st kk => by
    obtain ⟨⟨old, h1⟩, ⟨ob, h2, h3⟩, h5⟩ := st
    exact ⟨⟨old, kk en List.mem_cons_self _ h1⟩, ⟨ob, kk it (List.mem_cons_of_mem _ List.mem_cons_self) _ h2, h3⟩, h5⟩
  item := by
    intro X e1 e2 e3 calm j pins s σ G Ex inv fp st lt
    cases e1
    cases e2
    cases e3
    obtain ⟨⟨old, h1⟩, h2, ne⟩ := st
    obtain ⟨xs, v, hq, hv⟩ := lt
    obtain ⟨its, rv, hT, hz⟩ := inv.tuple hq
    obtain ⟨u, hu, ru⟩ := rv.get hv
    have l1 : en < s.heap.objs.size := Heap.lt_size h1
    have l2 : it < s.heap.objs.size := by
      obtain ⟨_, y, _⟩ := h2
      exact Heap.lt_size y
    have nqi : q ≠ it := fun z => by
      obtain ⟨o1, y1, y2, _⟩ := hT
      obtain ⟨o2, y3, y4, _⟩ := h2
      rw [z, y3] at y1
      cases y1
      rw [y4] at y2
      exact absurd y2 (by decide +kernel)
    have nqe : en ≠ q := fun z => by
      obtain ⟨o1, y1, y2, _⟩ := hT
      rw [← z, h1] at y1
      cases y1
      exact absurd (show Value.type "enumerate" = Value.type "tuple" from y2) (by decide +kernel)
    have lt : j < its.toArray.size := by
      have y := (List.getElem?_eq_some_iff.mp hu).1
      simpa using y
    refine PySem.wpAny_pyNext_enum_itemD (PySem.Draws.tuple (show X.A.in1.handled = none from inv.ok.hd calm) it q nqi its.toArray) h1 ⟨h2, hT⟩ lt ne (fun y => ?_) fun u' g' t2 hu' out h2' hT' sz kp => ?_
    · rcases List.mem_cons.mp y with z | z
      · exact ne z
      · exact nqe (List.mem_singleton.mp z)
    have eu : u' = u := by
      have y : its.toArray[j]? = some u' := hu'
      rw [List.getElem?_toArray, hu] at y
      exact (Option.some.inj y).symm
    subst eu
    refine ⟨_, rfl, PySem.wpAny_letOwnedTupleGo_enum (s := { s with heap := g', toks := t2 + 1 }) out fun g'' h1' sb => ?_⟩
    have hT2 : g''.get? s.heap.objs.size = some { cls := .type "tuple", data := .seq #[.int j t2, u'] } := (sb.2 _ (Nat.ne_of_gt l1)).trans hT'
    have made : ObjOk X.prog X.w (upd G s.heap.objs.size (.tup [.int (j : Nat), v])) g'' s.heap.objs.size (.tup [.int (j : Nat), v]) :=
      ⟨two_le, [.int j t2, u'], .cons ⟨_, rfl⟩ (.cons ru .nil), ⟨_, hT2, rfl, _, rfl⟩⟩
    have inv' : Inv X pins σ (upd G s.heap.objs.size (.tup [.int (j : Nat), v])) { s with heap := g'', toks := t2 + 1 } := by
      refine Inv.turnedNew (ch := [en, it]) inv (fun b ob nb y => ?_) fp (Nat.le_refl _) made
      have n1 : b ≠ en := fun y => nb (by rw [y]; exact List.mem_cons_self)
      have n2 : b ≠ it := fun y => nb (by rw [y]; exact List.mem_cons_of_mem _ List.mem_cons_self)
      exact (sb.2 b n1).trans (kp b ob n1 n2 y)
    refine ⟨.ref s.heap.objs.size, _, inv', rfl, ⟨_, v, rfl, inv.hok.fresh (Nat.le_refl _), rfl, fun ys hy => by rw [inv.tuple_inj hy hq]; exact hv⟩, ⟨⟨u', ?_⟩, ?_, ne⟩, fun b hb => ?_⟩
    · rw [show (((j + 1 : Nat) : Nat) : Int) = (j : Int) + 1 by omega]
      exact h1'
    · obtain ⟨ob, y1, y2⟩ := h2'.1
      exact ⟨ob, (sb.2 it (Ne.symm ne)).trans y1, y2⟩
    · have lb : b < s.heap.objs.size := by
        rcases List.mem_cons.mp hb with rfl | hb
        · exact l1
        · cases List.mem_singleton.mp hb
          exact l2
      rw [upd_ne (Nat.ne_of_lt lb)]
      exact (fp b hb).1
  done := by
    intro X e1 e2 e3 calm j pins s σ G Ex inv fp st ge
    cases e1
    cases e2
    cases e3
    obtain ⟨⟨old, h1⟩, h2, ne⟩ := st
    obtain ⟨xs, hq, hl⟩ := ge
    obtain ⟨its, rv, hT, hz⟩ := inv.tuple hq
    have nqi : q ≠ it := fun z => by
      obtain ⟨o1, y1, y2, _⟩ := hT
      obtain ⟨o2, y3, y4, _⟩ := h2
      rw [z, y3] at y1
      cases y1
      rw [y4] at y2
      exact absurd y2 (by decide +kernel)
    have ej : j = its.toArray.size := by
      have := rv.length
      rw [List.size_toArray]
      omega
    subst ej
    obtain ⟨f0, f1, f2, f3, f4, f5⟩ := fp it (List.mem_cons_of_mem _ List.mem_cons_self)
    exact PySem.wpAny_pyNext_enum_endD (PySem.Draws.tuple (show X.A.in1.handled = none from inv.ok.hd calm) it q nqi its.toArray) h1 ⟨h2, hT⟩ fun g' eb => ⟨rfl, inv.turned (t' := s.toks) (fun b o nb y => eb b o nb y) f0 f1 f3 f4 f5⟩
  self := fun Ar j s Q Ex st y => by
    obtain ⟨⟨_, h1⟩, _⟩ := st
    exact PySem.wpAny_pyIter_enum h1 y
def iET (Kf : PySem.W.Frag) (ta : L2.TA) : TI := fun σ G R => ta σ G fun vs G1 => ∃ q xs, vs = [.ref q] ∧ SqT Kf G1 q xs ∧ R (ItET Kf q) G1
theorem pi_ET {X : Cx} {ex : Expr} {ta : L2.TA} {p pos tp : Pos} {ts : List Expr} {nn : Nat} (gl : Gl X "enumerate") (mm : X.mg "enumerate" = none) (ha : PA X [ex] ta) (hs : starEach [ex] X.env = [(false, eval ex X.env)] := by rfl) :
    PI X (.Tuple ts nn tp) (.Call (.Name "enumerate" p) [ex] [] pos) (iET X.K ta) := by
  refine ⟨fun pins s σ G R inv y => ?_⟩
  refine PyProof.Rows.Call_ (ld_blt inv gl mm PyProof.Rows.boot_enumerate (PyProof.Rows.callWith_type1 (thn (ha.run pos pins s σ G _ inv y) fun us s1 ⟨vs, G1, inv1, r1, q1⟩ => ?_) hs rfl))
  obtain ⟨q, xs, rfl, hq, k⟩ := q1
  cases r1 with
  | cons r rr =>
    cases rr
    cases r
    obtain ⟨its, rv, hT, hz⟩ := inv1.tuple hq
    refine enumT_call hT fun g' h1 h2 kp => PySem.wpAny_pyIter_enum h1 ?_
    refine ⟨s1.heap.objs.size + 1, [s1.heap.objs.size + 1, s1.heap.objs.size], _, _, G1, rfl, inv1.kept (t' := s1.toks) kp, turn_ET q (s1.heap.objs.size + 1) s1.heap.objs.size, ⟨⟨.none, h1⟩, h2, Nat.succ_ne_self _⟩, fun b hb => ?_, k⟩
    have ge : s1.heap.objs.size ≤ b := by
      rcases List.mem_cons.mp hb with rfl | hb
      · exact Nat.le_succ _
      · cases List.mem_singleton.mp hb
        exact Nat.le_refl _
    exact inv1.fpOk ge (inv1.hok.fresh ge)
theorem for_ET {Kf : PySem.W.Frag} {q : Addr} {xs : List V} {g : TG} {tb : TS} {D : Ends} {σ : L2.St} {G : Hp} (Pv : Nat → L2.St → Hp → Prop) (h0 : Pv 0 σ G) (hl : ∀ j σ G, Pv j σ G → SqT Kf G q xs)
    (hs : ∀ j v σ G, xs[j]? = some v → Pv j σ G → ∀ p, G p = none → g (.ref p) σ (upd G p (.tup [.int (j : Nat), v])) fun σ2 G2 => tb { D with nx := Pv (j + 1), ct := Pv (j + 1), bk := D.nx } σ2 G2) (hd : ∀ σ G, Pv xs.length σ G → D.nx σ G) :
    ∃ Wd : Nat → Nat → L2.St → Hp → Prop, (∃ m, Wd 0 m σ G) ∧ ∀ j m σ G, Wd j m σ G →
      ((ItET Kf q).stop j G ∧ D.nx σ G) ∨ ((ItET Kf q).go j G ∧ ∃ Nn : L2.St → Hp → Prop, (∀ σ' G', Nn σ' G' → ∃ m', m' < m ∧ Wd (j + 1) m' σ' G') ∧ ∀ v G', (ItET Kf q).yld j G v G' → g v σ G' fun σ2 G2 => tb { D with nx := Nn, ct := Nn, bk := D.nx } σ2 G2) := by
  refine ⟨fun j m σ G => m = xs.length - j ∧ j ≤ xs.length ∧ Pv j σ G, ⟨_, rfl, Nat.zero_le _, h0⟩, ?_⟩
  rintro j m σ G ⟨rfl, le, pv⟩
  have hq := hl j σ G pv
  rcases Nat.lt_or_ge j xs.length with lt | ge
  · refine .inr ⟨⟨xs, xs[j], hq, List.getElem?_eq_getElem lt⟩, Pv (j + 1), fun σ' G' y => ⟨xs.length - (j + 1), by omega, rfl, lt, y⟩, fun v G' y => ?_⟩
    obtain ⟨p, u, rfl, np, rfl, hu⟩ := y
    exact hs j u σ G (hu xs hq) pv p np
  · have ej : j = xs.length := Nat.le_antisymm le ge
    subst ej
    exact .inl ⟨⟨xs, hq, rfl⟩, hd σ G pv⟩
/-! ### for over enumerate(a list) -/
section ENL
open PySem PySem.Spec PyProof.Rows
theorem for_EL {Kf : PySem.W.Frag} {q : Addr} {xs : List V} {g : TG} {tb : TS} {D : Ends} {σ : L2.St} {G : Hp} (Pv : Nat → L2.St → Hp → Prop) (h0 : Pv 0 σ G) (hl : ∀ j σ G, Pv j σ G → SqL Kf G q xs)
    (hs : ∀ j v σ G, xs[j]? = some v → Pv j σ G → ∀ p, G p = none → g (.ref p) σ (upd G p (.tup [.int (j : Nat), v])) fun σ2 G2 => tb { D with nx := Pv (j + 1), ct := Pv (j + 1), bk := D.nx } σ2 G2) (hd : ∀ σ G, Pv xs.length σ G → D.nx σ G) :
    ∃ Wd : Nat → Nat → L2.St → Hp → Prop, (∃ m, Wd 0 m σ G) ∧ ∀ j m σ G, Wd j m σ G →
      ((Ite Kf q).stop j G ∧ D.nx σ G) ∨ ((Ite Kf q).go j G ∧ ∃ Nn : L2.St → Hp → Prop, (∀ σ' G', Nn σ' G' → ∃ m', m' < m ∧ Wd (j + 1) m' σ' G') ∧ ∀ v G', (Ite Kf q).yld j G v G' → g v σ G' fun σ2 G2 => tb { D with nx := Nn, ct := Nn, bk := D.nx } σ2 G2) := by
  refine ⟨fun j m σ G => m = xs.length - j ∧ j ≤ xs.length ∧ Pv j σ G, ⟨_, rfl, Nat.zero_le _, h0⟩, ?_⟩
  rintro j m σ G ⟨rfl, le, pv⟩
  have hq := hl j σ G pv
  rcases Nat.lt_or_ge j xs.length with lt | ge
  · refine .inr ⟨⟨xs, xs[j], hq, List.getElem?_eq_getElem lt⟩, Pv (j + 1), fun σ' G' y => ⟨xs.length - (j + 1), by omega, rfl, lt, y⟩, fun v G' y => ?_⟩
    obtain ⟨p, u, rfl, np, rfl, hu⟩ := y
    exact hs j u σ G (hu xs hq) pv p np
  · have ej : j = xs.length := Nat.le_antisymm le ge
    subst ej
    exact .inl ⟨⟨xs, hq, Nat.le_refl _⟩, hd σ G pv⟩
end ENL
def top (i : Nat) : Stmt := PySem.Challenge.pw_uponboth_k18_moves.main.body.getD i (.Pass ⟨0, 0, 0, 0⟩)
structure Blt (mg : Str → Option Value) : Prop where
  len : mg "len" = none
  list : mg "list" = none
  tuple : mg "tuple" = none
  dict : mg "dict" = none
  bool : mg "bool" = none
  isinstance : mg "isinstance" = none
  max : mg "max" = none
  min : mg "min" = none
  range : mg "range" = none
  all : mg "all" = none
  sorted : mg "sorted" = none
  enumerate : mg "enumerate" = none
  sum : mg "sum" = none
  str : mg "str" = none
  int : mg "int" = none
/-- the state of the draws: a list of ints, a place, a rest, a seed -/
def Rng (H : Hp) (r : Addr) : Prop := ∃ (c : Addr) (ns : List Int) (i b s : Int), H r = some (.lst [.ref c, .int i, .int b, .int s]) ∧ H c = some (.lst (ns.map V.int)) ∧ c ≠ r ∧ 0 ≤ i ∧ 0 ≤ b ∧ 0 ≤ s ∧ s < 2147483647
theorem Rng.lst {H : Hp} {r : Addr} (h : Rng H r) : ∃ ys, H r = some (.lst ys) := by
  obtain ⟨c, ns, i, b, s, h, _⟩ := h
  exact ⟨_, h⟩
theorem Rng.same {H H' : Hp} {r : Addr} (e : Same H H') (h : Rng H r) : Rng H' r := by
  obtain ⟨c, ns, i, b, s, h1, h2, h3⟩ := h
  exact ⟨c, ns, i, b, s, e _ _ h1, e _ _ h2, h3⟩
theorem cut63 {ns : List Int} : cutV (ns.map V.int) none (some 63) = (ns.take 63).map V.int := by
  unfold cutV
  rw [HT.sIx_none, show HT.sIx (ns.map V.int).length (ns.map V.int).length (some 63) = min 63 (ns.map V.int).length from HT.sIx_nat _ _ 63]
  rw [List.drop_zero, Nat.sub_zero, List.map_take]
  rcases Nat.le_total 63 (ns.map V.int).length with h | h
  · rw [Nat.min_eq_left h]
  · rw [Nat.min_eq_right h, List.take_of_length_le (Nat.le_refl _), List.take_of_length_le h]
def spDraws (K : PySem.W.Frag) : Sp := fun vs H Q _ => ∃ (a : Addr) (ns : List Int), vs = [.ref a] ∧ SqL K H a (ns.map V.int) ∧ ∀ (r : Addr) (H' : Hp), Same H H' → H r = none → Rng H' r → Q (.ref r) H'
def spDraw : Sp := fun vs H Q _ => ∃ (r : Addr) (n : Int), vs = [.ref r, .int n] ∧ Rng H r ∧ 0 < n ∧ n < 1073741824 ∧ ∀ (v : Int) (H' : Hp), 0 ≤ v → v < n → Rng H' r → But r H H' → Q (.int v) H'
theorem fn_none {P : Program} {w : World} {K : PySem.W.Frag} {mg : Str → Option Value} {base : Heap} {f : Addr} {fd : FuncData} {CX : CXT} {ps : List Str} {sp : Sp} {k : Nat} (no : ∀ vs H Q E, ¬ sp vs H Q E) : FnOk P w K mg base CX k f fd ps sp :=
  ⟨fun vs H Q E h => absurd h (no vs H Q E), fun A outer s H args us vs Q E _ _ _ _ h => absurd h (no vs H Q E)⟩
def spTerm (K : PySem.W.Frag) (n : Nat) : Sp := fun vs H Q _ => ∃ (r : Addr) (many : Int) (k : Nat), k < n ∧ vs = [.ref r, .int many, .int (2 ^ k)] ∧ k ≤ 6 ∧ 1 ≤ many ∧ many ≤ 2 ^ k ∧ Rng H r ∧
  ∀ (v : V) (t : Tree) (H' : Hp), TA K H' v t → (t.sz : Int) = many → t.dp ≤ k → Rng H' r → But r H H' → Q v H'
def spComb (K : PySem.W.Frag) : Sp := fun vs H Q _ => ∃ (m : Int) (b : Bool), vs = [.int m, .bl b] ∧ 1 ≤ m ∧ m ≤ 40 ∧
  ∀ (v : V) (t : Tree) (H' : Hp), TA K H' v t → (t.sz : Int) = m → (t.dp : Int) = m - 1 → Same H H' → Q v H'
def spAny (K : PySem.W.Frag) : Sp := fun vs H Q _ => ∃ (r : Addr) (top : Int), vs = [.ref r, .int top] ∧ 1 ≤ top ∧ top ≤ 64 ∧ Rng H r ∧
  ∀ (v : V) (t : Tree) (H' : Hp), TA K H' v t → (t.sz : Int) ≤ top → t.dp ≤ 6 → Rng H' r → But r H H' → Q v H'
/-- a def over one tree that gives g of it and makes nothing that stays -/
def spTree (K : PySem.W.Frag) (g : Tree → V) (n : Nat) : Sp := fun vs H Q _ => ∃ (v : V) (t : Tree), vs = [v] ∧ TA K H v t ∧ t.dp < n ∧ n ≤ 40 ∧ ∀ H', Same H H' → Q (g t) H'
theorem spTree_no {K : PySem.W.Frag} {g : Tree → V} : ∀ vs H Q E, ¬ spTree K g 0 vs H Q E := fun vs H Q E h => by
  obtain ⟨v, t, _, _, h, _⟩ := h
  omega
def spIsPair (K : PySem.W.Frag) : Sp := fun vs H Q _ => ∃ (v : V) (t : Tree), vs = [v] ∧ TA K H v t ∧ Q (.bl (!t.isL)) H
def spOkTerm (K : PySem.W.Frag) (g : V) : Sp := fun vs H Q _ => ∃ (v : V) (t : Tree), vs = [v] ∧ TA K H v t ∧ t.sz ≤ 12 ∧ t.dp ≤ 6 ∧ ∀ H', Same H H' → Q g H'
/-- an item of the pile: a term and how deep it stands -/
def Item (K : PySem.W.Frag) (H : Hp) (p : V × Tree × Nat) : Prop := ∃ (a : Addr) (u : V), p.1 = .ref a ∧ SqT K H a [u, .int p.2.2] ∧ TA K H u p.2.1 ∧ p.2.2 + p.2.1.dp ≤ 6
theorem Item.mono {K : PySem.W.Frag} {H H' : Hp} (e : Tp H H') {p : V × Tree × Nat} (h : Item K H p) : Item K H' p := by
  obtain ⟨a, u, h1, h2, h3, h4⟩ := h
  exact ⟨a, u, h1, e.sqT h2, ta_mono e h3, h4⟩
def szs (ps : List (V × Tree × Nat)) : Nat := (ps.map fun p => p.2.1.sz).sum
def nds (ps : List (V × Tree × Nat)) : Nat := (ps.map fun p => p.2.1.nodes).sum
theorem szs_snoc (ps : List (V × Tree × Nat)) (p) : szs (ps ++ [p]) = szs ps + p.2.1.sz := by
  unfold szs
  rw [List.map_append, List.sum_append]
  simp
theorem nds_snoc (ps : List (V × Tree × Nat)) (p) : nds (ps ++ [p]) = nds ps + p.2.1.nodes := by
  unfold nds
  rw [List.map_append, List.sum_append]
  simp
theorem szs_len : ∀ ps : List (V × Tree × Nat), ps.length ≤ szs ps
  | [] => Nat.zero_le _
  | p :: ps => by
    have h := szs_len ps
    have h2 := p.2.1.sz_pos
    show ps.length + 1 ≤ (p.2.1.sz :: ps.map fun p => p.2.1.sz).sum
    rw [List.sum_cons]
    unfold szs at h
    omega
structure Cst (mg : Str → Option Value) : Prop where
  MAX_SIZE : ∃ t, mg "MAX_SIZE" = some (.int 12 t)
  MAX_DEPTH : ∃ t, mg "MAX_DEPTH" = some (.int 6 t)
def spOkTree (K : PySem.W.Frag) (g : Tree → V) : Sp := fun vs H Q _ => ∃ (v : V) (t : Tree), vs = [v] ∧ TA K H v t ∧ t.sz ≤ 12 ∧ t.dp ≤ 6 ∧ ∀ H', Same H H' → Q (g t) H'
def Tree.spine : Tree → List Tree
  | .L => [.L]
  | .N l r => .N l r :: l.spine
def spSpine (K : PySem.W.Frag) : Sp := fun vs H Q _ => ∃ (v : V) (t : Tree), vs = [v] ∧ TA K H v t ∧ t.sz ≤ 12 ∧ t.dp ≤ 6 ∧ ∀ (p : Addr) (vs : List V) (H' : Hp), Same H H' → H p = none → H' p = some (.lst vs) → DpAll K H' vs (t.spine.map Tree.d) → Q (.ref p) H'
theorem dpAll_snoc {K : PySem.W.Frag} {H : Hp} : ∀ {vs : List V} {ds : List PyData} {v : V} {d : PyData}, DpAll K H vs ds → Dp K H v d → DpAll K H (vs ++ [v]) (ds ++ [d])
  | _, _, _, _, .nil, h => .cons h .nil
  | _, _, _, _, .cons h1 h2, h => .cons h1 (dpAll_snoc h2 h)
theorem dpAll_len {K : PySem.W.Frag} {H : Hp} : ∀ {vs : List V} {ds : List PyData}, DpAll K H vs ds → vs.length = ds.length
  | _, _, .nil => rfl
  | _, _, .cons _ h2 => congrArg (· + 1) (dpAll_len h2)
theorem dpAll_at {K : PySem.W.Frag} {H : Hp} : ∀ {vs : List V} {ds : List PyData}, DpAll K H vs ds → ∀ (i : Nat) (d : PyData), ds[i]? = some d → ∃ v, vs[i]? = some v ∧ Dp K H v d
  | _, _, .nil, i, d, e => by simp at e
  | _, _, .cons h1 h2, 0, d, e => ⟨_, rfl, by cases e; exact h1⟩
  | _, _, .cons h1 h2, i + 1, d, e => dpAll_at h2 i d e
theorem dpAll_tp {K : PySem.W.Frag} {H H' : Hp} (e : Tp H H') : ∀ {ts : List Tree} {vs : List V}, DpAll K H vs (ts.map Tree.d) → DpAll K H' vs (ts.map Tree.d)
  | [], _, h => by
    cases h
    exact .nil
  | t :: ts, _, h => by
    cases h with
    | cons h1 h2 => exact .cons (ta_mono e h1) (dpAll_tp e h2)
theorem Tree.spine_len : ∀ t : Tree, t.spine.length ≤ t.dp + 1
  | .L => Nat.le_refl _
  | .N l r => by
    have h := spine_len l
    show l.spine.length + 1 ≤ max l.dp r.dp + 1 + 1
    omega
theorem Tree.spine_mem : ∀ {t u : Tree}, u ∈ t.spine → u.dp ≤ t.dp
  | .L, u, h => by
    cases List.mem_singleton.mp h
    exact Nat.le_refl _
  | .N l r, u, h => by
    rcases List.mem_cons.mp h with e | h
    · rw [e]
      exact Nat.le_refl _
    · have h2 := spine_mem h
      show u.dp ≤ max l.dp r.dp + 1
      omega
theorem Tree.spine_self : ∀ t : Tree, t ∈ t.spine
  | .L => List.mem_singleton.mpr rfl
  | .N _ _ => List.mem_cons_self
/-- the walk down the left: at p stands the list of what was met, its last one is still to be looked at -/
def Spn (K : PySem.W.Frag) (H H' : Hp) (p : Addr) (t : Tree) (m : Nat) : Prop := ∃ (vs : List V) (u : V) (ts : List Tree) (t' : Tree), Same H H' ∧ H' p = some (.lst (vs ++ [u])) ∧ DpAll K H' vs (ts.map Tree.d) ∧ TA K H' u t' ∧ ts ++ t'.spine = t.spine ∧ m = t'.nodes
theorem Spn.dp {t t' : Tree} {ts : List Tree} (et : ts ++ t'.spine = t.spine) (hd : t.dp ≤ 6) : t'.dp ≤ 63 := by
  have h : t' ∈ t.spine := by
    rw [← et]
    exact List.mem_append_right _ t'.spine_self
  have := Tree.spine_mem h
  omega
theorem Spn.lt {K : PySem.W.Frag} {H' : Hp} {vs : List V} {u : V} {t t' : Tree} {ts : List Tree} (hA : DpAll K H' vs (ts.map Tree.d)) (et : ts ++ t'.spine = t.spine) (hd : t.dp ≤ 6) : (vs ++ [u]).length < sizeLine := by
  have h1 := dpAll_len hA
  have h2 := congrArg List.length et
  have h3 := t.spine_len
  rw [List.length_map] at h1
  rw [List.length_append] at h2
  rw [List.length_append, List.length_singleton]
  exact small1000 (by omega)
theorem Spn.next {K : PySem.W.Frag} {H H' : Hp} {p p5 b : Addr} {vs : List V} {x1 x2 : V} {t l r : Tree} {ts : List Tree} (hp0 : H p = none) (sm : Same H H') (s5 : Same H' (upd H' p5 (.tup []))) (hl : H' p = some (.lst (vs ++ [.ref b]))) (hA : DpAll K H' vs (ts.map Tree.d)) (hS : SqT K H' b [x1, x2]) (hL : TA K H' x1 l) (hR : TA K H' x2 r)
    (et : ts ++ (Tree.N l r).spine = t.spine) : Spn K H (upd (upd H' p5 (.tup [])) p (.lst ((vs ++ [.ref b]) ++ [x1]))) p t l.nodes := by
  have tp : Tp H' (upd (upd H' p5 (.tup [])) p (.lst ((vs ++ [.ref b]) ++ [x1]))) := (Tp.same s5).trans (Tp.but (s5 _ _ hl) But.set)
  refine ⟨vs ++ [.ref b], x1, ts ++ [.N l r], l, fun c o e => ?_, upd_same, ?_, ta_mono tp hL, ?_, rfl⟩
  · rw [upd_ne (ne_of_none e hp0)]
    exact s5 _ _ (sm _ _ e)
  · rw [List.map_append]
    exact dpAll_snoc (dpAll_tp tp hA) (ta_node (tp.sqT hS) (ta_mono tp hL) (ta_mono tp hR))
  · rw [List.append_assoc]
    exact et
/-! ### data and their built-in types -/
def tn : PyData → String
  | .none => "NoneType"
  | .bool _ => "bool"
  | .int _ => "int"
  | .str _ => "str"
  | .list _ => "list"
  | .tuple _ => "tuple"
  | .dict _ => "dict"
def isT : PyData → Bool
  | .tuple _ => true
  | _ => false
def isLs : PyData → Bool
  | .list _ => true
  | _ => false
def isB : PyData → Bool
  | .bool _ => true
  | _ => false
theorem dp_ty {K : PySem.W.Frag} {H : Hp} {x : V} {d : PyData} (h : Dp K H x d) : TyX K H x (.type (tn d)) := by
  cases h with
  | non => exact .base .non
  | bl b => exact .base (.bl b)
  | int i => exact .base (.int i)
  | str z => exact .base (.str z)
  | lst hs _ => exact tyx_lst hs
  | tup hs _ => exact tyx_tup hs
theorem kit_dict {K : PySem.W.Frag} {H : Hp} {x : V} {d : PyData} (h : Dp K H x d) : PySem.W.kitOne K (.type (tn d)) (.type "dict") = some false := by
  cases h with
  | non => exact kit_ty (show kitB "NoneType" "dict" = some false by decide +kernel)
  | bl _ => exact kit_ty (show kitB "bool" "dict" = some false by decide +kernel)
  | int _ => exact kit_ty (show kitB "int" "dict" = some false by decide +kernel)
  | str _ => exact kit_ty (show kitB "str" "dict" = some false by decide +kernel)
  | lst _ _ => exact kit_ty (show kitB "list" "dict" = some false by decide +kernel)
  | tup _ _ => exact kit_ty (show kitB "tuple" "dict" = some false by decide +kernel)
theorem kit_tuple {K : PySem.W.Frag} {H : Hp} {x : V} {d : PyData} (h : Dp K H x d) : PySem.W.kitOne K (.type (tn d)) (.type "tuple") = some (isT d) := by
  cases h with
  | non => exact kit_ty (show kitB "NoneType" "tuple" = some false by decide +kernel)
  | bl _ => exact kit_ty (show kitB "bool" "tuple" = some false by decide +kernel)
  | int _ => exact kit_ty (show kitB "int" "tuple" = some false by decide +kernel)
  | str _ => exact kit_ty (show kitB "str" "tuple" = some false by decide +kernel)
  | lst _ _ => exact kit_ty (show kitB "list" "tuple" = some false by decide +kernel)
  | tup _ _ => exact kit_ty (show kitB "tuple" "tuple" = some true by decide +kernel)
theorem kit_list {K : PySem.W.Frag} {H : Hp} {x : V} {d : PyData} (h : Dp K H x d) : PySem.W.kitOne K (.type (tn d)) (.type "list") = some (isLs d) := by
  cases h with
  | non => exact kit_ty (show kitB "NoneType" "list" = some false by decide +kernel)
  | bl _ => exact kit_ty (show kitB "bool" "list" = some false by decide +kernel)
  | int _ => exact kit_ty (show kitB "int" "list" = some false by decide +kernel)
  | str _ => exact kit_ty (show kitB "str" "list" = some false by decide +kernel)
  | lst _ _ => exact kit_ty (show kitB "list" "list" = some true by decide +kernel)
  | tup _ _ => exact kit_ty (show kitB "tuple" "list" = some false by decide +kernel)
theorem kit_bool {K : PySem.W.Frag} {H : Hp} {x : V} {d : PyData} (h : Dp K H x d) : PySem.W.kitOne K (.type (tn d)) (.type "bool") = some (isB d) := by
  cases h with
  | non => exact kit_ty (show kitB "NoneType" "bool" = some false by decide +kernel)
  | bl _ => exact kit_ty (show kitB "bool" "bool" = some true by decide +kernel)
  | int _ => exact kit_ty (show kitB "int" "bool" = some false by decide +kernel)
  | str _ => exact kit_ty (show kitB "str" "bool" = some false by decide +kernel)
  | lst _ _ => exact kit_ty (show kitB "list" "bool" = some false by decide +kernel)
  | tup _ _ => exact kit_ty (show kitB "tuple" "bool" = some false by decide +kernel)
theorem kit_seq {K : PySem.W.Frag} {H : Hp} {x : V} {d : PyData} (h : Dp K H x d) : PySem.W.kitAny K (.type (tn d)) [.type "tuple", .type "list"] = some (isT d || isLs d) := by
  refine kitAny_cons (kit_tuple h) (fun e => kitAny_cons (kit_list h) (fun e2 => ?_) (fun e2 => ?_)) (fun e => ?_)
  · rw [e, e2]
    exact kitAny_nil
  · rw [e, e2]
    rfl
  · rw [e]
    rfl
mutual
/-- no list or tuple in it is longer than 1000 -/
def wide : PyData → Bool
  | .list xs | .tuple xs => decide (xs.length ≤ 1000) && wideAll xs
  | .none | .bool _ | .int _ | .str _ | .dict _ => true
def wideAll : List PyData → Bool
  | [] => true
  | x :: xs => wide x && wideAll xs
end
/-- two data that are the same are told to be the same -/
def spSame (K : PySem.W.Frag) (n : Nat) : Sp := fun vs H Q _ => ∃ (x y : V) (d : PyData), vs = [x, y] ∧ Dp K H x d ∧ Dp K H y d ∧ SeqAt.shaped d = true ∧ d.depth < n ∧ wide d = true ∧ ∀ H', Same H H' → Q (.bl true) H'
theorem shaped_at {ds : List PyData} {d : PyData} (hc : PyData.canLayAll0 ds = true) (hm : d ∈ ds) : d.canLay0 = true := by
  induction ds with
  | nil => cases hm
  | cons a r ih =>
    have h' : a.canLay0 = true ∧ PyData.canLayAll0 r = true := by simpa [PyData.canLayAll0] using hc
    rcases List.mem_cons.mp hm with e | hm
    · rw [e]
      exact h'.1
    · exact ih h'.2 hm
theorem depth_at {ds : List PyData} {d : PyData} (hm : d ∈ ds) : d.depth ≤ PyData.depthAll ds := by
  induction ds with
  | nil => cases hm
  | cons a r ih =>
    show d.depth ≤ max a.depth (PyData.depthAll r)
    rcases List.mem_cons.mp hm with e | hm
    · rw [e]
      omega
    · have := ih hm
      omega
theorem wide_at {ds : List PyData} {d : PyData} (hc : wideAll ds = true) (hm : d ∈ ds) : wide d = true := by
  induction ds with
  | nil => cases hm
  | cons a r ih =>
    have h' : wide a = true ∧ wideAll r = true := by simpa [wideAll] using hc
    rcases List.mem_cons.mp hm with e | hm
    · rw [e]
      exact h'.1
    · exact ih h'.2 hm
theorem all_rep : ∀ n : Nat, (List.replicate n true).all id = true
  | 0 => rfl
  | n + 1 => all_rep n
def spLaw (K : PySem.W.Frag) : Sp := fun vs H Q _ => ∃ (a : Addr) (ns : List Int), vs = [.ref a] ∧ SqL K H a (ns.map V.int) ∧ ∀ H', Q (.bl true) H'
/-! ### texts of trees -/
namespace Tree
def cs : Tree → List Nat
  | L => [120]
  | N l r => 40 :: (l.cs ++ (r.cs ++ [41]))
def txt (t : Tree) : Str := ⟨t.cs.toArray⟩
theorem cs_len : ∀ t : Tree, t.cs.length + 2 = 3 * t.sz
  | L => rfl
  | N l r => by
    have h1 := cs_len l
    have h2 := cs_len r
    show (40 :: (l.cs ++ (r.cs ++ [41]))).length + 2 = 3 * (l.sz + r.sz)
    rw [List.length_cons, List.length_append, List.length_append, List.length_singleton]
    omega
theorem txt_len (t : Tree) : t.txt.length = t.cs.length := by
  show t.cs.toArray.size = _
  simp
theorem txtN (l r : Tree) : (((Str.ofString "(" ++ l.txt) ++ r.txt) ++ Str.ofString ")") = (N l r).txt := by
  show (⟨((#[40] ++ l.cs.toArray) ++ r.cs.toArray) ++ #[41]⟩ : Str) = ⟨(40 :: (l.cs ++ (r.cs ++ [41]))).toArray⟩
  congr 1
  apply Array.toList_inj.mp
  simp
theorem txtL : Str.ofString "x" = L.txt := rfl
end Tree
def spText (K : PySem.W.Frag) (n : Nat) : Sp := fun vs H Q _ => ∃ (v : V) (t : Tree), vs = [v] ∧ TA K H v t ∧ t.dp < n ∧ n ≤ 40 ∧ t.sz ≤ 1000 ∧ ∀ H', Same H H' → Q (.str t.txt) H'
theorem spText_no {K : PySem.W.Frag} : ∀ vs H Q E, ¬ spText K 0 vs H Q E := fun vs H Q E h => by
  obtain ⟨v, t, _, _, h, _⟩ := h
  omega
theorem fits {n : Nat} (h : n ≤ 10000) : n ≤ sizeLine := Nat.le_trans h (by decide)
/-- the reader's pile: the lists of operands that are open, the innermost first -/
def room (ts : List Tree) (rest : List (List Tree)) : Nat := if rest.length = 0 then 1 else 2
def stp : List (List Tree) → Nat → Option (List (List Tree))
  | [], _ => none
  | ts :: rest, c => if c = 120 then (if ts.length < room ts rest then some ((ts ++ [.L]) :: rest) else none)
    else if c = 40 then (if ts.length < room ts rest then some ([] :: ts :: rest) else none)
    else if c = 41 then (match ts, rest with
      | [a, b], us :: more => some ((us ++ [.N a b]) :: more)
      | _, _ => none)
    else none
theorem stp_x (ts : List Tree) (rest : List (List Tree)) : stp (ts :: rest) 120 = if ts.length < room ts rest then some ((ts ++ [.L]) :: rest) else none := rfl
theorem stp_o (ts : List Tree) (rest : List (List Tree)) : stp (ts :: rest) 40 = if ts.length < room ts rest then some ([] :: ts :: rest) else none := rfl
theorem stp_c (ts : List Tree) (rest : List (List Tree)) : stp (ts :: rest) 41 = (match ts, rest with
      | [a, b], us :: more => some ((us ++ [.N a b]) :: more)
      | _, _ => none) := rfl
theorem stp_else (ts : List Tree) (rest : List (List Tree)) {c : Nat} (h1 : c ≠ 120) (h2 : c ≠ 40) (h3 : c ≠ 41) : stp (ts :: rest) c = none := by
  show (if c = 120 then _ else if c = 40 then _ else if c = 41 then _ else none) = none
  rw [if_neg h1, if_neg h2, if_neg h3]
def rn : List (List Tree) → List Nat → Option (List (List Tree))
  | st, [] => some st
  | st, c :: cs => (stp st c).bind fun st' => rn st' cs
theorem rn_tree : ∀ (t : Tree) (ts : List Tree) (rest : List (List Tree)) (more : List Nat), ts.length < room ts rest → rn (ts :: rest) (t.cs ++ more) = rn ((ts ++ [t]) :: rest) more
  | .L, ts, rest, more, h => by
    show (stp (ts :: rest) 120).bind (fun st' => rn st' more) = _
    rw [stp_x, if_pos h]
    rfl
  | .N l r, ts, rest, more, h => by
    have e : (Tree.N l r).cs ++ more = 40 :: (l.cs ++ (r.cs ++ (41 :: more))) := by
      show (40 :: (l.cs ++ (r.cs ++ [41]))) ++ more = _
      simp
    rw [e]
    show (stp (ts :: rest) 40).bind (fun st' => rn st' (l.cs ++ (r.cs ++ (41 :: more)))) = _
    have e1 : stp (ts :: rest) 40 = some ([] :: ts :: rest) := by
      rw [stp_o, if_pos h]
    rw [e1]
    show rn ([] :: ts :: rest) (l.cs ++ (r.cs ++ (41 :: more))) = _
    rw [rn_tree l [] (ts :: rest) _ (by show 0 < if (ts :: rest).length = 0 then 1 else 2; rw [if_neg (by simp)]; decide)]
    rw [rn_tree r _ (ts :: rest) _ (by show 1 < if (ts :: rest).length = 0 then 1 else 2; rw [if_neg (by simp)]; decide)]
    rfl
theorem rn_all (t : Tree) : rn [[]] t.cs = some [[t]] := by
  have h := rn_tree t [] [] [] (by decide)
  rw [List.append_nil] at h
  rw [h]
  rfl
theorem tlen {t : Tree} (h : t.sz ≤ 1000) : t.txt.length ≤ 3000 := by
  have h1 := t.cs_len
  have h2 := t.txt_len
  omega
theorem slen (a b : Str) : (a ++ b).length = a.length + b.length := by
  show (a.cps ++ b.cps).size = a.cps.size + b.cps.size
  simp
def spOkText (K : PySem.W.Frag) : Sp := fun vs H Q _ => ∃ (v : V) (t : Tree), vs = [v] ∧ TA K H v t ∧ t.sz ≤ 12 ∧ t.dp ≤ 6 ∧ ∀ H', Same H H' → Q (.str t.txt) H'
def spRoom : Sp := fun vs H Q _ => ∃ (p a : Addr) (as : List Addr) (ws : List V), vs = [.ref p] ∧ H p = some (.lst ((as ++ [a]).map V.ref)) ∧ H a = some (.lst ws) ∧ as.length ≤ 10000 ∧ ws.length ≤ 10000 ∧ Q (.bl (decide ((ws.length : Int) < if as.length = 0 then 1 else 2))) H
/-- reading the text of a tree gives the tree -/
def spRead (K : PySem.W.Frag) : Sp := fun vs H Q _ => ∃ t : Tree, vs = [.str t.txt] ∧ t.sz ≤ 1000 ∧ ∀ (v : V) (H' : Hp), TA K H' v t → Same H H' → Q v H'
def spParse (K : PySem.W.Frag) : Sp := fun vs H Q _ => ∃ t : Tree, vs = [.str t.txt] ∧ t.sz ≤ 12 ∧ t.dp ≤ 6 ∧ ∀ (v : V) (H' : Hp), TA K H' v t → Same H H' → Q v H'
inductive Pile (K : PySem.W.Frag) (G : Hp) : List Addr → List (List Tree) → Prop
  | nil : Pile K G [] []
  | cons {a : Addr} {vs : List V} {ts : List Tree} {as : List Addr} {st : List (List Tree)} : G a = some (.lst vs) → DpAll K G vs (ts.map Tree.d) → Pile K G as st → Pile K G (a :: as) (ts :: st)
theorem Pile.mono {K : PySem.W.Frag} {G G' : Hp} (tp : Tp G G') : ∀ {as : List Addr} {st : List (List Tree)}, (∀ a ∈ as, ∀ o, G a = some o → G' a = some o) → Pile K G as st → Pile K G' as st
  | _, _, _, .nil => .nil
  | _, _, k, .cons h1 h2 h3 => .cons (k _ List.mem_cons_self _ h1) (dpAll_tp tp h2) (Pile.mono tp (fun a ha => k a (List.mem_cons_of_mem _ ha)) h3)
/-- the pile at p, all of it new since H -/
def PileAt (K : PySem.W.Frag) (H G : Hp) (p : Addr) (st : List (List Tree)) : Prop := ∃ as : List Addr, G p = some (.lst (as.reverse.map V.ref)) ∧ as.Nodup ∧ p ∉ as ∧ H p = none ∧ (∀ a ∈ as, H a = none) ∧ Pile K G as st
theorem cs_small : ∀ (t : Tree) (c : Nat), c ∈ t.cs → c < 128
  | .L, c, h => by
    rw [List.mem_singleton.mp h]
    decide
  | .N l r, c, h => by
    have h : c ∈ 40 :: (l.cs ++ (r.cs ++ [41])) := h
    rcases List.mem_cons.mp h with e | h
    · rw [e]
      decide
    rcases List.mem_append.mp h with h | h
    · exact cs_small l c h
    rcases List.mem_append.mp h with h | h
    · exact cs_small r c h
    · rw [List.mem_singleton.mp h]
      decide
theorem txt_ok (t : Tree) : PyData.strOk t.txt = true := by
  show t.cs.toArray.all (· < 0x110000) = true
  rw [Array.all_eq_true']
  intro c hc
  have h := cs_small t c (by simpa using hc)
  exact decide_eq_true (by omega)
/-! ### the twenty errors of the law's words -/
def enames : List Str := ["InvalidTerm", "InvalidText", "InvalidPath", "PathNotFound", "NotRewritable", "TooLarge", "InvalidSize", "InvalidIndex", "InvalidWord", "InvalidStep", "InvalidElement", "InvalidModel", "NestingTooDeep", "InvalidLabel", "DuplicateName", "UnknownName", "LimitReached", "InvalidCommand", "EmptyHistory", "InvalidSnapshot"]
def en (i : Nat) : Str := enames.getD i ""
/-- where their classes stand -/
def Errs (mg : Str → Option Value) (cl : Nat → Addr) : Prop := ∀ i, i < 20 → mg (en i) = some (.ref (cl i))
/-- D's word is the j-th -/
structure Isw (K : PySem.W.Frag) (cl : Nat → Addr) (D : Addr) (j : Nat) : Prop where
  lt : j < 20
  kit : ∀ i, i < 20 → PySem.W.kitOne K (.ref D) (.ref (cl i)) = some (decide (i = j))
/-- the state between two rows: a list of n pairs -/
def NmI (H0 : Hp) (xh : Addr) (j n : Nat) (σ : L2.St) (H : Hp) : Prop := ∃ (L : Addr) (ps : List Addr), σ = [some (.ref xh), some (.ref L), none, none] ∧ Same H0 H ∧ ps.length = n ∧ H L = some (.lst (ps.map V.ref)) ∧
  ∀ i p, ps[i]? = some p → H p = some (.tup [.str (en i), .bl (decide (i = j))])
def tIs (K : PySem.W.Frag) (D xh c : Addr) : TE := fun σ H Q => tCons (tVar 0) (tCons (tC (.ref c)) tNil) σ H fun vs H1 => rIsB K D xh vs H1 Q
def tPr (K : PySem.W.Frag) (D xh : Addr) (cl : Nat → Addr) (i : Nat) : TE := tTup (tCons (tC (.str (en i))) (tCons (tIs K D xh (cl i)) tNil))
theorem tPr_ok {K : PySem.W.Frag} {D xh : Addr} {cl : Nat → Addr} {i j : Nat} {σ : L2.St} {H : Hp} {Q : VK} (hj : Isw K cl D j) (hi : i < 20) (e : σ[0]? = some (some (.ref xh))) (q : ∀ p, H p = none → Q (.ref p) (upd H p (.tup [.str (en i), .bl (decide (i = j))]))) : tPr K D xh cl i σ H Q := by
  exact ⟨_, e, _, _, _, rfl, .own _, hj.kit i hi, two_le, q⟩
theorem pairs_new {H0 H : Hp} {xh : Addr} {j n : Nat} {ps : List Addr} {p1 p2 : Addr} (hl : ps.length = n) (hp : ∀ i p, ps[i]? = some p → H p = some (.tup [.str (en i), .bl (decide (i = j))])) (n1 : H p1 = none)
    (n2 : upd H p1 (.tup [.str (en n), .bl (decide (n = j))]) p2 = none) :
    ∀ i p, (ps ++ [p1, p2])[i]? = some p → upd (upd H p1 (.tup [.str (en n), .bl (decide (n = j))])) p2 (.tup [.str (en (n + 1)), .bl (decide (n + 1 = j))]) p = some (.tup [.str (en i), .bl (decide (i = j))]) := by
  intro i p e
  have s1 := Same.new n1 (.tup [.str (en n), .bl (decide (n = j))])
  have s2 := Same.new n2 (.tup [.str (en (n + 1)), .bl (decide (n + 1 = j))])
  rcases Nat.lt_or_ge i ps.length with lt | ge
  · rw [List.getElem?_append_left lt] at e
    exact s2 _ _ (s1 _ _ (hp i p e))
  · rw [List.getElem?_append_right ge] at e
    obtain ⟨k, rfl⟩ : ∃ k, i = n + k := ⟨i - n, by omega⟩
    rw [show n + k - ps.length = k by omega] at e
    match k, e with
    | 0, e => cases e; exact s2 _ _ upd_same
    | 1, e => cases e; exact upd_same
theorem two_pr {K : PySem.W.Frag} {D xh : Addr} {cl : Nat → Addr} {i j : Nat} {σ : L2.St} {H : Hp} {Q : VK} (hj : Isw K cl D j) (hi : i + 1 < 20) (e : σ[0]? = some (some (.ref xh)))
    (q : ∀ p1 p2 L, H p1 = none → upd H p1 (.tup [.str (en i), .bl (decide (i = j))]) p2 = none → upd (upd H p1 (.tup [.str (en i), .bl (decide (i = j))])) p2 (.tup [.str (en (i + 1)), .bl (decide (i + 1 = j))]) L = none →
      Q (.ref L) (upd (upd (upd H p1 (.tup [.str (en i), .bl (decide (i = j))])) p2 (.tup [.str (en (i + 1)), .bl (decide (i + 1 = j))])) L (.lst [.ref p1, .ref p2]))) :
    tLst (tCons (tPr K D xh cl i) (tCons (tPr K D xh cl (i + 1)) tNil)) σ H Q := by
  show tPr K D xh cl i σ H (fun x H1 => tPr K D xh cl (i + 1) σ H1 fun y H2 => [x, y].length ≤ sizeLine ∧ ∀ p, H2 p = none → Q (.ref p) (upd H2 p (.lst [x, y])))
  refine tPr_ok hj (by omega) e fun p1 n1 => ?_
  refine tPr_ok hj hi e fun p2 n2 => ?_
  exact ⟨two_le, fun L nL => q p1 p2 L n1 n2 nL⟩
theorem nm_first {K : PySem.W.Frag} {D xh : Addr} {cl : Nat → Addr} {j : Nat} {H : Hp} {nx : L2.St → Hp → Prop} (hj : Isw K cl D j) (q : ∀ σ' H', NmI H xh j 2 σ' H' → nx σ' H') :
    tLst (tCons (tPr K D xh cl 0) (tCons (tPr K D xh cl 1) tNil)) [some (.ref xh), none, none, none] H fun x H1 => gName 1 x [some (.ref xh), none, none, none] H1 nx := by
  refine two_pr (i := 0) hj (by decide) rfl fun p1 p2 L n1 n2 nL => ?_
  have s3 := Same.new nL (.lst [.ref p1, .ref p2])
  exact q _ _ ⟨L, [p1, p2], rfl, ((Same.new n1 _).trans (Same.new n2 _)).trans s3, rfl, upd_same, fun i p e => s3 _ _ (pairs_new (ps := []) (n := 0) (H0 := H) (xh := xh) rfl (fun i p e => nomatch e) n1 n2 i p e)⟩
theorem nm_step {K : PySem.W.Frag} {D xh : Addr} {cl : Nat → Addr} {j n : Nat} {H0 H : Hp} {σ : L2.St} {nx : L2.St → Hp → Prop} (hj : Isw K cl D j) (hn : n + 1 < 20) (I : NmI H0 xh j n σ H) (q : ∀ σ' H', NmI H0 xh j (n + 2) σ' H' → nx σ' H') :
    tVar 1 σ H fun x H1 => (tLst (tCons (tPr K D xh cl n) (tCons (tPr K D xh cl (n + 1)) tNil))) σ H1 fun y H2 => rCat x y H2 fun z H3 => gName 1 z σ H3 nx := by
  obtain ⟨L, ps, rfl, sm, hl, hL, hp⟩ := I
  refine ⟨_, rfl, ?_⟩
  refine two_pr hj hn rfl fun p1 p2 b n1 n2 nb => ?_
  have s1 := (Same.new n1 (.tup [.str (en n), .bl (decide (n = j))])).trans (Same.new n2 (.tup [.str (en (n + 1)), .bl (decide (n + 1 = j))]))
  have s2 := Same.new nb (.lst [.ref p1, .ref p2])
  refine ⟨L, b, _, _, rfl, rfl, s2 _ _ (s1 _ _ hL), upd_same, ?_, fun r nr => ?_⟩
  · rw [List.length_map, hl]
    have : 100 ≤ sizeLine := by decide
    show n + 2 ≤ sizeLine
    omega
  · have s3 := Same.new nr (.lst (ps.map V.ref ++ [.ref p1, .ref p2]))
    refine q _ _ ⟨r, ps ++ [p1, p2], rfl, ((sm.trans s1).trans s2).trans s3, by rw [List.length_append, hl]; rfl, by rw [upd_same, List.map_append]; rfl, fun i p e => s3 _ _ (s2 _ _ (pairs_new (H0 := H) (xh := xh) hl hp n1 n2 i p e))⟩
theorem pe_no {X : Cx} {e : Expr} : PE X e (fun _ _ _ => False) := ⟨fun _ _ _ _ _ _ h => h.elim⟩
/-- a word without a field -/
def plainErr (j : Nat) : Bool := decide (j < 20) && !([1, 9, 17, 14, 15, 5, 19].contains j)
theorem plain_in3 : ∀ j, j < 20 → plainErr j = true → inV (.str (en j)) [.str (en 1), .str (en 9), .str (en 17)] = false := by decide +kernel
theorem plain_in2 : ∀ j, j < 20 → plainErr j = true → inV (.str (en j)) [.str (en 14), .str (en 15)] = false := by decide +kernel
theorem plain_big : ∀ j, j < 20 → plainErr j = true → decide (V.str (en j) = V.str (en 5)) = false := by decide +kernel
theorem plain_row : ∀ j, j < 20 → plainErr j = true → decide (V.str (en j) = V.str (en 19)) = false := by decide +kernel
theorem plain_lt {j : Nat} (h : plainErr j = true) : j < 20 := by
  unfold plainErr at h
  rw [Bool.and_eq_true] at h
  exact of_decide_eq_true h.1
theorem FnB.mono {P : Program} {w : World} {K : PySem.W.Frag} {mg : Str → Option Value} {base : Heap} {j k : Nat} {f : Addr} {fd : FuncData} {ps : List Str} {sp : Addr → Value → Option Addr → Sp} (F : FnB P w K mg base j f fd ps sp) (h : j ≤ k) : FnB P w K mg base k f fd ps sp :=
  fun A outer s H args us vs Q xh oh hr => F A outer s H args us vs Q xh oh (hr.mono h)
/-- the law's promise, its table empty -/
def spLawT (K : PySem.W.Frag) (Pt : Addr) : Sp := fun vs H Q _ => ∃ (a : Addr) (ns : List Int), vs = [.ref a] ∧ SqL K H a (ns.map V.int) ∧ H Pt = some (.tbl #[]) ∧ ∀ H', Q (.bl true) H'
/-- a def that may raise, with the context told -/
theorem Fun.okN {P : Program} {w : World} {K : PySem.W.Frag} {mg : Str → Option Value} {base : Heap} {x qual : Str} {st : Stmt} {f : Addr} {fd : FuncData} {N ps : List Str} {k : Nat} {sp : Sp} (F : L2.Fun K x qual st f fd) (S : FnScope N ps (defScope st)) (len : ∀ vs H Q E, sp vs H Q E → vs.length = ps.length)
    (hbody : ∀ (cdv : Value) (A : Around) (outer : List Env) (s : Shared) (H : Hp) (vs : List V) (Q : VK) (E : XK), Room k (A.deeper (PyProof.Rows.envOfC qual (defScope st) s.heap.objs.size f cdv)) → sp vs H Q E →
      ∃ t, PSs (cxOf (L2N.CX P w) P w K mg base N qual (defScope st) f cdv A outer s H E) (defBody st) t ∧ t { nx := fun _ H' => Q .non H', rt := Q } (L2.start N vs) H) : FnOk P w K mg base (L2N.CX P w) (k + 1) f fd ps sp := by
  obtain ⟨oc, od, kV, doc, pm, an, cdv, ct, osl, rfl, lk, hcd⟩ := F.ex
  exact fn_of lk hcd S len fun A outer s H vs Q E hr hsp => hbody cdv A outer s H vs Q E hr hsp
/-- what a raise of the class wants -/
structure ErrC (K : PySem.W.Frag) (mg : Str → Option Value) (x : Str) (C : Addr) : Prop where
  q : PySem.W.excIn K C [.type "ValueError", .type "Exception", .type "BaseException", .type "object"] "ValueError.__new__" = true
  g : mg x = some (.ref C)
  k : PySem.W.keepIn K (.ref C) = true
  b : PySem.W.subIn K (.ref C) (.type "BaseException") = some true
  t : PySem.W.typeIn K (.ref C) = some (.type "type")
theorem passF {X : Cx} : Passes (L2N.CX X.prog X.w) X (fun _ _ _ => False) := fun _ _ _ _ _ _ _ ⟨_, _, _, _, _, _, _, _, _, _, _, _, z⟩ => z.elim
theorem passL {X : Cx} {A : Around} {outer : List Env} {s : Shared} {H : Hp} {E : XK} {scope : Scope} {f c : Addr} : Passes (L2N.CX X.prog X.w) (lamCxN X A outer s H E scope f c) E :=
  L2N.passes_call (X := lamCxN X A outer s H E scope f c) (W := fun cls d _ H => E cls d H) (L2N.takes_of rfl rfl rfl rfl) fun _ _ _ _ h => h
theorem fourV {a b c d : V} : ([a, b, c, d] : List V).length ≤ sizeLine := by show 4 ≤ sizeLine; decide
theorem fiveV {a b c d e : V} : ([a, b, c, d, e] : List V).length ≤ sizeLine := by show 5 ≤ sizeLine; decide
theorem tabs_set {T : List (Addr × Str)} {H H' : Hp} {D : Addr} {xs : List V} (t : LamX.Tabs T H) (hD : H D = some (.lst xs)) (e : ∀ b o, b ≠ D → H b = some o → H' b = some o) : LamX.Tabs T H' := fun p hp => by
  obtain ⟨ps, h1, h2, h3⟩ := t p hp
  refine ⟨ps, e _ _ (fun z => by rw [z, hD] at h1; cases h1) h1, h2, fun pos cv ec => ?_⟩
  obtain ⟨c, rfl, hc⟩ := h3 pos cv ec
  exact ⟨c, rfl, e _ _ (fun z => by rw [z, hD] at hc; cases hc) hc⟩
theorem passD {P : Program} {w : World} {K : PySem.W.Frag} {mg : Str → Option Value} {base : Heap} {N : List Str} {q : Str} {sc : Scope} {f : Addr} {cdv : Value} {A : Around} {outer : List Env} {s : Shared} {H : Hp} {E : XK} : Passes (L2N.CX P w) (cxOf (L2N.CX P w) P w K mg base N q sc f cdv A outer s H E) E :=
  L2N.passes_call (X := cxOf (L2N.CX P w) P w K mg base N q sc f cdv A outer s H E) (W := fun cls d _ H => E cls d H) (L2N.takes_of rfl rfl rfl rfl) fun _ _ _ _ h => h
/-! ### nested tuples of any form -/
mutual
def tupD : PyData → Bool
  | .tuple xs => tupL xs
  | .none | .bool _ | .int _ | .str _ | .list _ | .dict _ => false
def tupL : List PyData → Bool
  | [] => true
  | x :: xs => tupD x && tupL xs
end
mutual
def ndD : PyData → Nat
  | .tuple xs => ndL xs + 1
  | .none | .bool _ | .int _ | .str _ | .list _ | .dict _ => 1
def ndL : List PyData → Nat
  | [] => 0
  | x :: xs => ndD x + ndL xs
end
def add2 : Option Nat → Option Nat → Option Nat
  | some a, some b => some (a + b)
  | _, _ => none
theorem add2_none (o : Option Nat) : add2 o none = none := by cases o <;> rfl
theorem add2_assoc (a b c : Option Nat) : add2 (add2 a b) c = add2 a (add2 b c) := by
  cases a <;> cases b <;> cases c <;> first | rfl | exact congrArg some (Nat.add_assoc _ _ _)
theorem add2_zero (a : Option Nat) : add2 a (some 0) = a := by cases a <;> rfl
/-- how many generators, where the depth is at most b -/
def szD : Nat → PyData → Option Nat
  | _, .tuple [] => some 1
  | b + 1, .tuple [x, y] => add2 (szD b x) (szD b y)
  | _, _ => none
def okd (d : PyData) : Bool := match szD 6 d with
  | some n => decide (n ≤ 12)
  | none => false
def isPr : PyData → Bool
  | .tuple [_, _] => true
  | _ => false
def isE : PyData → Bool
  | .tuple [] => true
  | _ => false
theorem eqvE {d : PyData} (h : tupD d = true) : PyData.eqv d (.tuple []) = isE d := by
  cases d with
  | tuple xs => cases xs <;> rfl
  | none => exact absurd h (by decide)
  | bool _ => exact absurd h (by simp [tupD])
  | int _ => exact absurd h (by simp [tupD])
  | str _ => exact absurd h (by simp [tupD])
  | list _ => exact absurd h (by simp [tupD])
  | dict _ => exact absurd h (by simp [tupD])
theorem szD_E (b : Nat) : szD b (.tuple []) = some 1 := by cases b <;> rfl
theorem szD_pr (b : Nat) (x y : PyData) : szD (b + 1) (.tuple [x, y]) = add2 (szD b x) (szD b y) := rfl
theorem szD_bad {b : Nat} {d : PyData} (h1 : isE d = false) (h2 : isPr d = false ∨ b = 0) : szD b d = none := by
  cases d with
  | tuple xs =>
    match xs, b, h1, h2 with
    | [], _, h1, _ => exact absurd h1 (by decide)
    | [x, y], 0, _, _ => rfl
    | [x, y], b + 1, _, .inl h => exact Bool.noConfusion h
    | [x], 0, _, _ => rfl
    | [x], b + 1, _, _ => rfl
    | x :: y :: z :: r, 0, _, _ => rfl
    | x :: y :: z :: r, b + 1, _, _ => rfl
  | none => cases b <;> rfl
  | bool _ => cases b <;> rfl
  | int _ => cases b <;> rfl
  | str _ => cases b <;> rfl
  | list _ => cases b <;> rfl
  | dict _ => cases b <;> rfl
def rem : List (V × PyData × Nat) → Option Nat
  | [] => some 0
  | p :: ps => add2 (szD (6 - p.2.2) p.2.1) (rem ps)
theorem rem_app : ∀ ps qs : List (V × PyData × Nat), rem (ps ++ qs) = add2 (rem ps) (rem qs)
  | [], qs => by
    show rem qs = add2 (some 0) (rem qs)
    cases rem qs with
    | none => rfl
    | some n => exact congrArg some (Nat.zero_add n).symm
  | p :: ps, qs => by
    show add2 (szD (6 - p.2.2) p.2.1) (rem (ps ++ qs)) = add2 (add2 (szD (6 - p.2.2) p.2.1) (rem ps)) (rem qs)
    rw [rem_app ps qs, add2_assoc]
theorem rem_snoc (ps : List (V × PyData × Nat)) (p : V × PyData × Nat) : rem (ps ++ [p]) = add2 (rem ps) (szD (6 - p.2.2) p.2.1) := by
  rw [rem_app]
  show add2 (rem ps) (add2 _ (some 0)) = _
  rw [add2_zero]
def fnl (n : Nat) : Option Nat → Bool
  | some m => decide (n + m ≤ 12)
  | none => false
theorem fnl_one (n : Nat) (o : Option Nat) : fnl n (add2 o (some 1)) = fnl (n + 1) o := by
  cases o with
  | none => rfl
  | some m =>
    show decide (n + (m + 1) ≤ 12) = decide (n + 1 + m ≤ 12)
    rw [show n + (m + 1) = n + 1 + m by omega]
theorem fnl_big {n : Nat} (h : 12 < n) (o : Option Nat) : fnl n o = false := by
  cases o with
  | none => rfl
  | some m => exact decide_eq_false (by omega)
theorem okd_fnl (v : V) (d : PyData) : okd d = fnl 0 (rem [(v, d, 0)]) := by
  show okd d = fnl 0 (add2 (szD 6 d) (some 0))
  rw [add2_zero]
  unfold okd
  cases szD 6 d with
  | none => rfl
  | some n =>
    show decide (n ≤ 12) = decide (0 + n ≤ 12)
    rw [Nat.zero_add]
def ndn (ps : List (V × PyData × Nat)) : Nat := (ps.map fun p => ndD p.2.1).sum
theorem ndn_snoc (ps : List (V × PyData × Nat)) (p) : ndn (ps ++ [p]) = ndn ps + ndD p.2.1 := by
  unfold ndn
  rw [List.map_append, List.sum_append]
  simp
theorem ndD_pos : ∀ d : PyData, 0 < ndD d := by
  intro d
  cases d with
  | tuple xs => exact Nat.succ_pos _
  | none => decide
  | bool _ => exact Nat.one_pos
  | int _ => exact Nat.one_pos
  | str _ => exact Nat.one_pos
  | list _ => exact Nat.one_pos
  | dict _ => exact Nat.one_pos
theorem ndn_len : ∀ ps : List (V × PyData × Nat), ps.length ≤ ndn ps
  | [] => Nat.zero_le _
  | p :: ps => by
    have h := ndn_len ps
    have h2 := ndD_pos p.2.1
    show ps.length + 1 ≤ (ndD p.2.1 :: ps.map fun p => ndD p.2.1).sum
    rw [List.sum_cons]
    unfold ndn at h
    omega
/-- a value that is a nested tuple -/
structure NT (K : PySem.W.Frag) (H : Hp) (v : V) (d : PyData) : Prop where
  dp : Dp K H v d
  tup : tupD d = true
  shp : SeqAt.shaped d = true
mutual
theorem dp_tp {K : PySem.W.Frag} {H H' : Hp} (e : Tp H H') : ∀ (d : PyData) {v : V}, tupD d = true → Dp K H v d → Dp K H' v d
  | .tuple ds, _, t, h => by
    cases h with
    | tup hs ha => exact .tup (e.sqT hs) (dpAll_tpD e ds t ha)
  | .none, _, t, _ => absurd t (by decide)
  | .bool _, _, t, _ => absurd t (by simp [tupD])
  | .int _, _, t, _ => absurd t (by simp [tupD])
  | .str _, _, t, _ => absurd t (by simp [tupD])
  | .list _, _, t, _ => absurd t (by simp [tupD])
  | .dict _, _, t, _ => absurd t (by simp [tupD])
theorem dpAll_tpD {K : PySem.W.Frag} {H H' : Hp} (e : Tp H H') : ∀ (ds : List PyData) {vs : List V}, tupL ds = true → DpAll K H vs ds → DpAll K H' vs ds
  | [], _, _, h => by
    cases h
    exact .nil
  | d :: ds, _, t, h => by
    have t' : tupD d = true ∧ tupL ds = true := Bool.and_eq_true_iff.mp t
    cases h with
    | cons h1 h2 => exact .cons (dp_tp e d t'.1 h1) (dpAll_tpD e ds t'.2 h2)
end
theorem NT.tp {K : PySem.W.Frag} {H H' : Hp} {v : V} {d : PyData} (e : Tp H H') (h : NT K H v d) : NT K H' v d := ⟨dp_tp e d h.tup h.dp, h.tup, h.shp⟩
theorem NT.inv {K : PySem.W.Frag} {H : Hp} {v : V} {d : PyData} (h : NT K H v d) : ∃ a xs ds, v = .ref a ∧ d = .tuple ds ∧ SqT K H a xs ∧ DpAll K H xs ds := by
  obtain ⟨h1, h2, _⟩ := h
  cases h1 with
  | tup hs ha => exact ⟨_, _, _, rfl, rfl, hs, ha⟩
  | non => exact absurd h2 (by decide)
  | bl b => exact absurd h2 (by simp [tupD])
  | int i => exact absurd h2 (by simp [tupD])
  | str z => exact absurd h2 (by simp [tupD])
  | lst _ _ => exact absurd h2 (by simp [tupD])
theorem shaped_sub {ds : List PyData} {d : PyData} (h : SeqAt.shaped (.tuple ds) = true) (hm : d ∈ ds) : SeqAt.shaped d = true := by
  have hc : PyData.canLayAll0 ds = true := SeqAt.canLay_of_shaped h
  have hd := SeqAt.depth_of_shaped h
  have hd' : (PyData.tuple ds).depth = PyData.depthAll ds + 1 := rfl
  have hdi := depth_at hm
  unfold SeqAt.shaped
  rw [shaped_at hc hm, decide_eq_true (by omega)]
  rfl
theorem NT.pr {K : PySem.W.Frag} {H : Hp} {v : V} {d : PyData} (h : NT K H v d) (hp : isPr d = true) : ∃ a x y d1 d2, v = .ref a ∧ d = .tuple [d1, d2] ∧ SqT K H a [x, y] ∧ NT K H x d1 ∧ NT K H y d2 := by
  obtain ⟨a, xs, ds, rfl, rfl, hS, hA⟩ := h.inv
  obtain ⟨d1, d2, rfl⟩ : ∃ d1 d2, ds = [d1, d2] := by
    rcases ds with _ | ⟨d1, _ | ⟨d2, _ | ⟨d3, r⟩⟩⟩
    · exact absurd hp (by simp [isPr])
    · exact absurd hp (by simp [isPr])
    · exact ⟨d1, d2, rfl⟩
    · exact absurd hp (by simp [isPr])
  cases hA with
  | cons h1 h2 =>
    cases h2 with
    | cons h2 h3 =>
      cases h3
      have t : (tupD d1 && (tupD d2 && true)) = true := h.tup
      have t1 := Bool.and_eq_true_iff.mp t
      have t2 := Bool.and_eq_true_iff.mp t1.2
      exact ⟨a, _, _, d1, d2, rfl, rfl, hS, ⟨h1, t1.1, shaped_sub h.shp (by simp)⟩, ⟨h2, t2.1, shaped_sub h.shp (by simp)⟩⟩
theorem tree_tup : ∀ t : Tree, tupD t.d = true
  | .L => rfl
  | .N l r => by
    show (tupD l.d && (tupD r.d && true)) = true
    rw [tree_tup l, tree_tup r]
    rfl
theorem tree_nd : ∀ t : Tree, ndD t.d = t.nodes
  | .L => rfl
  | .N l r => by
    show ndD l.d + (ndD r.d + 0) + 1 = l.nodes + r.nodes + 1
    rw [tree_nd l, tree_nd r]
    omega
theorem tree_nodes : ∀ t : Tree, t.nodes + 1 = 2 * t.sz
  | .L => rfl
  | .N l r => by
    have h1 := tree_nodes l
    have h2 := tree_nodes r
    show l.nodes + r.nodes + 1 + 1 = 2 * (l.sz + r.sz)
    omega
theorem tree_szD : ∀ (t : Tree) (b : Nat), szD b t.d = if t.dp ≤ b then some t.sz else none
  | .L, b => by
    show szD b (.tuple []) = if 0 ≤ b then some 1 else none
    rw [if_pos (Nat.zero_le _)]
    exact szD_E b
  | .N l r, 0 => by
    show none = if max l.dp r.dp + 1 ≤ 0 then some (l.sz + r.sz) else none
    rw [if_neg (by omega)]
  | .N l r, b + 1 => by
    show add2 (szD b l.d) (szD b r.d) = if max l.dp r.dp + 1 ≤ b + 1 then some (l.sz + r.sz) else none
    rw [tree_szD l b, tree_szD r b]
    by_cases h1 : l.dp ≤ b
    · by_cases h2 : r.dp ≤ b
      · rw [if_pos h1, if_pos h2, if_pos (by omega)]
        rfl
      · rw [if_neg h2, add2_none, if_neg (show ¬ (max l.dp r.dp + 1 ≤ b + 1) by omega)]
    · rw [if_neg h1, if_neg (show ¬ (max l.dp r.dp + 1 ≤ b + 1) by omega)]
      rfl
theorem tree_okd (t : Tree) : okd t.d = (decide (t.dp ≤ 6) && decide (t.sz ≤ 12)) := by
  unfold okd
  rw [tree_szD]
  by_cases h : t.dp ≤ 6
  · rw [if_pos h, decide_eq_true h]
    rfl
  · rw [if_neg h, decide_eq_false h]
    rfl
theorem szD_tree : ∀ (b : Nat) (d : PyData) (n : Nat), szD b d = some n → ∃ t : Tree, d = t.d ∧ t.sz = n ∧ t.dp ≤ b := by
  intro b
  induction b with
  | zero =>
    intro d n h
    by_cases e : isE d = true
    · cases d with
      | tuple xs =>
        cases xs with
        | nil => exact ⟨.L, rfl, Option.some.inj h, Nat.zero_le _⟩
        | cons _ _ => exact absurd e (by simp [isE])
      | none => exact absurd e (by simp [isE])
      | bool _ => exact absurd e (by simp [isE])
      | int _ => exact absurd e (by simp [isE])
      | str _ => exact absurd e (by simp [isE])
      | list _ => exact absurd e (by simp [isE])
      | dict _ => exact absurd e (by simp [isE])
    · rw [szD_bad (by simpa using e) (.inr rfl)] at h
      cases h
  | succ b ih =>
    intro d n h
    by_cases e : isE d = true
    · cases d with
      | tuple xs =>
        cases xs with
        | nil => exact ⟨.L, rfl, Option.some.inj h, Nat.zero_le _⟩
        | cons _ _ => exact absurd e (by simp [isE])
      | none => exact absurd e (by simp [isE])
      | bool _ => exact absurd e (by simp [isE])
      | int _ => exact absurd e (by simp [isE])
      | str _ => exact absurd e (by simp [isE])
      | list _ => exact absurd e (by simp [isE])
      | dict _ => exact absurd e (by simp [isE])
    · by_cases e2 : isPr d = true
      · cases d with
        | tuple xs =>
          match xs, e2, h with
          | [x, y], _, h =>
            have h0 : add2 (szD b x) (szD b y) = some n := h
            clear h
            cases h1 : szD b x with
            | none => rw [h1] at h0; cases h0
            | some m =>
              cases h2 : szD b y with
              | none => rw [h2, add2_none] at h0; cases h0
              | some k =>
                rw [h1, h2] at h0
                have h' : m + k = n := Option.some.inj h0
                obtain ⟨t1, rfl, q1, r1⟩ := ih x m h1
                obtain ⟨t2, rfl, q2, r2⟩ := ih y k h2
                exact ⟨.N t1 t2, rfl, by show t1.sz + t2.sz = n; omega, by show max t1.dp t2.dp + 1 ≤ b + 1; omega⟩
        | none => exact absurd e2 (by simp [isPr])
        | bool _ => exact absurd e2 (by simp [isPr])
        | int _ => exact absurd e2 (by simp [isPr])
        | str _ => exact absurd e2 (by simp [isPr])
        | list _ => exact absurd e2 (by simp [isPr])
        | dict _ => exact absurd e2 (by simp [isPr])
      · rw [szD_bad (by simpa using e) (.inl (by simpa using e2))] at h
        cases h
theorem okd_tree {d : PyData} (h : okd d = true) : ∃ t : Tree, d = t.d ∧ t.sz ≤ 12 ∧ t.dp ≤ 6 := by
  unfold okd at h
  cases e : szD 6 d with
  | none => rw [e] at h; cases h
  | some n =>
    rw [e] at h
    obtain ⟨t, h1, h2, h3⟩ := szD_tree 6 d n e
    exact ⟨t, h1, by rw [h2]; exact of_decide_eq_true h, h3⟩
theorem NT.of {K : PySem.W.Frag} {H : Hp} {v : V} {t : Tree} (h : TA K H v t) (hd : t.dp ≤ 63) : NT K H v t.d := ⟨h, tree_tup t, Tree.shaped hd⟩
def spIsPairD (K : PySem.W.Frag) : Sp := fun vs H Q _ => ∃ (v : V) (d : PyData), vs = [v] ∧ NT K H v d ∧ Q (.bl (isPr d)) H
def spIsTerm (K : PySem.W.Frag) : Sp := fun vs H Q _ => ∃ (v : V) (d : PyData), vs = [v] ∧ NT K H v d ∧ ndD d ≤ 1000 ∧ ∀ H', Same H H' → Q (.bl (okd d)) H'
/-- check_term: nothing, or the error -/
def spChk (K : PySem.W.Frag) (C : Addr) : Sp := fun vs H Q E => ∃ (v : V) (d : PyData), vs = [v] ∧ NT K H v d ∧ ndD d ≤ 1000 ∧ (okd d = true → ∀ H', Same H H' → Q .non H') ∧ (okd d = false → ∀ H', Same H H' → E (.ref C) none H')
def ItemD (K : PySem.W.Frag) (H : Hp) (p : V × PyData × Nat) : Prop := ∃ (a : Addr) (u : V), p.1 = .ref a ∧ SqT K H a [u, .int p.2.2] ∧ NT K H u p.2.1 ∧ p.2.2 ≤ 6
theorem ItemD.mono {K : PySem.W.Frag} {H H' : Hp} (e : Tp H H') {p : V × PyData × Nat} (h : ItemD K H p) : ItemD K H' p := by
  obtain ⟨a, u, h1, h2, h3, h4⟩ := h
  exact ⟨a, u, h1, e.sqT h2, h3.tp e, h4⟩
/-! ### picking -/
theorem But.sqL {K : PySem.W.Frag} {r l : Addr} {H H' : Hp} {xs : List V} (e : But r H H') (n : l ≠ r) (h : SqL K H l xs) : SqL K H' l xs := by
  rcases h with (h | ⟨o, h⟩) | h
  · exact .inl (.inl (e _ _ n h))
  · exact .inl (.inr ⟨o, e _ _ n h⟩)
  · exact .inr h
theorem But.sqT {K : PySem.W.Frag} {r l : Addr} {H H' : Hp} {xs : List V} (e : But r H H') (n : l ≠ r) (h : SqT K H l xs) : SqT K H' l xs := by
  rcases h with (h | ⟨o, h⟩) | h
  · exact .inl (.inl (e _ _ n h))
  · exact .inl (.inr ⟨o, e _ _ n h⟩)
  · exact .inr h
def spPick (K : PySem.W.Frag) : Sp := fun vs H Q _ => ∃ (r l : Addr) (xs : List V), vs = [.ref r, .ref l] ∧ Rng H r ∧ (SqL K H l xs ∨ SqT K H l xs) ∧ 0 < xs.length ∧ xs.length ≤ 10000 ∧ l ≠ r ∧ ∀ v H', v ∈ xs → Rng H' r → But r H H' → Q v H'
theorem rix_in {K : PySem.W.Frag} {H : Hp} {a : Addr} {xs : List V} {n : Int} {Q : VK} (h : SqL K H a xs ∨ SqT K H a xs) (h0 : 0 ≤ n) (h1 : n < xs.length) (q : ∀ v, v ∈ xs → Q v H) : rIx K (.ref a) (.int n) H Q := by
  have lt : n.toNat < xs.length := by omega
  obtain ⟨v, hi⟩ : ∃ v, xs[n.toNat]? = some v := ⟨_, List.getElem?_eq_getElem lt⟩
  have hq := q v (List.mem_of_getElem? hi)
  have e : atI xs n = some v := by
    have e : n = ((n.toNat : Nat) : Int) := by omega
    rw [e]
    exact atI_nat hi
  rcases h with h | h
  · exact .inl ⟨a, xs, n, v, rfl, rfl, h, e, hq⟩
  · exact .inr (.inl ⟨a, xs, n, v, rfl, rfl, h, e, hq⟩)
/-! ### written nested tuples -/
def Mk (K : PySem.W.Frag) (te : TE) (d : PyData) : Prop := ∀ σ H (Q : VK), (∀ v H', Same H H' → Dp K H' v d → Q v H') → te σ H Q
theorem mk0 {K : PySem.W.Frag} : Mk K (tTup tNil) (.tuple []) := fun σ H Q q => ⟨zero_le', fun p np => q _ _ (Same.new np _) (Dp.tup (SqT.here upd_same) .nil)⟩
theorem mk1 {K : PySem.W.Frag} {e : TE} {d : PyData} (h : Mk K e d) : Mk K (tTup (tCons e tNil)) (.tuple [d]) := fun σ H Q q =>
  h σ H _ fun v H1 s1 h1 => ⟨one_le, fun p np => q _ _ (s1.trans (Same.new np _)) (Dp.tup (SqT.here upd_same) (.cons (dp_same (Same.new np _) _ h1) .nil))⟩
theorem mk2 {K : PySem.W.Frag} {e1 e2 : TE} {d1 d2 : PyData} (h : Mk K e1 d1) (h' : Mk K e2 d2) : Mk K (tTup (tCons e1 (tCons e2 tNil))) (.tuple [d1, d2]) := fun σ H Q q =>
  h σ H _ fun v H1 s1 h1 => h' σ H1 _ fun v2 H2 s2 h2 => ⟨two_le, fun p np => q _ _ ((s1.trans s2).trans (Same.new np _)) (Dp.tup (SqT.here upd_same) (.cons (dp_same (s2.trans (Same.new np _)) _ h1) (.cons (dp_same (Same.new np _) _ h2) .nil)))⟩
theorem mk3 {K : PySem.W.Frag} {e1 e2 e3 : TE} {d1 d2 d3 : PyData} (h : Mk K e1 d1) (h' : Mk K e2 d2) (h'' : Mk K e3 d3) : Mk K (tTup (tCons e1 (tCons e2 (tCons e3 tNil)))) (.tuple [d1, d2, d3]) := fun σ H Q q =>
  h σ H _ fun v H1 s1 h1 => h' σ H1 _ fun v2 H2 s2 h2 => h'' σ H2 _ fun v3 H3 s3 h3 => ⟨by show 3 ≤ sizeLine; decide, fun p np => q _ _ (((s1.trans s2).trans s3).trans (Same.new np _)) (Dp.tup (SqT.here upd_same) (.cons (dp_same ((s2.trans s3).trans (Same.new np _)) _ h1) (.cons (dp_same (s3.trans (Same.new np _)) _ h2) (.cons (dp_same (Same.new np _) _ h3) .nil))))⟩
theorem lst5 {K : PySem.W.Frag} {e1 e2 e3 e4 e5 : TE} {d1 d2 d3 d4 d5 : PyData} (h1 : Mk K e1 d1) (h2 : Mk K e2 d2) (h3 : Mk K e3 d3) (h4 : Mk K e4 d4) (h5 : Mk K e5 d5) {i : Nat} {B : TS} {D : Ends} {σ : L2.St} {H : Hp}
    (q : ∀ a v1 v2 v3 v4 v5 H', Same H H' → H a = none → H' a = some (.lst [v1, v2, v3, v4, v5]) → DpAll K H' [v1, v2, v3, v4, v5] [d1, d2, d3, d4, d5] → B D (σ.set i (some (.ref a))) H') : tSeq (tAsg (tLst (tCons e1 (tCons e2 (tCons e3 (tCons e4 (tCons e5 tNil)))))) (gName i)) B D σ H :=
  h1 σ H _ fun v1 H1 s1 k1 => h2 σ H1 _ fun v2 H2 s2 k2 => h3 σ H2 _ fun v3 H3 s3 k3 => h4 σ H3 _ fun v4 H4 s4 k4 => h5 σ H4 _ fun v5 H5 s5 k5 => ⟨fiveV, fun a na => by
    have sa := Same.new na (.lst [v1, v2, v3, v4, v5])
    exact q a v1 v2 v3 v4 v5 _ (s1.trans (s2.trans (s3.trans (s4.trans (s5.trans sa))))) ((s1.trans (s2.trans (s3.trans (s4.trans s5)))).free na) upd_same
      (.cons (dp_same (s2.trans (s3.trans (s4.trans (s5.trans sa)))) _ k1) (.cons (dp_same (s3.trans (s4.trans (s5.trans sa))) _ k2) (.cons (dp_same (s4.trans (s5.trans sa)) _ k3) (.cons (dp_same (s5.trans sa) _ k4) (.cons (dp_same sa _ k5) .nil)))))⟩
/-- a value that no term is -/
def BadV (K : PySem.W.Frag) (H : Hp) (v : V) : Prop := ∃ d, NT K H v d ∧ ndD d ≤ 1000 ∧ okd d = false
theorem BadV.tp {K : PySem.W.Frag} {H H' : Hp} {v : V} (e : Tp H H') (h : BadV K H v) : BadV K H' v := by
  obtain ⟨d, h1, h2⟩ := h
  exact ⟨d, h1.tp e, h2⟩
def spBadT (K : PySem.W.Frag) : Sp := fun vs H Q _ => ∃ r : Addr, vs = [.ref r] ∧ Rng H r ∧ ∀ v H', BadV K H' v → Rng H' r → But r H H' → Q v H'
theorem BadV.tree {K : PySem.W.Frag} {H : Hp} {v : V} {t : Tree} (h : TA K H v t) (hd : t.dp ≤ 63) (hz : t.sz ≤ 100) (no : 6 < t.dp ∨ 12 < t.sz) : BadV K H v := by
  have e := tree_nodes t
  refine ⟨t.d, NT.of h hd, by rw [tree_nd]; omega, ?_⟩
  rw [tree_okd]
  rcases no with no | no
  · rw [decide_eq_false (by omega)]
    rfl
  · rw [decide_eq_false (show ¬ t.sz ≤ 12 by omega), Bool.and_false]
section OPN
open PySem.Spec PyProof.Rows
/-! ### t[::-1] -/
section
variable {prog : Program} {w : World} {A : Around} {E : Value → Shared → Prop} {s : Shared}
theorem sliceApplied_rev {sl : Addr} {vs : Value} {n : Nat} {Q : Int × Int × Nat → Shared → Prop} (hs : s.heap.IsSliceOf sl .none .none vs) (ps : IsPart vs (some (-1))) (h : Q ((n : Int) - 1, -1, n) s) : wpAny (model prog w) A (Builtin.Slice.sliceApplied (.ref sl) (pure (n : Int))) Q E s := by
  obtain ⟨os, hos, hcs, hds⟩ := id hs
  unfold Builtin.Slice.sliceApplied Builtin.Slice.sliceFields
  refine wpAny_bind (wpAny_bind (wpAny_field hos hds (x := .none) rfl (wpAny_bind (wpAny_field hos hds (x := .none) rfl (wpAny_bind (wpAny_field hos hds (x := vs) rfl (wpAny_pure ?_)))))))
  refine wpAny_bind (HT.slicePart_ ps ?_)
  show wpAny _ _ (if ((-1 : Int) == 0) = true then _ else _) _ _ s
  rw [if_neg (by decide)]
  refine wpAny_bind (HT.slicePart_ .none (wpAny_bind (HT.slicePart_ .none (wpAny_bind (wpAny_pure ?_)))))
  show wpAny _ _ (pure ((n : Int) - 1, (-1 : Int), Builtin.Slice.slicePlaces ((n : Int) - 1) (-1) (-1))) _ _ s
  have e : Builtin.Slice.slicePlaces ((n : Int) - 1) (-1) (-1) = n := by
    unfold Builtin.Slice.slicePlaces
    have h1 : ¬ ((-1 : Int) > 0) := by decide
    rw [if_neg h1, show (- -1 : Int) = 1 by decide]
    simp only [Int.ediv_one]
    split <;> omega
  rw [e]
  exact wpAny_pure h
theorem pick_rev (xs : Array Value) : ((List.range xs.size).filterMap fun (m : Nat) => xs[(((xs.size : Nat) : Int) - 1 + (m : Int) * -1).toNat]?).toArray = xs.toList.reverse.toArray := by
  congr 1
  rw [← PySem.W.krv_all xs, ← List.filterMap_reverse, ← PySem.W.krv_range, List.filterMap_map]
  have key : ∀ l : List Nat, (∀ m ∈ l, m < xs.size) → l.filterMap (fun (m : Nat) => xs[(((xs.size : Nat) : Int) - 1 + (m : Int) * -1).toNat]?) = l.filterMap ((fun x => xs[x]?) ∘ fun k => xs.size - 1 - k) := by
    intro l
    induction l with
    | nil => intro _; rfl
    | cons a r ih =>
      intro h
      have ha := h a List.mem_cons_self
      rw [List.filterMap_cons, List.filterMap_cons, ih fun m hm => h m (List.mem_cons_of_mem _ hm)]
      have e : (((xs.size : Nat) : Int) - 1 + (a : Int) * -1).toNat = xs.size - 1 - a := by omega
      rw [e]
      rfl
  exact key _ fun m hm => List.mem_range.mp hm
theorem getItem_tuple_rev {t sl : Addr} {items : Array Value} {vs : Value} {Q : Value → Shared → Prop} (ht : IsTup s.heap t items) (hs : s.heap.IsSliceOf sl .none .none vs) (ps : IsPart vs (some (-1)))
    (h : Q (.ref s.heap.objs.size) { s with heap := s.heap.push { cls := .type "tuple", data := .seq items.toList.reverse.toArray } })
    (hsz : items.size ≤ sizeLine) : wpAny (model prog w) A (getItem (.ref t) (.ref sl)) Q E s := by
  have htake : sizeOk (.seq items.toList.reverse.toArray) := by
    show items.toList.reverse.toArray.size ≤ sizeLine
    rw [List.size_toArray, List.length_reverse, Array.length_toList]
    exact hsz
  obtain ⟨os, hos, hcs, hds⟩ := id hs
  have hTs : s.TypeIs (.ref sl) "slice" := ⟨os, hos, hcs⟩
  unfold getItem
  try with_reducible refine wpAny_holding ?_
  first | refine wpAny_bind (wpAny_pure ?_) | skip
  refine wpAny_bind (wpAny_sequenceKey ht.typeIs (by decide) ?_)
  refine wpAny_bind (wpAny_callSpecial?_slot (name := Str.ofString "__getitem__") ht.typeIs PyProof.Rows.slot_tuple_getitem
    (wpAny_call_entry PyProof.Rows.slot_tuple_getitem ht.typeIs entry_tuple_getitem ?_ (args_tuple_getitem _ _)))
  show wpAny _ _ (Builtin.Tuple.tupleItemsOf (.ref t) >>= _) _ _ s
  refine wpAny_bind (tupleItemsOf_ ht ?_)
  refine wpAny_bind (wpAny_typeOf hTs ?_)
  rw [if_pos (by decide)]
  refine wpAny_bind (sliceApplied_rev hs ps ?_)
  have hno : ¬ ((((items.size : Nat) : Int) - 1 == 0 && (-1 : Int) == 1 && items.size == items.size) = true) := by
    intro q
    rw [Bool.and_eq_true, Bool.and_eq_true] at q
    exact absurd q.1.2 (by decide)
  show wpAny _ _ (if (((items.size : Nat) : Int) - 1 == 0 && (-1 : Int) == 1 && items.size == items.size) = true then _ else _) _ _ s
  rw [if_neg hno, pick_rev]
  first
    | exact wpAny_bind (m := Builtin.Tuple.tupleExact _) (wpAny_newObj_type (wpAny_pure ⟨_, rfl, wpAny_pure h⟩) htake)
    | exact wpAny_bind (m := Builtin.Tuple.tupleExact _) (wpAny_newObj_type (wpAny_bind (wpAny_pure (wpAny_pure ⟨_, rfl, wpAny_pure h⟩))) htake)
    | exact wpAny_bind (wpAny_bind (m := Builtin.Tuple.tupleExact _) (wpAny_newObj_type (wpAny_pure (wpAny_pure ⟨_, rfl, wpAny_pure h⟩)) htake))
    | exact wpAny_bind (wpAny_bind (m := Builtin.Tuple.tupleExact _) (wpAny_newObj_type (wpAny_pure ⟨_, rfl, wpAny_pure h⟩) htake))
end
def tRevT (K : PySem.W.Frag) (te : TE) : TE := fun σ H Q => te σ H fun x H1 => ∃ a xs, x = .ref a ∧ SqT K H1 a xs ∧ ∀ p, H1 p = none → Q (.ref p) (upd H1 p (.tup xs.reverse))
theorem pe_revT {X : Cx} {e : Expr} {te : TE} {k : Nat} {p1 p2 p3 pos : Pos} (he : PE X e te) : PE X (.Subscript e (.Slice none none (some (.UnaryOp .USub (.Constant (.int 1) k p1) p2)) p3) pos) (tRevT X.K te) := by
  refine ⟨fun pins s σ H Q I h => ?_⟩
  refine Subscript_ (thn (he.run pins s σ H _ I h) fun v s1 ⟨x, H1, I1, r1, q1⟩ => ?_)
  obtain ⟨a, xs, ex, hx, q⟩ := q1
  subst ex
  cases r1
  have hst : PO X (some (.UnaryOp .USub (.Constant (.int 1) k p1) p2)) (tPart (tUn (rU fun i => .int (-i)) (tC (.int 1)))) := po_some (pe_un un_neg pe_int)
  refine wpAny_Slice (thn (po_none.run pins s1 σ H1 (fun o H2 => o = none ∧ H2 = H1) I1 ⟨rfl, rfl⟩) fun vl s2 ⟨l, H2, I2, pl, el, e2⟩ => ?_)
  subst el e2
  refine thn (po_none.run pins s2 σ H2 (fun o H3 => o = none ∧ H3 = H2) I2 ⟨rfl, rfl⟩) fun vu s3 ⟨u, H3, I3, pu, eu, e3⟩ => ?_
  subst eu e3
  refine thn (hst.run pins s3 σ H3 (fun o H4 => o = some (-1) ∧ H4 = H3) I3 ⟨1, rfl, -1, rfl, rfl, rfl⟩) fun vs s4 ⟨o, H4, I4, ps, eo, e4⟩ => ?_
  subst eo e4
  cases pl
  cases pu
  have I5 : Inv X pins σ H4 { s4 with heap := s4.heap.push { cls := .type "slice", data := .fields #[.none, .none, vs] } } := I4.kept (t' := s4.toks) fun b ob q => Heap.get?_push_of_some _ q
  obtain ⟨its, r, ht, hz⟩ := I5.tuple hx
  have hlen := r.length
  show wpAny (model X.prog X.w) X.A (subscriptTail e (.Slice none none (some (.UnaryOp .USub (.Constant (.int 1) k p1) p2)) p3) (.ref a) (.ref s4.heap.objs.size)) (EP X pins σ Q) X.xe { s4 with heap := s4.heap.push { cls := .type "slice", data := .fields #[.none, .none, vs] } }
  refine tail_any (ops := [.ref a, .ref s4.heap.objs.size]) ht.typeIs (PyProof.Rows.slot_tuple_getitem.lookup) ?_ (by with_unfolding_all rfl)
  refine getItem_tuple_rev ht (Heap.IsSliceOf.new _ .none .none vs) ps ?_ (by rw [List.size_toArray]; omega)
  refine ⟨.ref _, _, I5.laid (t' := s4.toks) (o := .tup xs.reverse) (fun b ob q => Heap.get?_push_of_some _ q) (Nat.le_refl _) ?_, rfl, q _ (I5.hok.fresh (Nat.le_refl _))⟩
  exact ⟨by rw [List.length_reverse]; exact hz, _, r.reverse, IsTup.new _ _⟩
/-! ### comprehensions that map -/
theorem take_snoc {α : Type} {l : List α} {i : Nat} {x : α} (h : l[i]? = some x) : l.take (i + 1) = l.take i ++ [x] := by
  rw [List.take_add_one, h]
  rfl
section
variable {K : PySem.W.Frag} {a : Addr} {xs : List V} {ψ : V → V} {g : TG} {te : TE} {vs : List Nat} {σ : L2.St} {H1 : Hp} {D : Addr} {Qd : Hp → Prop}
theorem lc_mapT (hD : H1 D = none) (hS : SqT K H1 a xs) (hl : xs.length ≤ 10000)
    (hs : ∀ x G (R : V → Hp → Prop), x ∈ xs → Same H1 G → (∀ H4, Same G H4 → R (ψ x) H4) → g x (wipe σ vs) G fun σ2 H2 => wipe σ2 vs = wipe σ vs ∧ te σ2 H2 R)
    (hd : ∀ G, Same H1 G → G D = some (.lst (xs.map ψ)) → Qd G) :
    ∃ W : Nat → Nat → Hp → Prop, (∃ m, W 0 m (upd H1 D (.lst []))) ∧ ∀ i m H, W i m H →
      ((Itt K a).stop i H ∧ Qd H) ∨ ((Itt K a).go i H ∧ ∃ Nx : Hp → Prop, (∀ H', Nx H' → ∃ m', m' < m ∧ W (i + 1) m' H') ∧ ∀ x H', (Itt K a).yld i H x H' → g x (wipe σ vs) H' fun σ2 H2 => wipe σ2 vs = wipe σ vs ∧ tYes σ2 H2 fun b H3 =>
        if b = true then te σ2 H3 fun y H4 => ∃ acc, H4 D = some (.lst acc) ∧ acc.length < sizeLine ∧ Nx (upd H4 D (.lst (acc ++ [y]))) else Nx H3) := by
  refine lc_tup (K := K) (a := a) (xs := xs) (tt := tYes) (fun i G => Same H1 G ∧ G D = some (.lst ((xs.take i).map ψ))) ⟨Same.new hD _, upd_same⟩ (fun i G _ z => (Tp.same z.1).sqT hS) ?_ ?_
  · rintro i x G hi ⟨sm, hl2⟩
    refine hs x G _ (List.mem_of_getElem? hi) sm fun H4 s4 => ⟨_, s4 _ _ hl2, ?_, fun b o z => ?_, ?_⟩
    · have := (List.getElem?_eq_some_iff.mp hi).1
      rw [List.length_map, List.length_take]
      exact Nat.lt_of_lt_of_le (by omega : _ < 10001) (by decide)
    · rw [upd_ne (ne_of_none z hD)]
      exact s4 _ _ (sm _ _ z)
    · rw [upd_same, take_snoc hi, List.map_append]
      rfl
  · rintro G ⟨sm, h⟩
    rw [List.take_of_length_le (Nat.le_refl _)] at h
    exact hd G sm h
theorem lc_mapL (hD : H1 D = none) (hS : SqL K H1 a xs) (hl : xs.length ≤ 10000)
    (hs : ∀ x G (R : V → Hp → Prop), x ∈ xs → Same H1 G → (∀ H4, Same G H4 → R (ψ x) H4) → g x (wipe σ vs) G fun σ2 H2 => wipe σ2 vs = wipe σ vs ∧ te σ2 H2 R)
    (hd : ∀ G, Same H1 G → G D = some (.lst (xs.map ψ)) → Qd G) :
    ∃ W : Nat → Nat → Hp → Prop, (∃ m, W 0 m (upd H1 D (.lst []))) ∧ ∀ i m H, W i m H →
      ((Itl K a).stop i H ∧ Qd H) ∨ ((Itl K a).go i H ∧ ∃ Nx : Hp → Prop, (∀ H', Nx H' → ∃ m', m' < m ∧ W (i + 1) m' H') ∧ ∀ x H', (Itl K a).yld i H x H' → g x (wipe σ vs) H' fun σ2 H2 => wipe σ2 vs = wipe σ vs ∧ tYes σ2 H2 fun b H3 =>
        if b = true then te σ2 H3 fun y H4 => ∃ acc, H4 D = some (.lst acc) ∧ acc.length < sizeLine ∧ Nx (upd H4 D (.lst (acc ++ [y]))) else Nx H3) := by
  refine lc_list (K := K) (a := a) (xs := xs) (tt := tYes) (fun i G => Same H1 G ∧ G D = some (.lst ((xs.take i).map ψ))) ⟨Same.new hD _, upd_same⟩ (fun i G _ z => z.1.seq hS) ?_ ?_
  · rintro i x G hi ⟨sm, hl2⟩
    refine hs x G _ (List.mem_of_getElem? hi) sm fun H4 s4 => ⟨_, s4 _ _ hl2, ?_, fun b o z => ?_, ?_⟩
    · have := (List.getElem?_eq_some_iff.mp hi).1
      rw [List.length_map, List.length_take]
      exact Nat.lt_of_lt_of_le (by omega : _ < 10001) (by decide)
    · rw [upd_ne (ne_of_none z hD)]
      exact s4 _ _ (sm _ _ z)
    · rw [upd_same, take_snoc hi, List.map_append]
      rfl
  · rintro G ⟨sm, h⟩
    rw [List.take_of_length_le (Nat.le_refl _)] at h
    exact hd G sm h
theorem lc_mapRT (hD : H1 D = none) (hS : SqT K H1 a xs) (hl : xs.length ≤ 10000)
    (hs : ∀ x G (R : V → Hp → Prop), x ∈ xs → Same H1 G → (∀ H4, Same G H4 → R (ψ x) H4) → g x (wipe σ vs) G fun σ2 H2 => wipe σ2 vs = wipe σ vs ∧ te σ2 H2 R)
    (hd : ∀ G, Same H1 G → G D = some (.lst (xs.reverse.map ψ)) → Qd G) :
    ∃ W : Nat → Nat → Hp → Prop, (∃ m, W 0 m (upd H1 D (.lst []))) ∧ ∀ i m H, W i m H →
      ((RT.ItvT K a xs.length).stop i H ∧ Qd H) ∨ ((RT.ItvT K a xs.length).go i H ∧ ∃ Nx : Hp → Prop, (∀ H', Nx H' → ∃ m', m' < m ∧ W (i + 1) m' H') ∧ ∀ x H', (RT.ItvT K a xs.length).yld i H x H' → g x (wipe σ vs) H' fun σ2 H2 => wipe σ2 vs = wipe σ vs ∧ tYes σ2 H2 fun b H3 =>
        if b = true then te σ2 H3 fun y H4 => ∃ acc, H4 D = some (.lst acc) ∧ acc.length < sizeLine ∧ Nx (upd H4 D (.lst (acc ++ [y]))) else Nx H3) := by
  refine ⟨fun i m G => m = xs.length - i ∧ i ≤ xs.length ∧ Same H1 G ∧ G D = some (.lst ((xs.reverse.take i).map ψ)), ⟨_, rfl, Nat.zero_le _, Same.new hD _, upd_same⟩, ?_⟩
  rintro i m G ⟨rfl, hi, sm, hl2⟩
  rcases Nat.lt_or_ge i xs.length with lt | ge
  · have hS' := (Tp.same sm).sqT hS
    have lt' : xs.length - 1 - i < xs.length := by omega
    have hx : xs[xs.length - 1 - i]? = some xs[xs.length - 1 - i] := List.getElem?_eq_getElem lt'
    have hr : xs.reverse[i]? = some xs[xs.length - 1 - i] := by rw [List.getElem?_reverse lt]; exact hx
    refine .inr ⟨⟨lt, xs, _, hS', hx⟩, fun G => Same H1 G ∧ G D = some (.lst ((xs.reverse.take (i + 1)).map ψ)), fun H' z => ⟨_, (by omega : xs.length - (i + 1) < xs.length - i), rfl, by omega, z.1, z.2⟩, ?_⟩
    rintro x G' ⟨rfl, hy⟩
    have ex := (hy xs hS').symm.trans hx
    cases ex
    refine hs _ G' _ (List.getElem_mem lt') sm fun H4 s4 => ⟨_, s4 _ _ hl2, ?_, fun b o z => ?_, ?_⟩
    · rw [List.length_map, List.length_take, List.length_reverse]
      exact Nat.lt_of_lt_of_le (by omega : _ < 10001) (by decide)
    · rw [upd_ne (ne_of_none z hD)]
      exact s4 _ _ (sm _ _ z)
    · rw [upd_same, take_snoc hr, List.map_append]
      rfl
  · refine .inl ⟨ge, hd G sm ?_⟩
    rw [hl2, List.take_of_length_le (by rw [List.length_reverse]; exact ge)]
end
/-! ### words -/
def ab (n : Int) : Int := if n < 0 then -n else n
def isLet (n : Int) : Bool := decide (n ≠ 0) && decide (ab n ≤ 40)
def okW (ns : List Int) : Bool := decide (ns.length ≤ 300) && ns.all isLet
def inv (ns : List Int) : List Int := ns.reverse.map fun n => -n
def sgn (m l : Int) : Int := if 0 < l then m else -m
def shf (k : Int) (ns : List Int) : List Int := ns.map fun n => sgn (ab n + k) n
abbrev WT (K : PySem.W.Frag) (H : Hp) (a : Addr) (ns : List Int) : Prop := SqT K H a (ns.map V.int)
theorem cat_ok {K : PySem.W.Frag} {H : Hp} {a b : Addr} {xs ys : List V} {Q : VK} (ha : SqT K H a xs) (hb : SqT K H b ys) (hl : xs.length + ys.length ≤ sizeLine) (q : ∀ p H', Same H H' → SqT K H' p (xs ++ ys) → Q (.ref p) H') : rCatA K (.ref a) (.ref b) H Q := by
  refine ⟨a, b, xs, ys, rfl, rfl, ha, hb, hl, fun e => ?_, fun _ e => ?_, fun _ _ p np => ?_⟩
  · subst e
    exact q b H (Same.refl _) hb
  · subst e
    exact q a H (Same.refl _) (by rw [List.append_nil]; exact ha)
  · exact q p _ (Same.new np _) (SqT.here upd_same)
def vInt : V → Int
  | .int n => n
  | _ => 0
theorem map_int {ψ : Int → V} (ns : List Int) : (ns.map V.int).map (fun v => ψ (vInt v)) = ns.map ψ := by
  rw [List.map_map]
  rfl
theorem mem_int {ns : List Int} {x : V} (h : x ∈ ns.map V.int) : ∃ n, n ∈ ns ∧ x = .int n := by
  obtain ⟨n, h1, h2⟩ := List.mem_map.mp h
  exact ⟨n, h1, h2.symm⟩
def spLet : Sp := fun vs H Q _ => ∃ n : Int, vs = [.int n] ∧ Q (.bl (isLet n)) H
def spAre (K : PySem.W.Frag) : Sp := fun vs H Q _ => ∃ (a : Addr) (ns : List Int), vs = [.ref a] ∧ WT K H a ns ∧ ns.length ≤ 10000 ∧ ∀ H', Same H H' → Q (.bl (ns.all isLet)) H'
def spChkW (K : PySem.W.Frag) (C : Addr) : Sp := fun vs H Q E => ∃ (a : Addr) (ns : List Int), vs = [.ref a] ∧ WT K H a ns ∧ ns.length ≤ 10000 ∧ (okW ns = true → ∀ H', Same H H' → Q .non H') ∧ (okW ns = false → ∀ H', Same H H' → E (.ref C) none H')
/-- a def over one word that gives a new one -/
def spWW (K : PySem.W.Frag) (φ : List Int → List Int) : Sp := fun vs H Q _ => ∃ (a : Addr) (ns : List Int), vs = [.ref a] ∧ WT K H a ns ∧ ns.length ≤ 10000 ∧ ∀ p H', Same H H' → WT K H' p (φ ns) → Q (.ref p) H'
def spSgn : Sp := fun vs H Q _ => ∃ m l : Int, vs = [.int m, .int l] ∧ Q (.int (sgn m l)) H
def spShf (K : PySem.W.Frag) : Sp := fun vs H Q _ => ∃ (a : Addr) (ns : List Int) (k : Int), vs = [.ref a, .int k] ∧ WT K H a ns ∧ ns.length ≤ 10000 ∧ ∀ p H', Same H H' → WT K H' p (shf k ns) → Q (.ref p) H'
/-- inverse: the word, or the error -/
def spInvE (K : PySem.W.Frag) (C : Addr) : Sp := fun vs H Q E => ∃ (a : Addr) (ns : List Int), vs = [.ref a] ∧ WT K H a ns ∧ ns.length ≤ 10000 ∧ (okW ns = true → ∀ p H', Same H H' → WT K H' p (inv ns) → Q (.ref p) H') ∧ (okW ns = false → ∀ H', Same H H' → E (.ref C) none H')
/-- shifted: the word, or the first error -/
def spShfE (K : PySem.W.Frag) (CW CS : Addr) : Sp := fun vs H Q E => ∃ (a : Addr) (ns : List Int) (k : Int), vs = [.ref a, .int k] ∧ WT K H a ns ∧ ns.length ≤ 10000 ∧ (okW ns = true → 0 ≤ k → k ≤ 20 → (shf k ns).all isLet = true → ∀ p H', Same H H' → WT K H' p (shf k ns) → Q (.ref p) H') ∧
  (okW ns = false → ∀ H', Same H H' → E (.ref CW) none H') ∧ (okW ns = true → ¬ (0 ≤ k ∧ k ≤ 20) → ∀ H', Same H H' → E (.ref CS) none H') ∧ (okW ns = true → 0 ≤ k → k ≤ 20 → (shf k ns).all isLet = false → ∀ H', Same H H' → E (.ref CW) none H')
/-- the law's sign, step by sign -/
def lsg (n : Int) : Int := if 0 < n then 1 else -1
theorem shf_law (k n : Int) : n + k * lsg n = sgn (ab n + k) n := by
  unfold lsg sgn ab
  by_cases h : 0 < n
  · rw [if_pos h, if_pos h, if_neg (by omega), Int.mul_one]
  · rw [if_neg h, if_neg h]
    by_cases h2 : n < 0
    · rw [if_pos h2, Int.mul_neg, Int.mul_one]
      omega
    · rw [if_neg h2, Int.mul_neg, Int.mul_one]
      omega
def spSign : Sp := fun vs H Q _ => ∃ n : Int, vs = [.int n] ∧ Q (.int (lsg n)) H
/-- the law's own shift: a step below 2 ^ 64 -/
def spShfL (K : PySem.W.Frag) : Sp := fun vs H Q _ => ∃ (a : Addr) (ns : List Int) (k : Int), vs = [.ref a, .int k] ∧ WT K H a ns ∧ ns.length ≤ 10000 ∧ -1000 ≤ k ∧ k ≤ 1000 ∧ ∀ p H', Same H H' → WT K H' p (shf k ns) → Q (.ref p) H'
theorem shf_len (k : Int) (ns : List Int) : (shf k ns).length = ns.length := by unfold shf; rw [List.length_map]
theorem inv_len (ns : List Int) : (inv ns).length = ns.length := by unfold inv; rw [List.length_map, List.length_reverse]
structure BltW (mg : Str → Option Value) : Prop where
  abs : mg "abs" = none
  reversed : mg "reversed" = none
  any : mg "any" = none
structure CstW (mg : Str → Option Value) : Prop where
  MAX_LETTER : ∃ t, mg "MAX_LETTER" = some (.int 40 t)
  MAX_LETTERS : ∃ t, mg "MAX_LETTERS" = some (.int 300 t)
end OPN
section WDT
def wD (ns : List Int) : PyData := .tuple (ns.map .int)
theorem dp_ints {K : PySem.W.Frag} {H : Hp} : ∀ ns : List Int, DpAll K H (ns.map V.int) (ns.map PyData.int)
  | [] => .nil
  | n :: ns => .cons (.int n) (dp_ints ns)
theorem dp_wt {K : PySem.W.Frag} {H : Hp} {p : Addr} {ns : List Int} (h : WT K H p ns) : Dp K H (.ref p) (wD ns) := Dp.tup h (dp_ints ns)
theorem lay_ints : ∀ ns : List Int, PyData.canLayAll0 (ns.map .int) = true
  | [] => rfl
  | n :: ns => by
    show (PyData.canLay0 (.int n) && PyData.canLayAll0 (ns.map .int)) = true
    rw [lay_ints ns]
    rfl
theorem depth_ints : ∀ ns : List Int, PyData.depthAll (ns.map .int) ≤ 1
  | [] => Nat.zero_le _
  | n :: ns => by
    have h := depth_ints ns
    have e : (PyData.int n).depth ≤ 1 := by first | exact Nat.le_refl _ | exact Nat.zero_le _
    show max (PyData.int n).depth (PyData.depthAll (ns.map .int)) ≤ 1
    omega
theorem wD_depth (ns : List Int) : (wD ns).depth ≤ 2 := by
  have h := depth_ints ns
  show PyData.depthAll (ns.map .int) + 1 ≤ 2
  omega
theorem wD_shaped (ns : List Int) : SeqAt.shaped (wD ns) = true := by
  have h := wD_depth ns
  unfold SeqAt.shaped
  rw [show (wD ns).canLay0 = PyData.canLayAll0 (ns.map .int) from rfl, lay_ints, decide_eq_true (by omega)]
  rfl
theorem wide_ints : ∀ ns : List Int, wideAll (ns.map .int) = true
  | [] => rfl
  | n :: ns => by
    show (wide (.int n) && wideAll (ns.map .int)) = true
    rw [wide_ints ns]
    rfl
theorem wD_wide {ns : List Int} (h : ns.length ≤ 1000) : wide (wD ns) = true := by
  show (decide ((ns.map PyData.int).length ≤ 1000) && wideAll (ns.map .int)) = true
  rw [List.length_map, decide_eq_true h, wide_ints]
  rfl
/-- the same word twice -/
theorem same_w {K : PySem.W.Frag} {H : Hp} {p q : Addr} {ns : List Int} {Q : VK} {E : XK} (h1 : WT K H p ns) (h2 : WT K H q ns) (hl : ns.length ≤ 1000) (k : ∀ H', Same H H' → Q (.bl true) H') : spSame K 12 [.ref p, .ref q] H Q E :=
  ⟨_, _, wD ns, rfl, dp_wt h1, dp_wt h2, wD_shaped ns, by have := wD_depth ns; omega, wD_wide hl, k⟩
theorem ne_w {K : PySem.W.Frag} {H : Hp} {p q : Addr} {ns : List Int} {Q : VK} (h1 : WT K H p ns) (h2 : WT K H q ns) (k : Q (.bl false) H) : rNeD K (.ref p) (.ref q) H Q := by
  refine ⟨wD ns, wD ns, dp_wt h1, dp_wt h2, wD_shaped ns, wD_shaped ns, ?_⟩
  rw [SeqAt.eqv_refl _ (SeqAt.canLay_of_shaped (wD_shaped ns))]
  exact k
theorem eq_w {K : PySem.W.Frag} {H : Hp} {p q : Addr} {ns : List Int} {Q : VK} (h1 : WT K H p ns) (h2 : WT K H q ns) (k : Q (.bl true) H) : rEqD K (.ref p) (.ref q) H Q := by
  refine ⟨wD ns, wD ns, dp_wt h1, dp_wt h2, wD_shaped ns, wD_shaped ns, ?_⟩
  rw [SeqAt.eqv_refl _ (SeqAt.canLay_of_shaped (wD_shaped ns))]
  exact k
end WDT
theorem Tp.extN {H H' : Hp} (e : LamX.ExtN H H') : Tp H H' := fun b xs h => by
  rcases h with h | ⟨o, h⟩
  · exact .inl (e _ _ h (fun _ => by intro y; cases y))
  · exact .inr ⟨o, e _ _ h (fun _ => by intro y; cases y)⟩
theorem Rng.extN {H H' : Hp} {r : Addr} (e : LamX.ExtN H H') (h : Rng H r) : Rng H' r := by
  obtain ⟨c, ns, i, b, s, h1, h2, h3⟩ := h
  exact ⟨c, ns, i, b, s, e _ _ h1 (fun _ => by intro y; cases y), e _ _ h2 (fun _ => by intro y; cases y), h3⟩
theorem tabs1 {Pt : Addr} {q : Str} {H : Hp} (h : H Pt = some (.tbl #[])) : LamX.Tabs [(Pt, q)] H := fun p hp => by
  rw [List.mem_singleton.mp hp]
  exact ⟨#[], h, by trivial, fun _ _ z => (nomatch z)⟩
/-- an error's word and no field -/
def eD (j : Nat) : PyData := .tuple [.str (en j), .none]
theorem eD_shaped : ∀ j < 20, SeqAt.shaped (eD j) = true := by decide +kernel
theorem eq_e {K : PySem.W.Frag} {H : Hp} {p q : Addr} {j : Nat} {Q : VK} (hj : j < 20) (h1 : SqT K H p [.str (en j), .non]) (h2 : SqT K H q [.str (en j), .non]) (k : Q (.bl true) H) : rEqD K (.ref p) (.ref q) H Q := by
  refine ⟨eD j, eD j, Dp.tup h1 (.cons (.str _) (.cons .non .nil)), Dp.tup h2 (.cons (.str _) (.cons .non .nil)), eD_shaped j hj, eD_shaped j hj, ?_⟩
  rw [SeqAt.eqv_refl _ (SeqAt.canLay_of_shaped (eD_shaped j hj))]
  exact k
/-! ### the word of a term -/
def wd : Tree → List Int
  | .L => []
  | .N l r => ((wd l ++ shf 1 (wd r)) ++ [1]) ++ shf 1 (inv (wd l))
def lwd : Tree → List Int
  | .L => []
  | .N l r => ((lwd l ++ shf 1 (lwd r)) ++ [1]) ++ inv (shf 1 (lwd l))
theorem wd_lenN (l r : Tree) : (wd (.N l r)).length = 2 * (wd l).length + (wd r).length + 1 := by
  show (((wd l ++ shf 1 (wd r)) ++ [1]) ++ shf 1 (inv (wd l))).length = _
  rw [List.length_append, List.length_append, List.length_append, shf_len, shf_len, inv_len, List.length_singleton]
  omega
def wtab : List (List Nat) := [[0, 0, 0, 0, 0, 0, 0, 0, 0, 0, 0, 0, 0], [0, 0, 1, 1, 1, 1, 1, 1, 1, 1, 1, 1, 1], [0, 0, 1, 3, 4, 4, 4, 4, 4, 4, 4, 4, 4], [0, 0, 1, 3, 7, 9, 10, 12, 13, 13, 13, 13, 13], [0, 0, 1, 3, 7, 15, 19, 21, 25, 27, 28, 32, 34], [0, 0, 1, 3, 7, 15, 31, 39, 43, 51, 55, 57, 65], [0, 0, 1, 3, 7, 15, 31, 63, 79, 87, 103, 111, 115]]
def wt (d n : Nat) : Nat := (wtab.getD d []).getD n 0
theorem wt_all : ((List.range 6).all fun d => (List.range 12).all fun a => (List.range 12).all fun b => decide (0 < a → 0 < b → a + b ≤ 12 → 2 * wt d a + wt d b + 1 ≤ wt (d + 1) (a + b))) = true := by decide +kernel
theorem wt_step (d : Nat) (hd : d < 6) (a : Nat) (ha : a < 12) (b : Nat) (hb : b < 12) : 0 < a → 0 < b → a + b ≤ 12 → 2 * wt d a + wt d b + 1 ≤ wt (d + 1) (a + b) := by
  have h1 := List.all_eq_true.mp wt_all d (List.mem_range.mpr hd)
  have h2 := List.all_eq_true.mp h1 a (List.mem_range.mpr ha)
  have h3 := List.all_eq_true.mp h2 b (List.mem_range.mpr hb)
  exact of_decide_eq_true h3
theorem wd_tab : ∀ (d : Nat), d ≤ 6 → ∀ t : Tree, t.dp ≤ d → t.sz ≤ 12 → (wd t).length ≤ wt d t.sz
  | d, _, .L, _, _ => Nat.zero_le _
  | 0, _, .N l r, h, _ => absurd (show max l.dp r.dp + 1 ≤ 0 from h) (by omega)
  | d + 1, hd, .N l r, h, hz => by
    have h : max l.dp r.dp + 1 ≤ d + 1 := h
    have hz : l.sz + r.sz ≤ 12 := hz
    have p1 := l.sz_pos
    have p2 := r.sz_pos
    have h1 := wd_tab d (by omega) l (by omega) (by omega)
    have h2 := wd_tab d (by omega) r (by omega) (by omega)
    have h3 := wt_step d (by omega) l.sz (by omega) r.sz (by omega) p1 p2 hz
    rw [wd_lenN]
    show _ ≤ wt (d + 1) (l.sz + r.sz)
    omega
theorem wt_top : ∀ n < 13, wt 6 n ≤ 115 := by decide +kernel
theorem wd_len {t : Tree} (hd : t.dp ≤ 6) (hz : t.sz ≤ 12) : (wd t).length ≤ 115 := Nat.le_trans (wd_tab 6 (Nat.le_refl _) t hd hz) (wt_top _ (by omega))
theorem ab_pos {n : Int} (h : 0 < n) : ab n = n := if_neg (by omega)
theorem ab_neg {n : Int} (h : n < 0) : ab n = -n := if_pos h
theorem shf_let {k n : Int} (hk : 0 ≤ k) (h : n ≠ 0) : sgn (ab n + k) n ≠ 0 ∧ ab (sgn (ab n + k) n) = ab n + k := by
  unfold sgn
  rcases Int.lt_or_gt_of_ne h with h | h
  · rw [if_neg (by omega), ab_neg h, ab_neg (by omega)]
    omega
  · rw [if_pos h, ab_pos h, ab_pos (by omega)]
    omega
theorem inv_let {n : Int} (h : n ≠ 0) : -n ≠ 0 ∧ ab (-n) = ab n := by
  rcases Int.lt_or_gt_of_ne h with h | h
  · rw [ab_neg h, ab_pos (by omega)]
    omega
  · rw [ab_pos h, ab_neg (by omega)]
    omega
/-- every letter is no 0 and at most m -/
def Lets (m : Int) (ns : List Int) : Prop := ∀ n ∈ ns, n ≠ 0 ∧ ab n ≤ m
theorem Lets.mono {m m' : Int} {ns : List Int} (h : m ≤ m') (l : Lets m ns) : Lets m' ns := fun n hn => ⟨(l n hn).1, Int.le_trans (l n hn).2 h⟩
theorem Lets.app {m : Int} {ns ms : List Int} (h1 : Lets m ns) (h2 : Lets m ms) : Lets m (ns ++ ms) := fun n hn => (List.mem_append.mp hn).elim (h1 n) (h2 n)
theorem Lets.shf {m k : Int} (hk : 0 ≤ k) {ns : List Int} (h : Lets m ns) : Lets (m + k) (shf k ns) := fun n hn => by
  obtain ⟨x, hx, rfl⟩ := List.mem_map.mp hn
  have a := h x hx
  have b := shf_let hk a.1
  exact ⟨b.1, by rw [b.2]; omega⟩
theorem Lets.inv {m : Int} {ns : List Int} (h : Lets m ns) : Lets m (inv ns) := fun n hn => by
  obtain ⟨x, hx, rfl⟩ := List.mem_map.mp hn
  have a := h x (List.mem_reverse.mp hx)
  have b := inv_let a.1
  exact ⟨b.1, by rw [b.2]; exact a.2⟩
theorem Lets.all {m : Int} (hm : m ≤ 40) {ns : List Int} (h : Lets m ns) : ns.all isLet = true := by
  rw [List.all_eq_true]
  intro n hn
  have a := h n hn
  unfold isLet
  rw [decide_eq_true a.1, decide_eq_true (by omega)]
  rfl
theorem okW_of {m : Int} (hm : m ≤ 40) {ns : List Int} (h : Lets m ns) (hl : ns.length ≤ 300) : okW ns = true := by
  unfold okW
  rw [decide_eq_true hl, h.all hm]
  rfl
theorem wd_lets : ∀ t : Tree, Lets t.dp (wd t)
  | .L => fun n hn => by cases hn
  | .N l r => by
    have h1 := wd_lets l
    have h2 := wd_lets r
    have e : ((Tree.N l r).dp : Int) = ((max l.dp r.dp + 1 : Nat) : Int) := rfl
    rw [e]
    refine Lets.app (Lets.app (Lets.app (h1.mono (by omega)) ((h2.shf (by omega)).mono (by omega))) ?_) ((h1.inv.shf (by omega)).mono (by omega))
    intro n hn
    rw [List.mem_singleton.mp hn, ab_pos (by decide)]
    exact ⟨by decide, by omega⟩
theorem shf_inv {k : Int} {ns : List Int} (h : ∀ n ∈ ns, n ≠ 0) : inv (shf k ns) = shf k (inv ns) := by
  unfold inv shf
  rw [← List.map_reverse, List.map_map, List.map_map]
  apply List.map_congr_left
  intro n hn
  have h0 := h n (List.mem_reverse.mp hn)
  show -(sgn (ab n + k) n) = sgn (ab (-n) + k) (-n)
  rw [(inv_let h0).2]
  unfold sgn
  rcases Int.lt_or_gt_of_ne h0 with h | h
  · rw [if_neg (by omega), if_pos (by omega)]
    omega
  · rw [if_pos h, if_neg (by omega)]
theorem lwd_eq : ∀ t : Tree, lwd t = wd t
  | .L => rfl
  | .N l r => by
    show ((lwd l ++ shf 1 (lwd r)) ++ [1]) ++ inv (shf 1 (lwd l)) = ((wd l ++ shf 1 (wd r)) ++ [1]) ++ shf 1 (inv (wd l))
    rw [lwd_eq l, lwd_eq r, shf_inv fun n hn => (wd_lets l n hn).1]
def spWd (K : PySem.W.Frag) (g : Tree → List Int) (n : Nat) : Sp := fun vs H Q _ => ∃ (v : V) (t : Tree), vs = [v] ∧ TA K H v t ∧ t.dp < n ∧ t.dp ≤ 6 ∧ t.sz ≤ 12 ∧ ∀ p H', Same H H' → WT K H' p (g t) → Q (.ref p) H'
theorem spWd_no {K : PySem.W.Frag} {g : Tree → List Int} : ∀ vs H Q E, ¬ spWd K g 0 vs H Q E := fun vs H Q E h => by
  obtain ⟨v, t, _, _, h, _⟩ := h
  omega
/-- word_of: the word, or the error -/
def spWordE (K : PySem.W.Frag) (C : Addr) : Sp := fun vs H Q E => ∃ (v : V) (d : PyData), vs = [v] ∧ NT K H v d ∧ ndD d ≤ 1000 ∧ (∀ t : Tree, d = t.d → t.sz ≤ 12 → t.dp ≤ 6 → ∀ p H', Same H H' → WT K H' p (wd t) → Q (.ref p) H') ∧ (okd d = false → ∀ H', Same H H' → E (.ref C) none H')
theorem wfits {a b : List Int} (h : a.length + b.length ≤ 10000) : (a.map V.int).length + (b.map V.int).length ≤ sizeLine := by
  rw [List.length_map, List.length_map]
  exact Nat.le_trans h (by decide)
theorem cat_w {K : PySem.W.Frag} {H : Hp} {a b : Addr} {ns ms : List Int} {Q : VK} (ha : WT K H a ns) (hb : WT K H b ms) (hl : ns.length + ms.length ≤ 10000) (q : ∀ p H', Same H H' → WT K H' p (ns ++ ms) → Q (.ref p) H') : rCatA K (.ref a) (.ref b) H Q :=
  cat_ok ha hb (wfits hl) fun p H' sm h => q p H' sm (by rw [WT, List.map_append]; exact h)
theorem d_inj : ∀ {t u : Tree}, t.d = u.d → t = u
  | .L, .L, _ => rfl
  | .L, .N _ _, h => by
    have h : PyData.tuple [] = .tuple [_, _] := h
    injection h with h
    cases h
  | .N _ _, .L, h => by
    have h : PyData.tuple [_, _] = .tuple [] := h
    injection h with h
    cases h
  | .N l r, .N l' r', h => by
    have h : PyData.tuple [l.d, r.d] = .tuple [l'.d, r'.d] := h
    injection h with h
    injection h with h1 h2
    injection h2 with h2 _
    rw [d_inj h1, d_inj h2]
/-! ### the draws' state, its list of cells named -/
def RngC (H : Hp) (r c : Addr) : Prop := ∃ (ns : List Int) (i b s : Int), H r = some (.lst [.ref c, .int i, .int b, .int s]) ∧ H c = some (.lst (ns.map V.int)) ∧ c ≠ r ∧ 0 ≤ i ∧ 0 ≤ b ∧ 0 ≤ s ∧ s < 2147483647
theorem Rng.toC {H : Hp} {r : Addr} (h : Rng H r) : ∃ c, RngC H r c := by
  obtain ⟨c, h⟩ := h
  exact ⟨c, h⟩
theorem RngC.rng {H : Hp} {r c : Addr} (h : RngC H r c) : Rng H r := ⟨c, h⟩
theorem RngC.keep {H H' : Hp} {r c : Addr} (h : RngC H r c) (e1 : ∀ o, H r = some o → H' r = some o) (e2 : ∀ o, H c = some o → H' c = some o) : RngC H' r c := by
  obtain ⟨ns, i, b, s, h1, h2, h3⟩ := h
  exact ⟨ns, i, b, s, e1 _ h1, e2 _ h2, h3⟩
theorem RngC.same {H H' : Hp} {r c : Addr} (e : Same H H') (h : RngC H r c) : RngC H' r c := h.keep (e _) (e _)
theorem RngC.lst {H : Hp} {r c : Addr} (h : RngC H r c) : ∃ ys, H r = some (.lst ys) := h.rng.lst
theorem RngC.ne {H : Hp} {r c p : Addr} (h : RngC H r c) (e : H p = none) : p ≠ r ∧ p ≠ c := by
  obtain ⟨ns, i, b, s, h1, h2, h3⟩ := h
  refine ⟨fun z => ?_, fun z => ?_⟩
  · rw [z, h1] at e
    cases e
  · rw [z, h2] at e
    cases e
theorem RngC.set {H : Hp} {r c p : Addr} {o : HO} (h : RngC H r c) (n : p ≠ r ∧ p ≠ c) : RngC (upd H p o) r c :=
  h.keep (fun o e => by rw [upd_ne (Ne.symm n.1)]; exact e) (fun o e => by rw [upd_ne (Ne.symm n.2)]; exact e)
theorem RngC.extN {H H' : Hp} {r c : Addr} (e : LamX.ExtN H H') (h : RngC H r c) : RngC H' r c := by
  obtain ⟨ns, i, b, s, h1, h2, h3⟩ := h
  exact ⟨ns, i, b, s, e _ _ h1 (fun _ => by intro y; cases y), e _ _ h2 (fun _ => by intro y; cases y), h3⟩
theorem RngC.tp {H H' : Hp} {r c : Addr} (R : RngC H r c) (b : But r H H') : Tp H H' := by
  obtain ⟨ys, hy⟩ := R.lst
  exact Tp.but hy b
theorem RngC.tabs {T : List (Addr × Str)} {H H' : Hp} {r c : Addr} (R : RngC H r c) (b : But r H H') (t : LamX.Tabs T H) : LamX.Tabs T H' := by
  obtain ⟨ys, hy⟩ := R.lst
  exact tabs_set t hy b
theorem tabs_same {T : List (Addr × Str)} {H H' : Hp} (e : Same H H') (t : LamX.Tabs T H) : LamX.Tabs T H' := fun p hp => by
  obtain ⟨ps, h1, h2, h3⟩ := t p hp
  refine ⟨ps, e _ _ h1, h2, fun pos cv ec => ?_⟩
  obtain ⟨c, rfl, hc⟩ := h3 pos cv ec
  exact ⟨c, rfl, e _ _ hc⟩
def spDrawC : Sp := fun vs H Q _ => ∃ (r : Addr) (n : Int) (c : Addr), vs = [.ref r, .int n] ∧ RngC H r c ∧ 0 < n ∧ n < 1073741824 ∧ ∀ (v : Int) (H' : Hp), 0 ≤ v → v < n → RngC H' r c → But r H H' → Q (.int v) H'
theorem spDraw_C {vs : List V} {H : Hp} {Q : VK} {E : XK} (h : spDraw vs H Q E) : spDrawC vs H Q E := by
  obtain ⟨r, n, rfl, R, h1, h2, q⟩ := h
  obtain ⟨c, R⟩ := R.toC
  exact ⟨r, n, c, rfl, R, h1, h2, fun v H' v0 v1 R' b' => q v H' v0 v1 R'.rng b'⟩
def spPickC (K : PySem.W.Frag) : Sp := fun vs H Q _ => ∃ (r l c : Addr) (xs : List V), vs = [.ref r, .ref l] ∧ RngC H r c ∧ (SqL K H l xs ∨ SqT K H l xs) ∧ 0 < xs.length ∧ xs.length ≤ 10000 ∧ l ≠ r ∧ ∀ v H', v ∈ xs → RngC H' r c → But r H H' → Q v H'
theorem spPick_C {K : PySem.W.Frag} {vs : List V} {H : Hp} {Q : VK} {E : XK} (h : spPick K vs H Q E) : spPickC K vs H Q E := by
  obtain ⟨r, l, xs, rfl, R, h1, h2, h3, h4, q⟩ := h
  obtain ⟨c, R⟩ := R.toC
  exact ⟨r, l, c, xs, rfl, R, h1, h2, h3, h4, fun v H' hv R' b' => q v H' hv R'.rng b'⟩
def spTermC (K : PySem.W.Frag) (n : Nat) : Sp := fun vs H Q _ => ∃ (r : Addr) (many : Int) (k : Nat) (c : Addr), k < n ∧ vs = [.ref r, .int many, .int (2 ^ k)] ∧ k ≤ 6 ∧ 1 ≤ many ∧ many ≤ 2 ^ k ∧ RngC H r c ∧
  ∀ (v : V) (t : Tree) (H' : Hp), TA K H' v t → (t.sz : Int) = many → t.dp ≤ k → RngC H' r c → But r H H' → Q v H'
theorem spTerm_C {K : PySem.W.Frag} {n : Nat} {vs : List V} {H : Hp} {Q : VK} {E : XK} (h : spTerm K n vs H Q E) : spTermC K n vs H Q E := by
  obtain ⟨r, m, k, hk, e, h1, h2, h3, R, q⟩ := h
  obtain ⟨c, R⟩ := R.toC
  exact ⟨r, m, k, c, hk, e, h1, h2, h3, R, fun v t H' a b d R' b' => q v t H' a b d R'.rng b'⟩
def spAnyC (K : PySem.W.Frag) : Sp := fun vs H Q _ => ∃ (r : Addr) (top : Int) (c : Addr), vs = [.ref r, .int top] ∧ 1 ≤ top ∧ top ≤ 64 ∧ RngC H r c ∧
  ∀ (v : V) (t : Tree) (H' : Hp), TA K H' v t → (t.sz : Int) ≤ top → t.dp ≤ 6 → RngC H' r c → But r H H' → Q v H'
theorem spAny_C {K : PySem.W.Frag} {vs : List V} {H : Hp} {Q : VK} {E : XK} (h : spAny K vs H Q E) : spAnyC K vs H Q E := by
  obtain ⟨r, m, e, h1, h2, R, q⟩ := h
  obtain ⟨c, R⟩ := R.toC
  exact ⟨r, m, c, e, h1, h2, R, fun v t H' a b d R' b' => q v t H' a b d R'.rng b'⟩
/-! ### tuple * int, also where the tuple itself is given back -/
section OPR
open PySem.Spec PyProof.Rows
theorem tuple_mul_same (l : Addr) (items : Array Value) (n : Nat) (dd : Option Addr) (sl : Array (Option Value)) (x : Int) (u : Tok) (c0 : (decide (x < -(2 ^ 63)) || decide (x ≥ 2 ^ 63)) = false) (c1 : (items.isEmpty || x == 1) = true) :
    Meets (Builtin.«tuple.__mul__» ⟨[.ref l, .int x u], []⟩) (fun _ R s => s.heap.get? l = some { cls := .type "tuple", dict := dd, data := .seq items n, slots := sl } ∧ R (.ok (.ret (Value.ref l))) { s with heap := s.heap, toks := s.toks }) :=
  .of_wp fun prog w A R s h => by
    obtain ⟨hp, g, d, tk, os⟩ := s
    obtain ⟨hl, h⟩ := h
    have f1 := AutoSeq1.idx_int
    wp_walk using wpAny_loadPart' hl
    repeat (first
      | (refine wpAny_ite_false (decide_eq_false (by rw [c0]; exact Bool.false_ne_true)) ?_; wp_walk using wpAny_loadPart' hl)
      | (refine wpAny_ite_true (decide_eq_true c1) ?_; wp_walk using wpAny_loadPart' hl))
    exact ⟨_, rfl, h⟩
theorem op_repS {X : Cx} : OpR X (binaryOp .Mult) (fun x y H Q => ∃ l k xs, x = .ref l ∧ y = .int k ∧ SqT X.K H l xs ∧ (xs = [] ∨ k = 1) ∧ 1 ≤ k ∧ k ≤ 1000 ∧ Q (.ref l) H) := by
  intro pins s σ H x y v u Q I rx ry h
  obtain ⟨l, k, xs, rfl, rfl, hT, hne, h1, h2, q⟩ := h
  cases rx
  obtain ⟨t, rfl⟩ := ry
  obtain ⟨its, r, ⟨⟨cls, dd, data, sl⟩, ho, hc, n, hd⟩, hs⟩ := I.tuple hT
  simp only at hc hd
  subst hc hd
  have c0 : (decide (k < -(2 ^ 63)) || decide (k ≥ 2 ^ 63)) = false := by
    rw [decide_eq_false (by omega), decide_eq_false (by omega)] <;> rfl
  have c1 : (its.toArray.isEmpty || k == 1) = true := by
    rcases hne with e | e
    · subst e
      cases r
      rfl
    · rw [e]
      simp
  exact wpAny_binaryOp_repeat_ref (T := "tuple") (U := "int") (by decide) ⟨_, ho, rfl⟩ (fun s' => typeIs_int s' k t) noFill_tuple_mul PySem.F.fills_int_mul PySem.F.slot_int_rmul repeat_tuple PySem.F.slot_int_index.lookup
    (call_meets PySem.F.slot_int_rmul (typeIs_int s k t) PySem.F.entry_int_rmul (PySem.F.args_int_rmul_2 _ _) (int_rmul_tuple k t l its.toArray n dd sl)
      ⟨ho, rfl, ⟨_, ho, rfl⟩, call_meets PySem.F.slot_tuple_mul ⟨_, ho, rfl⟩ PySem.F.entry_tuple_mul (PySem.F.args_tuple_mul_2 _ _) (tuple_mul_same l its.toArray n dd sl k t c0 c1) ⟨ho, ⟨.ref l, H, I, rfl, q⟩⟩⟩)
def rRepA (K : PySem.W.Frag) : R2 := fun x y H Q => ∃ l k xs, x = .ref l ∧ y = .int k ∧ SqT K H l xs ∧ 1 ≤ k ∧ k ≤ 1000 ∧ xs.length ≤ 1000 ∧ ∀ p H', Same H H' → SqT K H' p (List.replicate k.toNat xs).flatten → Q (.ref p) H'
theorem op_repA {X : Cx} : OpR X (binaryOp .Mult) (rRepA X.K) := by
  intro pins s σ H x y v u Q I rx ry h
  obtain ⟨l, k, xs, rfl, rfl, hT, h1, h2, hz, q⟩ := h
  by_cases hx : xs = []
  · refine op_repS pins s σ H _ _ v u Q I rx ry ⟨l, k, xs, rfl, rfl, hT, .inl hx, h1, h2, q l H (Same.refl _) ?_⟩
    have e : (List.replicate k.toNat xs).flatten = xs := by
      rw [hx]
      simp
    rw [e]
    exact hT
  · by_cases hk : k = 1
    · refine op_repS pins s σ H _ _ v u Q I rx ry ⟨l, k, xs, rfl, rfl, hT, .inr hk, h1, h2, q l H (Same.refl _) ?_⟩
      have e : (List.replicate k.toNat xs).flatten = xs := by
        rw [hk]
        simp
      rw [e]
      exact hT
    · exact op_repT pins s σ H _ _ v u Q I rx ry ⟨l, k, xs, rfl, rfl, hT, hx, by omega, h2, hz, fun p np => q p _ (Same.new np _) (SqT.here upd_same)⟩
end OPR
/-- a word repeated -/
def repW (k : Int) (ns : List Int) : List Int := (List.replicate k.toNat ns).flatten
theorem repW_map (k : Int) (ns : List Int) : (List.replicate k.toNat (ns.map V.int)).flatten = (repW k ns).map V.int := by
  unfold repW
  rw [List.map_flatten, List.map_replicate]
theorem repW_len (k : Int) (ns : List Int) : (repW k ns).length = k.toNat * ns.length := by
  unfold repW
  rw [List.length_flatten, List.map_replicate, List.sum_replicate_nat]
theorem repW_mem {k : Int} {ns : List Int} {n : Int} (h : n ∈ repW k ns) : n ∈ ns := by
  unfold repW at h
  obtain ⟨l, h1, h2⟩ := List.mem_flatten.mp h
  rw [List.eq_of_mem_replicate h1] at h2
  exact h2
theorem rep_w {K : PySem.W.Frag} {H : Hp} {a : Addr} {ns : List Int} {k : Int} {Q : VK} (ha : WT K H a ns) (h1 : 1 ≤ k) (h2 : k ≤ 1000) (hl : ns.length ≤ 1000) (q : ∀ p H', Same H H' → WT K H' p (repW k ns) → Q (.ref p) H') : rRepA K (.ref a) (.int k) H Q :=
  ⟨a, k, _, rfl, rfl, ha, h1, h2, by rw [List.length_map]; exact hl, fun p H' sm h => q p H' sm (by rw [WT, ← repW_map]; exact h)⟩
/-! ### words that are drawn -/
theorem Tp.rng {r : Addr} {H H' : Hp} (R : Rng H r) (b : But r H H') : Tp H H' := by
  obtain ⟨ys, hy⟩ := R.lst
  exact Tp.but hy b
def spAnyW (K : PySem.W.Frag) : Sp := fun vs H Q _ => ∃ (r : Addr) (top wide : Int) (c : Addr), vs = [.ref r, .int top, .int wide] ∧ 0 ≤ top ∧ top ≤ 1000 ∧ 1 ≤ wide ∧ wide ≤ 1000 ∧ RngC H r c ∧
  ∀ (p : Addr) (ns : List Int) (H' : Hp), WT K H' p ns → (ns.length : Int) ≤ top → Lets wide ns → RngC H' r c → But r H H' → Q (.ref p) H'
def spBadW (K : PySem.W.Frag) : Sp := fun vs H Q _ => ∃ r c : Addr, vs = [.ref r] ∧ RngC H r c ∧ ∀ (p : Addr) (ns : List Int) (H' : Hp), WT K H' p ns → okW ns = false → ns.length ≤ 400 → RngC H' r c → But r H H' → Q (.ref p) H'
theorem okW_mem {ns : List Int} {n : Int} (h : n ∈ ns) (hb : isLet n = false) : okW ns = false := by
  unfold okW
  have : ns.all isLet = false := by
    rw [List.all_eq_false]
    exact ⟨n, h, by rw [hb]; decide⟩
  rw [this, Bool.and_false]
theorem okW_long {ns : List Int} (h : 300 < ns.length) : okW ns = false := by
  unfold okW
  rw [decide_eq_false (by omega)]
  rfl
theorem inv_inv (ns : List Int) : inv (inv ns) = ns := by
  unfold inv
  rw [← List.map_reverse, List.map_map, List.reverse_reverse]
  have e : ((fun n : Int => -n) ∘ fun n => -n) = id := by
    funext n
    exact Int.neg_neg n
  rw [e, List.map_id]
theorem okW_inv {m : Int} (hm : m ≤ 40) {ns : List Int} (h : Lets m ns) (hl : ns.length ≤ 300) : okW (inv ns) = true := okW_of hm h.inv (by rw [inv_len]; exact hl)
theorem shf_all {k : Int} (hk : 0 ≤ k) {ns : List Int} (h : Lets 40 ns) : (shf k ns).all isLet = !(ns.any fun n => decide (40 < ab n + k)) := by
  induction ns with
  | nil => rfl
  | cons n ns ih =>
    have h1 := h n List.mem_cons_self
    have h2 := ih fun x hx => h x (List.mem_cons_of_mem _ hx)
    have h3 := shf_let hk h1.1
    show (isLet (sgn (ab n + k) n) && (shf k ns).all isLet) = !(decide (40 < ab n + k) || ns.any fun n => decide (40 < ab n + k))
    rw [h2, Bool.not_or]
    congr 1
    unfold isLet
    rw [decide_eq_true h3.1, h3.2, Bool.true_and]
    by_cases z : ab n + k ≤ 40
    · rw [decide_eq_true z, decide_eq_false (by omega)]
      rfl
    · rw [decide_eq_false z, decide_eq_true (by omega)]
      rfl
def vD (d : PyData) : PyData := .tuple [.str ("value" : Str), d]
theorem vD_shaped (ns : List Int) : SeqAt.shaped (vD (wD ns)) = true := by
  have h := wD_depth ns
  have hs := wD_shaped ns
  have e1 : (vD (wD ns)).canLay0 = (PyData.canLay0 (.str ("value" : Str)) && (PyData.canLay0 (wD ns) && true)) := rfl
  have e2 : (vD (wD ns)).depth = max (PyData.depth (.str ("value" : Str))) (max (wD ns).depth 0) + 1 := rfl
  have e3 : PyData.depth (.str ("value" : Str)) ≤ 1 := by first | exact Nat.le_refl _ | exact Nat.zero_le _
  unfold SeqAt.shaped
  rw [e1, SeqAt.canLay_of_shaped hs, decide_eq_true (by omega)]
  decide +kernel
theorem vD_wide {ns : List Int} (h : ns.length ≤ 1000) : wide (vD (wD ns)) = true := by
  show (decide (2 ≤ 1000) && (true && (wide (wD ns) && true))) = true
  rw [wD_wide h]
  decide
theorem vD_depth (ns : List Int) : (vD (wD ns)).depth < 12 := by
  have h := wD_depth ns
  have e2 : (vD (wD ns)).depth = max (PyData.depth (.str ("value" : Str))) (max (wD ns).depth 0) + 1 := rfl
  have e3 : PyData.depth (.str ("value" : Str)) ≤ 1 := by first | exact Nat.le_refl _ | exact Nat.zero_le _
  omega
theorem dp_vD {K : PySem.W.Frag} {H : Hp} {q p : Addr} {ns : List Int} (h : SqT K H q [.str ("value" : Str), .ref p]) (w : WT K H p ns) : Dp K H (.ref q) (vD (wD ns)) := Dp.tup h (.cons (.str _) (.cons (dp_wt w) .nil))
theorem dp_eD {K : PySem.W.Frag} {H : Hp} {q : Addr} {j : Nat} (h : SqT K H q [.str (en j), .non]) : Dp K H (.ref q) (eD j) := Dp.tup h (.cons (.str _) (.cons .non .nil))
theorem eD_wide (j : Nat) : wide (eD j) = true := rfl
theorem eD_depth : ∀ j < 20, (eD j).depth < 12 := by decide +kernel
section OPL
open PySem.Spec PyProof.Rows
/-! ### a lambda whose only parameter has a written int for default, and is not read -/
structure LamSD (N : List Str) (sc scope : Scope) : Prop where
  kind : scope.kind = .function
  co : scope.isCoroutine = false
  gen : scope.isGenerator = false
  own : ∀ y ∈ scope.names, y.2 ≠ .cell ∧ (y.2 = .local → y.1 ∉ N)
  free : ∀ y ∈ scope.names, y.2 = .free → sc.names.lookup y.1 = some .cell ∨ sc.names.lookup y.1 = some .free
def lamSDB (N : List Str) (sc scope : Scope) : Bool :=
  decide (scope.kind = .function) && !scope.isCoroutine && !scope.isGenerator && scope.names.all fun y => !decide (y.2 = .cell) && (!decide (y.2 = .local) || !decide (y.1 ∈ N)) && (!decide (y.2 = .free) || decide (sc.names.lookup y.1 = some .cell) || decide (sc.names.lookup y.1 = some .free))
theorem lamSD_by {N : List Str} {sc scope : Scope} (h : lamSDB N sc scope = true) : LamSD N sc scope := by
  unfold lamSDB at h
  simp only [Bool.and_eq_true, Bool.or_eq_true, Bool.not_eq_true', decide_eq_true_eq, decide_eq_false_iff_not, List.all_eq_true] at h
  obtain ⟨⟨⟨h1, h2⟩, h3⟩, h4⟩ := h
  refine ⟨h1, h2, h3, fun y hy => ⟨(h4 y hy).1.1, fun e => ?_⟩, fun y hy e => ?_⟩
  · rcases (h4 y hy).1.2 with z | z
    · exact absurd e z
    · exact z
  · rcases (h4 y hy).2 with (z | z) | z
    · exact absurd e z
    · exact .inl z
    · exact .inr z
theorem LamSD.has {X : Cx} {N : List Str} {scope : Scope} (L : LamSD N X.env.scope scope) (ok : X.Ok) : ∀ y ∈ scope.names, y.2 = .free → ∃ c, X.env.cells.lookup y.1 = some c := fun y hy e => by
  rcases L.free y hy e with k | k
  · exact ok.has _ (.inl k)
  · exact ok.has _ (.inr k)
section
variable {X : Cx} {pins : List (Addr × Obj)} {σ : L2.St} {H HZ : Hp} {s s1 : Shared}
theorem lam_startD {A : Around} {outer : List Env} {E : XK} {scope : Scope} {f c' : Addr} {h₁ : Heap} {tk : Nat} {mb : Str → Option Value} (I : Inv X pins σ H s) (L : LamSD X.N X.env.scope scope) (e0 : Env0 X.prog X.w X.K X.mg X.base A outer s1 HZ) (hd : A.handled = none)
    (un : Un (frs X.stack) [] H HZ s.heap s1.heap) (hns : h₁.Ns s1.heap.objs.size mb) (kp : ∀ b o, s1.heap.get? b = some o → h₁.get? b = some o) :
    Inv (LamX.lamCx X A outer s1 HZ E scope f c') [] σ HZ { s1 with heap := h₁, toks := tk } := by
  have hfree := L.has I.ok
  have cm : ∀ {y c}, (cloFrom X.env.cells scope.names []).lookup y = some c → X.env.cells.lookup y = some c := fun {y c} e => by
    rcases cloFrom_mem (PySem.mem_of_lookup e) with hm | ⟨h1, h2⟩
    · cases hm
    · obtain ⟨c1, hc⟩ := hfree _ h1 rfl
      have hc : X.env.cells.lookup y = some c1 := hc
      have e2 : c = c1 := by
        rw [h2, hc] <;> rfl
      rw [e2]
      exact hc
  have look : ∀ {y}, scope.names.lookup y = some .free → ∃ c, (cloFrom X.env.cells scope.names []).lookup y = some c := fun {y} hl => by
    have hy : (y, NameKind.free) ∈ scope.names := PySem.mem_of_lookup hl
    exact mem_lookup (cloFrom_has (cells := X.env.cells) (acc := []) hy)
  have cellK : ∀ {c : Addr} {v : Option Value}, H c = none → s.heap.IsCell c v → h₁.IsCell c v := fun {c v} n ⟨o, ho, hd⟩ => by
    obtain ⟨sl, q⟩ := un.any ho n (by simp)
    exact ⟨_, kp _ _ q, hd⟩
  have noA : ∀ b : Addr, b ∉ (LamX.lamCx X A outer s1 HZ E scope f c').ex := fun b z => absurd (show b ∈ ([] : List Addr) from z) (by simp)
  refine ⟨⟨e0.mod, L.kind, rfl, rfl, Nat.le_refl _, fun y z c e1 e2 => I.ok.inj y z c (cm e1) (cm e2), fun y hy => ?_, fun y c z _ => ?_, fun _ => hd, Around.frames_deeper e0.frames, .inr ⟨rfl, rfl⟩, fun b z => absurd z (noA b), e0.bs, e0.bsz, fun b _ _ => noA b,
      fun b z => absurd z (noA b), e0.funs, e0.frf⟩,
    rfl, e0.bare, Un.kept kp, ⟨_, hns, fun i y v e1 e2 e3 => ?_⟩, fun y c e => ?_, e0.hok.fresh (Nat.le_refl _), fun y c e => ?_, fun q hq => absurd (show q ∈ ([] : List (Addr × Obj)) ++ [] from hq) (by simp), e0.hok.kept kp, I.len⟩
  · have hy : scope.names.lookup y = some .cell ∨ scope.names.lookup y = some .free := hy
    rcases hy with hy | hy
    · exact absurd rfl (L.own _ (PySem.mem_of_lookup hy)).1
    · exact look hy
  · have z : false = true := z
    cases z
  · have e3 : Vis scope y := e3
    have e1' : X.N[i]? = some y := e1
    rcases e3 with k | k | k
    · exact absurd (List.mem_of_getElem? e1') ((L.own _ (PySem.mem_of_lookup k)).2 rfl)
    · exact absurd rfl (L.own _ (PySem.mem_of_lookup k)).1
    · obtain ⟨m, hn, hl⟩ := I.loc
      have hvis : Vis X.env.scope y := (L.free _ (PySem.mem_of_lookup k) rfl).elim (fun k => .inr (.inl k)) (fun k => .inr (.inr k))
      obtain ⟨w', r, q⟩ := hl i y v e1 e2 hvis
      obtain ⟨c2, h2⟩ := look k
      refine ⟨w', r, .inr ⟨.inr k, c2, h2, ?_⟩⟩
      have c1 := cm h2
      rcases q with ⟨k', _⟩ | ⟨_, c3, e', z⟩
      · have k' : X.env.scope.names.lookup y = some .local := k'
        rcases L.free _ (PySem.mem_of_lookup k) rfl with k2 | k2 <;> rw [show X.env.scope.names.lookup y = _ from k2] at k' <;> cases k'
      · rw [c1] at e'
        cases e'
        exact cellK (I.freeC y _ c1) z
  · obtain ⟨w', z⟩ := I.cell y c (cm e)
    exact ⟨w', cellK (I.freeC y c (cm e)) z⟩
  · obtain ⟨v, o, ho, hd⟩ := I.cell y c (cm e)
    exact un.free c o ho (I.freeC y c (cm e)) (by simp)
theorem lam_makeD {T : List (Addr × Str)} {c P : Addr} {params : Arguments} {body : Expr} {scope : Scope} {pos pz : Pos} {z : Int} {jz : Nat} {Q : Value → Shared → Prop} (I : Inv X pins σ H s) (TB : LamX.TabB X.base X.mg c P) (hcode : X.env.code = .ref c)
    (hm : (P, X.env.qual ++ "<lambda>") ∈ T) (hu : ∀ p ∈ T, p.1 = P → p.2 = X.env.qual ++ "<lambda>") (hT : LamX.Tabs T H) (hd1 : params.defaults = [.Constant (.int z) jz pz]) (hk0 : params.kw_defaults = []) (hfree : ∀ y ∈ scope.names, y.2 = .free → ∃ c, X.env.cells.lookup y.1 = some c)
    (h : ∀ (f c' T0 : Addr) (u doc pm ctv : Value) (H1 : Hp) (s' : Shared), Inv X pins σ H1 s' → LamX.ExtN H H1 → LamX.Tabs T H1 →
      s'.heap.get? f = some (PySem.W.kdv_obj "<lambda>" (X.env.qual ++ "<lambda>") params (.expr body) scope (cloFrom X.env.cells scope.names []) (.ref T0) doc pm c' ctv) → H1 f = none → f ∉ frs X.stack → s'.heap.get? T0 = some (PySem.W.kdv_tup [u]) → H1 T0 = none → T0 ∉ frs X.stack → H1 c' = some (LamX.CodeO c' (X.env.qual ++ "<lambda>")) → Q (.ref f) s') :
    wpAny (model X.prog X.w) X.A (eval (.Lambda params body scope pos) X.env) Q X.xe s := by
  refine PySem.W.kdv_lam (by rw [hd1]; rfl) hk0 ?_
  rw [hd1]
  refine PySem.W.kdv_all1 (thn (pe_int.run pins s σ H (fun v H' => v = .int z ∧ H' = H) I ⟨rfl, rfl⟩) fun u s0 ⟨v, H0, I0, r0, ev, eH⟩ => PySem.W.kdv_all0 ?_)
  subst ev eH
  rw [makeFunction_eq]
  simp only [List.zip_nil_right, List.filterMap_nil, List.isEmpty_nil, if_true, pure_bind, List.isEmpty_cons, Bool.false_eq_true, if_false]
  refine wpAny_bind (wpAny_newTextTuple ?_)
  obtain ⟨ps, hP, ht, ha⟩ := hT _ hm
  have I2 : Inv X pins σ H0 { s0 with heap := s0.heap.push (PySem.W.kdv_tup [u]) } := I0.kept (t' := s0.toks) fun b o e => Heap.get?_push_of_some _ e
  have hT0 : (s0.heap.push (PySem.W.kdv_tup [u])).get? s0.heap.objs.size = some (PySem.W.kdv_tup [u]) := Heap.get?_push_size _ rfl
  have hT0n : H0 s0.heap.objs.size = none := I0.hok.fresh (Nat.le_refl _)
  have bP : (s0.heap.push (PySem.W.kdv_tup [u])).BuiltinsAt X.mg P := TB.bm.keeps I2.bk
  have hP' : (s0.heap.push (PySem.W.kdv_tup [u])).get? P = some { cls := .none, data := .fields ps } := I2.hok P _ hP
  have nofr : ∀ f, s0.heap.objs.size ≤ f → f ∉ frs X.stack := fun f hf z => by
    rcases List.mem_cons.mp (I0.stkSub _ z) with e | e
    · have h1 := I0.lt
      rw [← e] at h1
      exact Nat.lt_irrefl _ (Nat.lt_of_lt_of_le h1 hf)
    · exact I0.nofs hf e
  have sz2 : s0.heap.objs.size ≤ (s0.heap.push (PySem.W.kdv_tup [u])).objs.size := by rw [Heap.size_push]; omega
  have ltT : s0.heap.objs.size < (s0.heap.push (PySem.W.kdv_tup [u])).objs.size := by rw [Heap.size_push]; omega
  have nTP : s0.heap.objs.size ≠ P := fun z => by
    rw [← z, hT0n] at hP
    cases hP
  cases hc : codeAmong pos ps.toList with
  | none =>
    refine PySem.W.kdv_makeTail (s := { s0 with heap := s0.heap.push (PySem.W.kdv_tup [u]) }) (mg := X.mg) (c := c) (P := P) (ps := ps) (closure_ok hfree) I2.ok.glob (I2.mod.glob.keeps I2.bk) hcode (TB.code.keeps I2.bk) hP' ht hc TB.gP bP fun c' ctv doc h' tk hx hge hlt hrec htb => ?_
    obtain ⟨c2, oc, vs, t, e2, hoc, hd, hv⟩ := hrec
    cases e2
    have hsz : (s0.heap.push (PySem.W.kdv_tup [u])).objs.size ≤ h'.objs.size := Nat.le_trans hge (Nat.le_of_lt hlt)
    have nC : H0 c' = none := I2.hok.fresh hge
    have I1 := LamX.inv_table (t' := tk) (more := #[rawInt pos.line, rawInt pos.col, .ref c']) (h' := h'.push (PySem.W.kdv_obj "<lambda>" (X.env.qual ++ "<lambda>") params (.expr body) scope (cloFrom X.env.cells scope.names []) (.ref s0.heap.objs.size) doc ((X.mg "__name__").getD .none) c' ctv)) I2 hP
      (fun b o hb e => Heap.get?_push_of_some _ (hx b o hb e)) (Heap.get?_push_of_some _ htb) hge ⟨oc, vs, t, Heap.get?_push_of_some _ hoc, hd, hv⟩
    have hE : LamX.ExtN H0 (upd (upd H0 P (.tbl (ps ++ #[rawInt pos.line, rawInt pos.col, .ref c']))) c' (LamX.CodeO c' (X.env.qual ++ "<lambda>"))) := fun b o e n => by
      rw [upd_ne (ne_of_none e nC), upd_ne (fun z => n ps (Option.some.inj (e.symm.trans (by rw [z]; exact hP))))]
      exact e
    have eL : (ps ++ #[rawInt pos.line, rawInt pos.col, .ref c']).toList = ps.toList ++ [rawInt pos.line, rawInt pos.col, .ref c'] := by simp
    have nTc : s0.heap.objs.size ≠ c' := Nat.ne_of_lt (Nat.lt_of_lt_of_le ltT hge)
    refine h h'.objs.size c' s0.heap.objs.size u doc ((X.mg "__name__").getD .none) ctv _ _ I1 hE (fun p hp => ?_) (Heap.get?_push_size _ rfl) ?_ (nofr _ (Nat.le_trans sz2 hsz)) (Heap.get?_push_of_some _ (hx _ _ nTP hT0)) ?_ (nofr _ (Nat.le_refl _)) upd_same
    · by_cases hb : p.1 = P
      · rw [hu p hp hb, hb]
        refine ⟨_, by rw [upd_ne (ne_of_none hP nC), upd_same], by rw [eL]; exact PySem.TriplesOk_snoc _ _ _ _ ht, fun p' cv hcv => ?_⟩
        rw [eL] at hcv
        rcases LamX.among_app _ ht hcv with z | z
        · obtain ⟨c0, e1, e2⟩ := ha p' cv z
          exact ⟨c0, e1, hE _ _ e2 LamX.codeO_ne⟩
        · exact ⟨c', z, upd_same⟩
      · obtain ⟨ps', a1, a2, a3⟩ := hT p hp
        refine ⟨ps', by rw [upd_ne (ne_of_none a1 nC), upd_ne hb]; exact a1, a2, fun p' cv hcv => ?_⟩
        obtain ⟨c0, e1, e2⟩ := a3 p' cv hcv
        exact ⟨c0, e1, hE _ _ e2 LamX.codeO_ne⟩
    · have n1 : h'.objs.size ≠ c' := Nat.ne_of_gt hlt
      have n2 : h'.objs.size ≠ P := Nat.ne_of_gt (Nat.lt_of_lt_of_le (Heap.lt_size hP') hsz)
      rw [upd_ne n1, upd_ne n2]
      exact I2.hok.fresh hsz
    · rw [upd_ne nTc, upd_ne nTP]
      exact hT0n
  | some cv =>
    obtain ⟨c', e, hco⟩ := ha pos cv hc
    subst e
    refine PySem.W.kdv_makeTailHit (s := { s0 with heap := s0.heap.push (PySem.W.kdv_tup [u]) }) (mg := X.mg) (c := c) (P := P) (ps := ps) (closure_ok hfree) I2.ok.glob (I2.mod.glob.keeps I2.bk) hcode (TB.code.keeps I2.bk) hP' ht hc bP fun ctv doc h' tk hx hsz => ?_
    have I1 : Inv X pins σ H0 { s0 with heap := h'.push (PySem.W.kdv_obj "<lambda>" (X.env.qual ++ "<lambda>") params (.expr body) scope (cloFrom X.env.cells scope.names []) (.ref s0.heap.objs.size) doc ((X.mg "__name__").getD .none) c' ctv), toks := tk } := I2.kept fun b o e => Heap.get?_push_of_some _ (hx b o e)
    exact h h'.objs.size c' s0.heap.objs.size u doc ((X.mg "__name__").getD .none) ctv H0 _ I1 (LamX.ExtN.refl H0) hT (Heap.get?_push_size _ rfl) (I2.hok.fresh hsz) (nofr _ (Nat.le_trans sz2 hsz)) (Heap.get?_push_of_some _ (hx _ _ hT0)) hT0n (nofr _ (Nat.le_refl _)) hco
theorem pe_actD {CXg : CXT} {Eg : XK} {Ng : List Str} {qg : Str} {sg : Scope} {g f c T0 : Addr} {u doc cdg pm ctv : Value} {params : Arguments} {body : Expr} {scope : Scope} {k i : Nat} {a a0 : Str} {pn : List (Addr × Obj)} {xe : Value → Shared → Prop} {W : WX} {E : L2.St → XK} {tb : XK → TE} {p1 p2 : Pos}
    (I : Inv X pins σ H s) (L : LamSD X.N X.env.scope scope) (hf : s.heap.get? f = some (PySem.W.kdv_obj "<lambda>" (X.env.qual ++ "<lambda>") params (.expr body) scope (cloFrom X.env.cells scope.names []) (.ref T0) doc pm c ctv)) (hfn : H f = none) (hfr : f ∉ frs X.stack)
    (hT0 : s.heap.get? T0 = some (PySem.W.kdv_tup [u])) (hTn : H T0 = none) (hTr : T0 ∉ frs X.stack) (hl0 : scope.names.lookup a0 = some .local)
    (hbind : ∀ (q : Str) (cl : List (Str × Addr)) (dV doc pm cv ctv : Value), ∃ k, bindArgs (PySem.W.kdv_fn "<lambda>" q params (.expr body) scope cl dV doc pm cv ctv) ⟨[], []⟩ = seqItems? dV >>= k ∧ ∀ u, k (some #[u]) = pure [(a0, u)])
    (tk : L2N.Takes ((cxOf CXg X.prog X.w X.K X.mg X.base Ng qg sg g cdg X.A X.stack s H Eg).tr pn xe) W) (hW : ∀ cls d σ2 H2, E σ2 cls d H2 → W cls d σ2 H2) (hr : Room (k + 1) (X.A.deeper (envOfC qg sg s.heap.objs.size g cdg)))
    (hbody : ∀ (A : Around) (outer : List Env) (s : Shared) (H : Hp) (E : XK), Room k (A.deeper (LamX.lamEnv X scope s.heap.objs.size f c)) → PE (lamCxN X A outer s H E scope f c) body (tb E))
    (hN : Ng[i]? = some a) (hv : Vis sg a) (hd : (a == ("__debug__" : Str)) = false := by decide) (hcd : (a == ("__classdict__" : Str)) = false := by decide) :
    PE ((cxOf CXg X.prog X.w X.K X.mg X.base Ng qg sg g cdg X.A X.stack s H Eg).tr pn xe) (.Call (.Name a p1) [] [] p2) (fun σZ HZ Q => σZ[i]? = some (some (.ref f)) ∧ HZ c = some (LamX.CodeO c (X.env.qual ++ "<lambda>")) ∧ tb (E σZ) σ HZ Q) := by
  refine ⟨fun pz sz σz Hz Q Iz ⟨hs, hc, y⟩ => ?_⟩
  refine wpAny_Call_Name_kw (thn ((pe_var (pos := p1) (i := i) hN hv hd hcd).run pz sz σz Hz (fun v H1 => v = .ref f ∧ H1 = Hz) Iz ⟨.ref f, hs, rfl, rfl⟩) fun u' s1 ⟨v, H1, I1, r1, ev, eH⟩ => ?_)
  subst ev eH
  cases (show u' = Value.ref f from r1)
  have of1 := I1.base.keep f _ hf hfn hfr (fun z => nomatch (show f ∈ ([] : List Addr) from z))
  have oT1 := I1.base.keep T0 _ hT0 hTn hTr (fun z => nomatch (show T0 ∈ ([] : List Addr) from z))
  refine PySem.W.callWith_F0 ⟨_, _, _, _, of1⟩ ?_
  obtain ⟨⟨oc, vs, t, hoc, hdc, hvc⟩, _, _⟩ := I1.hok c _ hc
  have run : codeAny (model X.prog X.w) (X.A.deeper (envOfC qg sg s.heap.objs.size g cdg)) (.call (.ref f) ⟨[], []⟩) (CR (L2N.CX X.prog X.w) (envOfC qg sg s.heap.objs.size g cdg :: X.stack) X.prog X.w H1 s1 Q (E σz)) s1 := by
    obtain ⟨kk, hb1, hb2⟩ := hbind (X.env.qual ++ "<lambda>") (cloFrom X.env.cells scope.names []) (.ref T0) doc pm (.ref c) ctv
    have hB : BindsTo s1 (PySem.W.kdv_fn "<lambda>" (X.env.qual ++ "<lambda>") params (.expr body) scope (cloFrom X.env.cells scope.names []) (.ref T0) doc pm (.ref c) ctv) ⟨[], []⟩ [(a0, u)] := BindsTo.of_defaults rfl oT1 rfl hb1 (hb2 u)
    refine PySem.W.kla_callFunE hr.depth of1 rfl L.co L.gen rfl ⟨c, oc, vs, t, rfl, hoc, hdc, hvc⟩ (hB _ _ _ _ ?_)
    refine wpAny_newFunctionEnv (fun y hy => (L.own y hy).1) (fun y hy => by rw [List.mem_singleton.mp hy]; exact hl0) (fun g1 hns hsb => ⟨I1.nolimit.fresh _ hsb, ?_⟩) L.kind
    have kp : ∀ b o, s1.heap.get? b = some o → g1.get? b = some o := fun b o e => hsb.extBut b o (Nat.ne_of_lt (Heap.lt_size e)) (Heap.get?_push_of_some _ e)
    have J := lam_startD (E := E σz) (f := f) (c' := c) (tk := s1.toks + ([(a0, u)] : List (Str × Value)).length) I L I1.env0 hr.hd I1.base hns kp
    refine PySem.W.kla_codeExpr (wpAny_mono ((hbody _ _ s1 H1 (E σz) (hr.deeper _)).run [] _ _ H1 Q (J.wish _) y) (fun v s3 ⟨w3, H3, J3, rv, q⟩ => ⟨w3, H3, J3.os, J3.bare, J3.base, J3.hok, rv, q⟩) fun e s3 z => z)
  refine wpAny_call (codeAny_mono run fun rs s2 hq => ?_)
  cases rs with
  | error e => exact tk e s2 (L2N.XE.of_call I1 (fun cls d H' h => hW cls d σz H' h) hq)
  | ok fl =>
    cases fl with
    | ret u => exact I1.after hq
    | next => exact False.elim hq
    | brk => exact False.elim hq
    | cont => exact False.elim hq
end
theorem pe_lamD {X : Cx} {T : List (Addr × Str)} {TT : (XK → Hp → VK → Prop) → Hp → VK → Prop} {x a a0 : Str} {g c P : Addr} {k : Nat} {pg : Arguments} {bg : List Stmt} {sg : Scope} {dV kV doc pm cdv ct oc : Value} {an od : Option Addr} {osl : Array (Option Value)} {Ng : List Str}
    {params : Arguments} {body : Expr} {scope : Scope} {t : XK → TE} {p lpos pos pz : Pos} {z : Int} {jz : Nat} (hg : Gl X x) (hm : X.mg x = some (.ref g)) (hk : PySem.W.keepIn X.K (.ref g) = true)
    (lk : X.K.lookup g = some ⟨oc, od, .func (PySem.W.fnOf x x pg bg sg dV kV doc pm an cdv ct), osl⟩) (hcg : PySem.W.codeIn X.K cdv x = true) (hb : Binds X.K (PySem.W.fnOf x x pg bg sg dV kV doc pm an cdv ct) [a] []) (Sg : FnScope Ng [a] sg) (hNg : Ng[0]? = some a) (hva : Vis sg a)
    (hG : GivesN X Ng x sg g cdv bg a (X.env.qual ++ "<lambda>") TT) (TB : LamX.TabB X.base X.mg c P) (hcode : X.env.code = .ref c) (hmT : (P, X.env.qual ++ "<lambda>") ∈ T) (hu : ∀ p ∈ T, p.1 = P → p.2 = X.env.qual ++ "<lambda>") (hr : Room (k + 2) X.A) (k40 : 40 ≤ k + 1) (L : LamSD X.N X.env.scope scope) (hd1 : params.defaults = [.Constant (.int z) jz pz]) (hk0 : params.kw_defaults = []) (hl0 : scope.names.lookup a0 = some .local)
    (hbind : ∀ (q : Str) (cl : List (Str × Addr)) (dV doc pm cv ctv : Value), ∃ k, bindArgs (PySem.W.kdv_fn "<lambda>" q params (.expr body) scope cl dV doc pm cv ctv) ⟨[], []⟩ = seqItems? dV >>= k ∧ ∀ u, k (some #[u]) = pure [(a0, u)])
    (hbody : ∀ (A : Around) (outer : List Env) (s : Shared) (H : Hp) (E : XK) (f c2 : Addr), Room k (A.deeper (LamX.lamEnv X scope s.heap.objs.size f c2)) → PE (lamCxN X A outer s H E scope f c2) body (t E))
    (hdb : (x == ("__debug__" : Str)) = false := by decide) (hd : (a == ("__debug__" : Str)) = false := by decide) (hcd : (a == ("__classdict__" : Str)) = false := by decide) :
    PE X (.Call (.Name x p) [.Lambda params body scope lpos] [] pos) (LamX.tLam T TT t) := by
  refine ⟨fun pins s σ H Q I ⟨hT, y⟩ => ?_⟩
  refine wpAny_Call_Name_kw (ld_glob I hg hm (PySem.W.callWith_K (h₀ := X.base) I.ok.mod.kin hk ?_ (by rfl) (by rfl)) hdb)
  show wpAny _ _ (spliced ((false, eval (.Lambda params body scope lpos) X.env) :: backTo pos (starEach [] X.env))) _ _ s
  refine Calls.spliced_cons (lam_makeD I TB hcode hmT hu hT hd1 hk0 (L.has I.ok) fun f c2 T0 u doc2 pm2 ctv H1 s1 I1 eN T1 hf hfn hfr hT0 hTn hTr hco => Calls.spliced_nil ⟨I1.kIn, ?_⟩)
  have run : codeAny (model X.prog X.w) X.A (.call (.ref g) ⟨[.ref f], []⟩) (CR CX0 X.stack X.prog X.w H1 s1 Q E0) s1 := by
    refine LamX.run_ofS (N := Ng) (ps := [a]) (us := [.ref f]) (vs := [.ref f]) lk hcg Sg hr I1.env0 (hb s1 [.ref f] I1.kIn rfl) (.cons rfl .nil) rfl fun hr2 => ?_
    obtain ⟨t2, ht2, hq2⟩ := hG _ f c2 s1 H1 Q (fun E H' Q' => t E σ H' Q') hr2 k40 (fun W pn xe E p1 p2 tk hW => pe_actD (i := 0) I1 L hf hfn hfr hT0 hTn hTr hl0 hbind tk hW hr2 (fun A outer s H E hr3 => hbody A outer s H E f c2 hr3) hNg hva hd hcd) hco (y H1 eN T1)
    exact ⟨t2, ht2.nox, hq2⟩
  refine wpAny_call (codeAny_mono run fun rs s2 hq => ?_)
  cases rs with
  | error e => exact (show False from hq).elim
  | ok fl =>
    cases fl with
    | ret u => exact I1.after hq
    | next => exact False.elim hq
    | brk => exact False.elim hq
    | cont => exact False.elim hq
end OPL
/-! ### the kinds of fields: 1 position, 2 name, 3 size, 4 row -/
def fk (j : Nat) : Nat := if [1, 9, 17].contains j then 1 else if [14, 15].contains j then 2 else if j = 5 then 3 else if j = 19 then 4 else 0
def fnm (n : Nat) : Str := if n = 1 then "position" else if n = 2 then "name" else if n = 3 then "size" else "row"
theorem fk_in3 : ∀ j, j < 20 → inV (.str (en j)) [.str (en 1), .str (en 9), .str (en 17)] = decide (fk j = 1) := by decide +kernel
theorem fk_in2 : ∀ j, j < 20 → inV (.str (en j)) [.str (en 14), .str (en 15)] = decide (fk j = 2) := by decide +kernel
theorem fk_big : ∀ j, j < 20 → decide (V.str (en j) = V.str (en 5)) = decide (fk j = 3) := by decide +kernel
theorem fk_row : ∀ j, j < 20 → decide (V.str (en j) = V.str (en 19)) = decide (fk j = 4) := by decide +kernel
theorem fk_none0 : ∀ j, j < 20 → decide (fk j = 1) = false → decide (fk j = 2) = false → decide (fk j = 3) = false → decide (fk j = 4) = false → fk j = 0 := by decide +kernel
theorem fk_none (j : Nat) (h : j < 20) (c1' : decide (fk j = 1) = false) (c2' : decide (fk j = 2) = false) (c3' : decide (fk j = 3) = false) (c4' : decide (fk j = 4) = false) : fk j = 0 := fk_none0 j h c1' c2' c3' c4'
/-! ### free reduction: stacks with the top at the head -/
def pu (st : List Int) (p : Int) : List Int := match st with
  | [] => [p]
  | q :: r => if q = -p then r else p :: q :: r
def Rdd : List Int → Prop
  | [] => True
  | [_] => True
  | a :: b :: r => a ≠ -b ∧ Rdd (b :: r)
theorem Rdd.tl {a : Int} {r : List Int} (h : Rdd (a :: r)) : Rdd r := by
  cases r with
  | nil => trivial
  | cons b r => exact h.2
theorem pu_rdd {st : List Int} (p : Int) (h : Rdd st) : Rdd (pu st p) := by
  cases st with
  | nil => trivial
  | cons q r =>
    unfold pu
    dsimp only
    by_cases e : q = -p
    · rw [if_pos e]
      exact h.tl
    · rw [if_neg e]
      exact ⟨fun z => e (by omega), h⟩
theorem pu_pu {st : List Int} {p : Int} (h : Rdd st) : pu (pu st p) (-p) = st := by
  cases st with
  | nil =>
    unfold pu
    dsimp only
    rw [if_pos (by omega)]
  | cons q r =>
    by_cases e : q = -p
    · have e1 : pu (q :: r) p = r := if_pos e
      rw [e1]
      cases r with
      | nil =>
        unfold pu
        dsimp only
        rw [e]
      | cons a r =>
        unfold pu
        dsimp only
        have := h.1
        rw [if_neg (by omega), e]
    · have e1 : pu (q :: r) p = p :: q :: r := if_neg e
      rw [e1]
      unfold pu
      dsimp only
      rw [if_pos (by omega)]
def ac (st : List Int) (l : List Int) : List Int := l.foldl pu st
theorem ac_app (st l m : List Int) : ac st (l ++ m) = ac (ac st l) m := List.foldl_append
theorem ac_rdd : ∀ (l : List Int) {st : List Int}, Rdd st → Rdd (ac st l)
  | [], _, h => h
  | p :: l, _, h => ac_rdd l (pu_rdd p h)
theorem inv_app (l m : List Int) : inv (l ++ m) = inv m ++ inv l := by
  unfold inv
  rw [List.reverse_append, List.map_append]
theorem inv_cons (p : Int) (l : List Int) : inv (p :: l) = inv l ++ [-p] := by
  unfold inv
  rw [List.reverse_cons, List.map_append]
  rfl
theorem ac_inv : ∀ (l : List Int) {st : List Int}, Rdd st → ac (ac st l) (inv l) = st
  | [], _, _ => rfl
  | p :: l, st, h => by
    rw [inv_cons, ac_app]
    show ac (ac (ac (pu st p) l) (inv l)) [-p] = st
    rw [ac_inv l (pu_rdd p h)]
    exact pu_pu h
theorem ac_inv' (l : List Int) {st : List Int} (h : Rdd st) : ac (ac st (inv l)) l = st := by
  have := ac_inv (inv l) h
  rw [inv_inv] at this
  exact this
/-- the reduced list -/
def rdc (l : List Int) : List Int := (ac [] l).reverse
/-- a walk by any steps that undo each other -/
def fw (f : Int → List Int → List Int) (st : List Int) (l : List Int) : List Int := l.foldl (fun s p => f p s) st
theorem fw_app (f : Int → List Int → List Int) (st l m : List Int) : fw f st (l ++ m) = fw f (fw f st l) m := List.foldl_append
theorem fw_rdd {f : Int → List Int → List Int} (hR : ∀ p st, Rdd st → Rdd (f p st)) : ∀ (l : List Int) {st : List Int}, Rdd st → Rdd (fw f st l)
  | [], _, h => h
  | p :: l, _, h => fw_rdd hR l (hR p _ h)
theorem fw_red {f : Int → List Int → List Int} (hR : ∀ p st, Rdd st → Rdd (f p st)) (hc : ∀ p st, Rdd st → f (-p) (f p st) = st) : ∀ (l s st : List Int), Rdd st → fw f st (s.reverse ++ l) = fw f st (ac s l).reverse
  | [], s, st, _ => by
    rw [List.append_nil]
    rfl
  | p :: l, s, st, h => by
    have ih := fw_red hR hc l (pu s p) st h
    show _ = fw f st (ac (pu s p) l).reverse
    rw [← ih]
    cases s with
    | nil => rfl
    | cons q r =>
      by_cases e : q = -p
      · have e1 : pu (q :: r) p = r := if_pos e
        rw [e1, List.reverse_cons, List.append_assoc, fw_app, fw_app]
        show fw f (f p (f q (fw f st r.reverse))) l = _
        rw [e]
        have z := hc (-p) (fw f st r.reverse) (fw_rdd hR _ h)
        rw [show - -p = p by omega] at z
        rw [z, fw_app]
      · have e1 : pu (q :: r) p = p :: q :: r := if_neg e
        rw [e1, List.reverse_cons (a := p), List.append_assoc]
        rfl
theorem ac_fw (st l : List Int) : ac st l = fw (fun p s => pu s p) st l := rfl
theorem ac_rdc (l : List Int) {st : List Int} (h : Rdd st) : ac st (rdc l) = ac st l := by
  have := fw_red (f := fun p s => pu s p) (fun p st h => pu_rdd p h) (fun p st h => pu_pu h) l [] st h
  rw [ac_fw, ac_fw, rdc]
  exact this.symm
/-- two lists that reduce alike act alike -/
theorem ac_of_rdc {l m : List Int} (e : rdc l = rdc m) {st : List Int} (h : Rdd st) : ac st l = ac st m := by
  rw [← ac_rdc l h, ← ac_rdc m h, e]
theorem rdc_of_ac {l m : List Int} (e : ac [] l = ac [] m) : rdc l = rdc m := by unfold rdc; rw [e]
theorem ac_inv_eq {l m : List Int} (e : ∀ st, Rdd st → ac st l = ac st m) {st : List Int} (h : Rdd st) : ac st (inv l) = ac st (inv m) := by
  have h1 := ac_rdd (inv m) h
  have h2 := e _ h1
  rw [ac_inv' m h] at h2
  rw [← ac_inv l h1, h2]
/-! ### what a letter makes of a symbol -/
def im0 (k s : Int) : List Int := if s = ab k then (if k > 0 then [ab k, ab k + 1, -ab k] else [ab k + 1]) else if s = ab k + 1 then (if k > 0 then [ab k] else [-(ab k + 1), ab k, ab k + 1]) else [s]
def im (k s : Int) : List Int := if s < 0 then inv (im0 k (-s)) else im0 k s
theorem ab_nn (k : Int) : 0 ≤ ab k := by unfold ab; split <;> omega
theorem ab_pos' {k : Int} (h : k ≠ 0) : 0 < ab k := by unfold ab; split <;> omega
theorem im_neg {k : Int} (hk : k ≠ 0) (s : Int) : im k (-s) = inv (im k s) := by
  have hp := ab_pos' hk
  unfold im
  by_cases h : s < 0
  · rw [if_pos h, if_neg (by omega), inv_inv]
  · rw [if_neg h]
    by_cases h0 : s = 0
    · subst h0
      rw [if_neg (by omega)]
      unfold im0
      rw [show (-0 : Int) = 0 from rfl, if_neg (by omega), if_neg (by omega)]
      rfl
    · rw [if_pos (by omega), show - -s = s by omega]
def ph (k : Int) (l : List Int) : List Int := l.flatMap (im k)
theorem ph_cons (k p : Int) (l : List Int) : ph k (p :: l) = im k p ++ ph k l := List.flatMap_cons
theorem ph_app (k : Int) (l m : List Int) : ph k (l ++ m) = ph k l ++ ph k m := List.flatMap_append
theorem ph_inv {k : Int} (hk : k ≠ 0) : ∀ l : List Int, ph k (inv l) = inv (ph k l)
  | [] => rfl
  | p :: l => by
    rw [inv_cons, ph_app, ph_inv hk l, ph_cons k p l, inv_app, ph_cons, im_neg hk]
    show _ ++ (_ ++ []) = _
    rw [List.append_nil]
theorem ac_ph (k : Int) : ∀ (l st : List Int), ac st (ph k l) = fw (fun p s => ac s (im k p)) st l
  | [], st => rfl
  | p :: l, st => by
    rw [ph_cons, ac_app, ac_ph k l]
    rfl
theorem ac_ph_rdc {k : Int} (hk : k ≠ 0) (l : List Int) {st : List Int} (h : Rdd st) : ac st (ph k (rdc l)) = ac st (ph k l) := by
  have := fw_red (f := fun p s => ac s (im k p)) (fun p st h => ac_rdd _ h) (fun p st h => by
    show ac (ac st (im k p)) (im k (-p)) = st
    rw [im_neg hk]
    exact ac_inv _ h) l [] st h
  rw [ac_ph, ac_ph, rdc]
  exact this.symm
/-- a letter's map of reduced lists -/
def tm (k : Int) (l : List Int) : List Int := rdc (ph k l)
theorem tm_rdc {k : Int} (hk : k ≠ 0) (l : List Int) : tm k (rdc l) = tm k l := rdc_of_ac (ac_ph_rdc hk l trivial)
theorem rdc_rdc (l : List Int) : rdc (rdc l) = rdc l := rdc_of_ac (ac_rdc l trivial)
theorem tm_tm {j : Int} (hj : j ≠ 0) (k : Int) (l : List Int) : tm j (tm k l) = rdc (ph j (ph k l)) := tm_rdc hj (ph k l)
theorem tm_tm3 {i j : Int} (hi : i ≠ 0) (hj : j ≠ 0) (k : Int) (l : List Int) : tm i (tm j (tm k l)) = rdc (ph i (ph j (ph k l))) := by
  rw [tm_tm hj]
  exact tm_rdc hi _
/-- two maps of symbols that agree up to reduction at each symbol agree at each list -/
theorem fw_eq {g h : Int → List Int} (hg : ∀ p, g (-p) = inv (g p)) (hh : ∀ p, h (-p) = inv (h p)) (e : ∀ p, 0 ≤ p → rdc (g p) = rdc (h p)) : ∀ (l : List Int) {st : List Int}, Rdd st → ac st (l.flatMap g) = ac st (l.flatMap h)
  | [], _, _ => rfl
  | p :: l, st, hs => by
    have key : ac st (g p) = ac st (h p) := by
      by_cases hp : 0 ≤ p
      · exact ac_of_rdc (e p hp) hs
      · have := ac_inv_eq (l := g (-p)) (m := h (-p)) (fun st z => ac_of_rdc (e (-p) (by omega)) z) hs
        rw [hg, hh, inv_inv, inv_inv] at this
        exact this
    rw [List.flatMap_cons, List.flatMap_cons, ac_app, ac_app, key]
    exact fw_eq hg hh e l (ac_rdd _ hs)
theorem fm_ph (j k : Int) (l : List Int) : ph j (ph k l) = l.flatMap fun p => ph j (im k p) := by
  unfold ph
  rw [List.flatMap_assoc]
theorem fm_ph3 (i j k : Int) (l : List Int) : ph i (ph j (ph k l)) = l.flatMap fun p => ph i (ph j (im k p)) := by
  rw [fm_ph j k, ph, List.flatMap_assoc]
  rfl
theorem ab_p {k : Int} (h : 0 < k) : ab k = k := by unfold ab; rw [if_neg (by omega)]
theorem ab_n (k : Int) : ab (-k) = ab k := by unfold ab; split <;> split <;> omega
theorem im_lo {k : Int} (h : 0 < k) : im k k = [k, k + 1, -k] := by
  unfold im im0
  rw [if_neg (by omega), ab_p h, if_pos rfl, if_pos h]
theorem im_hi {k : Int} (h : 0 < k) : im k (k + 1) = [k] := by
  unfold im im0
  rw [if_neg (by omega), ab_p h, if_neg (by omega), if_pos rfl, if_pos h]
theorem im_loN {k : Int} (h : 0 < k) : im (-k) k = [k + 1] := by
  unfold im im0
  rw [if_neg (by omega), ab_n, ab_p h, if_pos rfl, if_neg (by omega)]
theorem im_hiN {k : Int} (h : 0 < k) : im (-k) (k + 1) = [-(k + 1), k, k + 1] := by
  unfold im im0
  rw [if_neg (by omega), ab_n, ab_p h, if_neg (by omega), if_pos rfl, if_neg (by omega)]
theorem im_ot {k s : Int} (hs : 0 ≤ s) (h1 : s ≠ ab k) (h2 : s ≠ ab k + 1) : im k s = [s] := by
  unfold im im0
  rw [if_neg (by omega), if_neg h1, if_neg h2]
theorem im_fix {k : Int} (hk : k ≠ 0) {s : Int} (h1 : ab s ≠ ab k) (h2 : ab s ≠ ab k + 1) : im k s = [s] := by
  by_cases hs : 0 ≤ s
  · refine im_ot hs (fun z => h1 ?_) (fun z => h2 ?_)
    · rw [← z]; unfold ab; rw [if_neg (by omega)]
    · rw [← z]; unfold ab; rw [if_neg (by omega)]
  · have e : im k (-s) = [-s] := im_ot (by omega) (fun z => h1 (by unfold ab at z ⊢; rw [if_pos (by omega)]; exact z)) (fun z => h2 (by unfold ab at z ⊢; rw [if_pos (by omega)]; exact z))
    have := im_neg hk (-s)
    rw [e, show - -s = s by omega] at this
    rw [this]
    show [- -s] = [s]
    rw [show - -s = s by omega]
theorem ph_inv2 {j k : Int} (hj : j ≠ 0) (hk : k ≠ 0) (p : Int) : ph j (im k (-p)) = inv (ph j (im k p)) := by rw [im_neg hk, ph_inv hj]
/-- a letter and its inverse -/
theorem tm_back {k : Int} (hk : k ≠ 0) (l : List Int) : tm k (tm (-k) l) = rdc l := by
  have hk' : -k ≠ 0 := by omega
  rw [tm_tm hk, fm_ph]
  have z : l = l.flatMap fun p => [p] := by induction l with
    | nil => rfl
    | cons a l ih => rw [List.flatMap_cons, ← ih]; rfl
  refine rdc_of_ac ?_
  conv => rhs; rw [z]
  refine fw_eq (fun p => ph_inv2 hk hk' p) (fun p => rfl) (fun p hp => ?_) l trivial
  have hab := ab_pos' hk
  have han := ab_n k
  by_cases h1 : p = ab k
  · subst h1
    by_cases hs : 0 < k
    · rw [ab_p hs, im_loN hs, ph_cons, im_hi hs]
      rfl
    · obtain ⟨m, rfl⟩ : ∃ m, k = -m := ⟨-k, by omega⟩
      have hm : 0 < m := by omega
      rw [ab_n, ab_p hm, show - -m = m by omega, im_lo hm, ph_cons, ph_cons, ph_cons, im_loN hm, im_hiN hm, im_neg hk, im_loN hm]
      show rdc ([m + 1] ++ ([-(m + 1), m, m + 1] ++ ([-(m + 1)] ++ []))) = rdc [m]
      unfold rdc ac
      simp only [List.cons_append, List.nil_append, List.foldl_cons, List.foldl_nil, pu]
      simp
      rw [if_neg (by omega)]
      simp
  · by_cases h2 : p = ab k + 1
    · subst h2
      by_cases hs : 0 < k
      · rw [ab_p hs, im_hiN hs, ph_cons, ph_cons, ph_cons, im_neg hk, im_hi hs, im_lo hs]
        show rdc ([-k] ++ ([k, k + 1, -k] ++ ([k] ++ []))) = rdc [k + 1]
        unfold rdc ac
        simp only [List.cons_append, List.nil_append, List.foldl_cons, List.foldl_nil, pu]
        simp
        rw [if_neg (by omega)]
        simp
      · obtain ⟨m, rfl⟩ : ∃ m, k = -m := ⟨-k, by omega⟩
        have hm : 0 < m := by omega
        rw [ab_n, ab_p hm, show - -m = m by omega, im_hi hm, ph_cons, im_loN hm]
        rfl
    · rw [im_ot hp (by rw [han]; exact h1) (by rw [han]; exact h2), ph_cons, im_ot hp h1 h2]
      rfl
/-- letters far from each other -/
theorem tm_swap {j k : Int} (hj : j ≠ 0) (hk : k ≠ 0) (h : ab (ab j - ab k) > 1) (l : List Int) : tm j (tm k l) = tm k (tm j l) := by
  rw [tm_tm hj, tm_tm hk, fm_ph, fm_ph]
  have aj := ab_pos' hj
  have ak := ab_pos' hk
  have hd : ab j > ab k + 1 ∨ ab k > ab j + 1 := by
    rw [show ab (ab j - ab k) = if ab j - ab k < 0 then -(ab j - ab k) else ab j - ab k from rfl] at h
    split at h <;> omega
  have key : ∀ {j k : Int}, j ≠ 0 → k ≠ 0 → (ab j > ab k + 1 ∨ ab k > ab j + 1) → ∀ p, 0 ≤ p → (p = ab k ∨ p = ab k + 1) → ph j (im k p) = im k p ∧ im j p = [p] := fun {j k} hj hk hd p hp hpk => by
    have ak := ab_pos' hk
    have aj := ab_pos' hj
    have f1 : ∀ s, ab s = ab k ∨ ab s = ab k + 1 → im j s = [s] := fun s hs => im_fix hj (by omega) (by omega)
    have e0 : ab (ab k) = ab k := ab_p ak
    have e1 : ab (ab k + 1) = ab k + 1 := ab_p (by omega)
    refine ⟨?_, f1 p (by rcases hpk with rfl | rfl <;> omega)⟩
    unfold im
    rw [if_neg (by omega)]
    unfold im0
    have g0 := f1 (ab k) (.inl e0)
    have g1 := f1 (ab k + 1) (.inr e1)
    have g2 := f1 (-ab k) (.inl (by rw [ab_n]; exact e0))
    have g3 := f1 (-(ab k + 1)) (.inr (by rw [ab_n]; exact e1))
    rcases hpk with rfl | rfl
    · rw [if_pos rfl]
      by_cases s : k > 0
      · rw [if_pos s, ph_cons, ph_cons, ph_cons, g0, g1, g2]
        rfl
      · rw [if_neg s, ph_cons, g1]
        rfl
    · rw [if_neg (by omega), if_pos rfl]
      by_cases s : k > 0
      · rw [if_pos s, ph_cons, g0]
        rfl
      · rw [if_neg s, ph_cons, ph_cons, ph_cons, g0, g1, g3]
        rfl
  refine rdc_of_ac (fw_eq (fun p => ph_inv2 hj hk p) (fun p => ph_inv2 hk hj p) (fun p hp => ?_) l trivial)
  have c1 : ∀ k : Int, ∀ p : Int, ph k [p] = im k p := fun k p => by rw [ph_cons]; exact List.append_nil _
  by_cases h1 : p = ab k ∨ p = ab k + 1
  · have := key hj hk hd p hp h1
    rw [this.1, this.2, c1]
  · by_cases h2 : p = ab j ∨ p = ab j + 1
    · have := key hk hj (by omega) p hp h2
      rw [this.1, this.2, c1]
    · have e1 : im k p = [p] := im_ot hp (fun z => h1 (.inl z)) (fun z => h1 (.inr z))
      have e2 : im j p = [p] := im_ot hp (fun z => h2 (.inl z)) (fun z => h2 (.inr z))
      rw [e1, e2, c1, c1, e1, e2]
theorem tm_brd {m : Int} (hm : 0 < m) (l : List Int) : tm m (tm (m + 1) (tm m l)) = tm (m + 1) (tm m (tm (m + 1) l)) := by
  have h0 : m ≠ 0 := by omega
  have h1 : m + 1 ≠ 0 := by omega
  have hn : 0 < m + 1 := by omega
  rw [tm_tm3 h0 h1, tm_tm3 h1 h0, fm_ph3, fm_ph3]
  refine rdc_of_ac (fw_eq (fun p => by rw [im_neg h0, ph_inv h1, ph_inv h0]) (fun p => by rw [im_neg h1, ph_inv h0, ph_inv h1]) (fun p hp => ?_) l trivial)
  have a0 := ab_p hm
  have a1 := ab_p hn
  have c1 : ∀ k : Int, ∀ p : Int, ph k [p] = im k p := fun k p => by rw [ph_cons]; exact List.append_nil _
  have f0 : im (m + 1) m = [m] := im_ot (by omega) (by omega) (by omega)
  have f2 : im m (m + 1 + 1) = [m + 1 + 1] := im_ot (by omega) (by omega) (by omega)
  have n0 : im (m + 1) (-m) = [-m] := by rw [im_neg h1, f0]; rfl
  have n1 : im m (-m) = [m, -(m + 1), -m] := by rw [im_neg h0, im_lo hm]; show [- -m, _, _] = _; rw [show - -m = m by omega]
  have n2 : im m (-(m + 1)) = [-m] := by rw [im_neg h0, im_hi hm]; rfl
  by_cases e0 : p = m
  · subst e0
    rw [im_lo hm, f0, c1, im_lo hm, ph_cons, ph_cons, ph_cons, f0, n0, im_lo hn]
    show rdc (ph p [p, p + 1, p + 1 + 1, -(p + 1), -p]) = rdc [p, p + 1, p + 1 + 1, -(p + 1), -p]
    rw [ph_cons, ph_cons, ph_cons, ph_cons, ph_cons, im_lo hm, im_hi hm, f2, n1, n2]
    show rdc ([p, p + 1, -p] ++ ([p] ++ ([p + 1 + 1] ++ ([-p] ++ ([p, -(p + 1), -p] ++ []))))) = _
    unfold rdc ac
    simp only [List.cons_append, List.nil_append, List.foldl_cons, List.foldl_nil, pu]
    simp [show ¬ (p = -(p + 1)) by omega, show ¬ (p + 1 = - -p) by omega, show ¬ (p + 1 = -(p + 1 + 1)) by omega, show ¬ (p + 1 + 1 = -p) by omega, show ¬ (p + 1 + 1 = - -p) by omega, show ¬(p + 1 + 1 = - -(p+1)) by omega, show ¬ (-(p+1) = - - p) by omega, show p + 1 ≠ p by omega, show p + 1 + 1 ≠ p + 1 by omega, show p+1+1 ≠ p by omega, show -(p+1) ≠ p by omega]
  · by_cases e1 : p = m + 1
    · subst e1
      rw [im_hi hm, c1, f0, c1, im_lo hm, im_lo hn, ph_cons, ph_cons, ph_cons, im_hi hm, f2, n2]
      show _ = rdc (ph (m + 1) [m, m + 1 + 1, -m])
      rw [ph_cons, ph_cons, ph_cons, f0, im_hi hn, n0]
      rfl
    · by_cases e2 : p = m + 1 + 1
      · subst e2
        rw [f2, c1, im_hi hn, c1, im_hi hm, c1, f0]
      · have g0 : im m p = [p] := im_ot hp (by omega) (by omega)
        have g1 : im (m + 1) p = [p] := im_ot hp (by omega) (by omega)
        rw [g0, c1, g1, c1, g0, c1, g1]
/-! ### the image of a word -/
def img (w : List Int) (l : List Int) : List Int := w.foldr tm l
theorem img_app (u v l : List Int) : img (u ++ v) l = img u (img v l) := List.foldr_append
def Rl (l : List Int) : Prop := rdc l = l
theorem tm_rl (k : Int) (l : List Int) : Rl (tm k l) := rdc_rdc _
theorem img_rl : ∀ (w : List Int) {l : List Int}, Rl l → Rl (img w l)
  | [], _, h => h
  | k :: _, _, _ => tm_rl k _
theorem rl_one (s : Int) : Rl [s] := rfl
/-- two words whose images agree -/
def Eqv (u v : List Int) : Prop := ∀ l, Rl l → img u l = img v l
theorem Eqv.refl (u : List Int) : Eqv u u := fun _ _ => rfl
theorem Eqv.trans {u v x : List Int} (a : Eqv u v) (b : Eqv v x) : Eqv u x := fun l h => (a l h).trans (b l h)
theorem Eqv.symm {u v : List Int} (a : Eqv u v) : Eqv v u := fun l h => (a l h).symm
theorem Eqv.in {u v : List Int} (a b : List Int) (e : Eqv u v) : Eqv (a ++ u ++ b) (a ++ v ++ b) := fun l h => by
  rw [img_app, img_app, img_app, img_app, e _ (img_rl b h)]
theorem tm_back' {k : Int} (hk : k ≠ 0) (l : List Int) : tm (-k) (tm k l) = rdc l := by
  have := tm_back (k := -k) (by omega) l
  rw [show - -k = k by omega] at this
  exact this
theorem eqv_ins {k : Int} (hk : k ≠ 0) : Eqv [] [k, -k] := fun l h => ((tm_back hk l).trans h).symm
theorem eqv_swap {j k : Int} (hj : j ≠ 0) (hk : k ≠ 0) (h : ab (ab j - ab k) > 1) : Eqv [j, k] [k, j] := fun l _ => tm_swap hj hk h l
section
variable {X X' Y Y' : List Int → List Int} (rx : ∀ l, Rl (X l)) (rx' : ∀ l, Rl (X' l)) (ry : ∀ l, Rl (Y l)) (ry' : ∀ l, Rl (Y' l))
  (xx : ∀ l, Rl l → X (X' l) = l) (xx' : ∀ l, Rl l → X' (X l) = l) (yy : ∀ l, Rl l → Y (Y' l) = l) (yy' : ∀ l, Rl l → Y' (Y l) = l) (b : ∀ l, X (Y (X l)) = Y (X (Y l)))
include rx rx' ry ry' xx xx' yy yy' b
theorem br1 {l : List Int} (h : Rl l) : X (Y (X' l)) = Y' (X (Y l)) := by
  have e := xx l h
  generalize X' l = k at *
  subst e
  rw [b, yy' _ (rx _)]
theorem br2 {l : List Int} (h : Rl l) : X' (Y (X l)) = Y (X (Y' l)) := by
  have e := yy l h
  generalize Y' l = k at *
  subst e
  rw [← b, xx' _ (ry _)]
theorem br3 {l : List Int} (h : Rl l) : X (Y' (X' l)) = Y' (X' (Y l)) := by
  have e := xx l h
  have hk := rx' l
  generalize X' l = k at *
  subst e
  have e := yy k hk
  generalize Y' k = j at *
  subst e
  rw [← b, xx' _ (ry _), yy' _ (rx _)]
theorem br4 {l : List Int} (h : Rl l) : X' (Y' (X l)) = Y (X' (Y' l)) := by
  have e := yy l h
  have hk := ry' l
  generalize Y' l = k at *
  subst e
  have e := xx k hk
  generalize X' k = j at *
  subst e
  rw [b, yy' _ (rx _), xx' _ (ry _)]
theorem br5 {l : List Int} (h : Rl l) : X' (Y' (X' l)) = Y' (X' (Y' l)) := by
  have e : X (Y (X (X' (Y' (X' l))))) = l := by rw [xx _ (ry' _), yy _ (rx' _), xx _ h]
  have hi := rx' (Y' (X' l))
  generalize X' (Y' (X' l)) = i at *
  rw [← e, b, yy' _ (rx _), xx' _ (ry _), yy' _ hi]
end
theorem tm_brd' {j k : Int} (hj : 0 < j) (hk : 0 < k) (h : ab (j - k) = 1) (l : List Int) : tm j (tm k (tm j l)) = tm k (tm j (tm k l)) := by
  have hd : k = j + 1 ∨ j = k + 1 := by
    unfold ab at h
    split at h <;> omega
  rcases hd with rfl | rfl
  · exact tm_brd hj l
  · exact (tm_brd hk l).symm
/-- what the law makes of three letters -/
def brd (a b c : Int) : Option (List Int) := if ab c ≠ ab a ∨ ab (ab a - ab b) ≠ 1 then none else if c = 0 - a then some [0 - lsg a * ab b, lsg b * ab a, lsg a * ab b] else if lsg b = lsg a then some [b, a, b] else none
theorem sgn_ab {a : Int} (h : a ≠ 0) : (0 < a ∧ a = ab a ∧ lsg a = 1) ∨ (a < 0 ∧ a = -ab a ∧ lsg a = -1) := by
  unfold ab lsg
  by_cases z : 0 < a
  · left
    refine ⟨z, ?_, if_pos z⟩
    rw [if_neg (by omega)]
  · right
    refine ⟨by omega, ?_, if_neg z⟩
    rw [if_pos (by omega)]
    omega
theorem eqv_brd {a b c : Int} (ha : a ≠ 0) (hb : b ≠ 0) {r : List Int} (e : brd a b c = some r) : Eqv [a, b, c] r := by
  intro l hl
  have pa := ab_pos' ha
  have pb := ab_pos' hb
  unfold brd at e
  by_cases h1 : ab c ≠ ab a ∨ ab (ab a - ab b) ≠ 1
  · rw [if_pos h1] at e
    cases e
  rw [if_neg h1] at e
  have hc : ab c = ab a := Classical.byContradiction fun z => h1 (.inl z)
  have hd : ab (ab a - ab b) = 1 := Classical.byContradiction fun z => h1 (.inr z)
  have bb := fun l => tm_brd' pa pb hd l
  have sa := sgn_ab ha
  have sb := sgn_ab hb
  have hc' : c = 0 - a ∨ c = a := by
    have hc := hc
    unfold ab at hc
    split at hc <;> split at hc <;> omega
  clear h1 hc hd
  generalize ab a = x at *
  generalize ab b = y at *
  have x0 : x ≠ 0 := by omega
  have y0 : y ≠ 0 := by omega
  have x1 := fun l => tm_rl x l
  have x2 := fun l => tm_rl (-x) l
  have y1 := fun l => tm_rl y l
  have y2 := fun l => tm_rl (-y) l
  have xx := fun l (h : Rl l) => (tm_back x0 l).trans h
  have xx' := fun l (h : Rl l) => (tm_back' x0 l).trans h
  have yy := fun l (h : Rl l) => (tm_back y0 l).trans h
  have yy' := fun l (h : Rl l) => (tm_back' y0 l).trans h
  by_cases hz : c = 0 - a
  · rw [if_pos hz] at e
    cases e
    rcases sa with ⟨_, ea, la⟩ | ⟨_, ea, la⟩ <;> rcases sb with ⟨_, eb, lb⟩ | ⟨_, eb, lb⟩ <;> rw [la, lb]
    · rw [hz, ea, eb, show 0 - x = -x by omega, show 0 - 1 * y = -y by omega, Int.one_mul, Int.one_mul]
      exact br1 x1 x2 y1 y2 xx xx' yy yy' bb hl
    · rw [hz, ea, eb, show 0 - x = -x by omega, show 0 - 1 * y = -y by omega, show -1 * x = -x by omega, Int.one_mul]
      exact br3 x1 x2 y1 y2 xx xx' yy yy' bb hl
    · rw [hz, ea, eb, show 0 - -x = x by omega, show 0 - -1 * y = y by omega, show -1 * y = -y by omega, Int.one_mul]
      exact br2 x1 x2 y1 y2 xx xx' yy yy' bb hl
    · rw [hz, ea, eb, show 0 - -x = x by omega, show 0 - -1 * y = y by omega, show -1 * y = -y by omega, show -1 * x = -x by omega]
      exact br4 x1 x2 y1 y2 xx xx' yy yy' bb hl
  · rw [if_neg hz] at e
    have ec : c = a := hc'.resolve_left hz
    rcases sa with ⟨_, ea, la⟩ | ⟨_, ea, la⟩ <;> rcases sb with ⟨_, eb, lb⟩ | ⟨_, eb, lb⟩ <;> rw [la, lb] at e
    · rw [if_pos rfl] at e
      cases e
      rw [ec, ea, eb]
      exact bb l
    · rw [if_neg (by omega)] at e
      cases e
    · rw [if_neg (by omega)] at e
      cases e
    · rw [if_pos rfl] at e
      cases e
      rw [ec, ea, eb]
      exact br5 x1 x2 y1 y2 xx xx' yy yy' bb hl
/-! ### the law's moves -/
def mvC (ns : List Int) (i : Nat) : Option (List Int) := match ns[i]?, ns[i + 1]? with
  | some a, some b => if a = 0 - b then some [] else none
  | _, _ => none
def mvS (ns : List Int) (i : Nat) : Option (List Int) := match ns[i]?, ns[i + 1]? with
  | some a, some b => if ab (ab a - ab b) > 1 then some [b, a] else none
  | _, _ => none
def mvB (ns : List Int) (i : Nat) : Option (List Int) := match ns[i]?, ns[i + 1]?, ns[i + 2]? with
  | some a, some b, some c => brd a b c
  | _, _, _ => none
/-- the word of a move: 0 cancel, 1 swap, 2 braid -/
def mvK (w : Nat) (ns : List Int) (i : Nat) : Option (List Int) := if w = 0 then mvC ns i else if w = 1 then mvS ns i else mvB ns i
def mvN (w : Nat) : Nat := if w = 0 then 2 else if w = 1 then 2 else 3
def mvF (w : Nat) (ns : List Int) (i : Nat) : Option (List Int) := (mvK w ns i).map fun m => ns.take i ++ m ++ ns.drop (i + mvN w)
theorem split2' {ts : List Int} {j : Nat} {a b : Int} (ha : ts[j]? = some a) (hb : ts[j + 1]? = some b) : ts = ts.take j ++ [a, b] ++ ts.drop (j + 2) := by
  have h1 := (List.getElem?_eq_some_iff.mp ha).1
  have h2 := (List.getElem?_eq_some_iff.mp hb).1
  have e1 : ts[j] = a := (List.getElem?_eq_some_iff.mp ha).2
  have e2 : ts[j + 1] = b := (List.getElem?_eq_some_iff.mp hb).2
  have h3 : ts.drop j = [a, b] ++ ts.drop (j + 2) := by
    rw [List.drop_eq_getElem_cons h1, List.drop_eq_getElem_cons h2, e1, e2]
    rfl
  calc ts = ts.take j ++ ts.drop j := (List.take_append_drop j ts).symm
    _ = _ := by rw [h3, List.append_assoc]
theorem split3' {ts : List Int} {j : Nat} {a b c : Int} (ha : ts[j]? = some a) (hb : ts[j + 1]? = some b) (hc : ts[j + 2]? = some c) : ts = ts.take j ++ [a, b, c] ++ ts.drop (j + 3) := by
  have h3 := (List.getElem?_eq_some_iff.mp hc).1
  have e3 : ts[j + 2] = c := (List.getElem?_eq_some_iff.mp hc).2
  have e := split2' ha hb
  rw [List.drop_eq_getElem_cons h3, e3] at e
  calc ts = _ := e
    _ = _ := by simp
theorem mvF_eqv {w : Nat} {ns : List Int} {i : Nat} {r : List Int} (h0 : ∀ n ∈ ns, n ≠ 0) (e : mvF w ns i = some r) : Eqv ns r := by
  unfold mvF at e
  obtain ⟨m, e1, rfl⟩ := Option.map_eq_some_iff.mp e
  unfold mvK at e1
  by_cases w0 : w = 0
  · subst w0
    rw [if_pos rfl] at e1
    unfold mvC at e1
    cases ha : ns[i]? with
    | none => rw [ha] at e1; cases e1
    | some a =>
      cases hb : ns[i + 1]? with
      | none => rw [ha, hb] at e1; cases e1
      | some b =>
        rw [ha, hb] at e1
        dsimp only at e1
        by_cases z : a = 0 - b
        · rw [if_pos z] at e1
          cases e1
          have z2 : b = -a := by omega
          have := (eqv_ins (h0 a (List.mem_of_getElem? ha))).in (ns.take i) (ns.drop (i + 2))
          rw [← z2, ← split2' ha hb] at this
          exact this.symm
        · rw [if_neg z] at e1; cases e1
  rw [if_neg w0] at e1
  by_cases w1 : w = 1
  · subst w1
    rw [if_pos rfl] at e1
    unfold mvS at e1
    cases ha : ns[i]? with
    | none => rw [ha] at e1; cases e1
    | some a =>
      cases hb : ns[i + 1]? with
      | none => rw [ha, hb] at e1; cases e1
      | some b =>
        rw [ha, hb] at e1
        dsimp only at e1
        by_cases z : ab (ab a - ab b) > 1
        · rw [if_pos z] at e1
          cases e1
          have := (eqv_swap (h0 a (List.mem_of_getElem? ha)) (h0 b (List.mem_of_getElem? hb)) z).in (ns.take i) (ns.drop (i + 2))
          rw [← split2' ha hb] at this
          exact this
        · rw [if_neg z] at e1; cases e1
  rw [if_neg w1] at e1
  unfold mvB at e1
  cases ha : ns[i]? with
  | none => rw [ha] at e1; cases e1
  | some a =>
    cases hb : ns[i + 1]? with
    | none => rw [ha, hb] at e1; cases e1
    | some b =>
      cases hc : ns[i + 2]? with
      | none => rw [ha, hb, hc] at e1; cases e1
      | some c =>
        rw [ha, hb, hc] at e1
        have := (eqv_brd (h0 a (List.mem_of_getElem? ha)) (h0 b (List.mem_of_getElem? hb)) e1).in (ns.take i) (ns.drop (i + 3))
        rw [← split3' ha hb hc] at this
        rw [show mvN w = 3 by unfold mvN; rw [if_neg w0, if_neg w1]]
        exact this
/-! ### a word with 1 and without -1 takes 1 to what ends with -1 -/
theorem rdd_snoc : ∀ {l : List Int} {b : Int}, Rdd l → (∀ a, l.getLast? = some a → a ≠ -b) → Rdd (l ++ [b])
  | [], _, _, _ => trivial
  | [a], b, _, h => ⟨h a rfl, trivial⟩
  | a :: c :: l, b, h, z => ⟨h.1, rdd_snoc h.2 fun x hx => z x (by rw [List.getLast?_cons_cons]; exact hx)⟩
theorem rdd_rev : ∀ {l : List Int}, Rdd l → Rdd l.reverse
  | [], _ => trivial
  | a :: l, h => by
    rw [List.reverse_cons]
    refine rdd_snoc (rdd_rev h.tl) fun x hx => ?_
    rw [List.getLast?_reverse] at hx
    cases l with
    | nil => cases hx
    | cons c l =>
      cases hx
      have := h.1
      omega
theorem ac_flat : ∀ {x st : List Int}, Rdd x → (∀ p q, x.head? = some p → st.head? = some q → q ≠ -p) → ac st x = x.reverse ++ st
  | [], _, _, _ => rfl
  | p :: x, st, h, z => by
    have e : pu st p = p :: st := by
      cases st with
      | nil => rfl
      | cons q r => exact if_neg (z p q rfl rfl)
    show ac (pu st p) x = _
    rw [e, ac_flat h.tl fun p' q e1 e2 => ?_, List.reverse_cons, List.append_assoc]
    · rfl
    · cases e2
      cases x with
      | nil => cases e1
      | cons a x =>
        cases e1
        exact h.1
theorem rl_rdd {l : List Int} (h : Rl l) : Rdd l := by
  have h1 := ac_rdd l (st := []) trivial
  have h2 := rdd_rev h1
  have h : rdc l = l := h
  unfold rdc at h
  rw [h] at h2
  exact h2
theorem rdd_rl {l : List Int} (h : Rdd l) : Rl l := by
  show rdc l = l
  unfold rdc
  rw [ac_flat h fun _ _ _ z => (by cases z), List.append_nil, List.reverse_reverse]
theorem rdd_left : ∀ {l m : List Int}, Rdd (l ++ m) → Rdd l
  | [], _, _ => trivial
  | [_], _, _ => trivial
  | _ :: b :: l, m, h => ⟨h.1, rdd_left (l := b :: l) h.2⟩
theorem rdd_right : ∀ {l m : List Int}, Rdd (l ++ m) → Rdd m
  | [], _, h => h
  | _ :: l, m, h => rdd_right (l := l) (Rdd.tl h)
/-- how often a magnitude stands in a list -/
def cn (q : Int) (l : List Int) : Nat := l.countP fun x => decide (ab x = ab q)
theorem cn_app (q : Int) (l m : List Int) : cn q (l ++ m) = cn q l + cn q m := List.countP_append
theorem cn_pu (q : Int) (st : List Int) (p : Int) : cn q (pu st p) ≤ cn q st + cn q [p] := by
  cases st with
  | nil =>
    show cn q [p] ≤ cn q [] + cn q [p]
    omega
  | cons a r =>
    by_cases e : a = -p
    · rw [show pu (a :: r) p = r from if_pos e, show a :: r = [a] ++ r from rfl, cn_app]
      omega
    · rw [show pu (a :: r) p = p :: a :: r from if_neg e, show p :: a :: r = [p] ++ (a :: r) from rfl, cn_app]
      omega
theorem cn_ac (q : Int) : ∀ (l st : List Int), cn q (ac st l) ≤ cn q st + cn q l
  | [], _ => Nat.le_refl _
  | p :: l, st => by
    have h1 := cn_ac q l (pu st p)
    have h2 := cn_pu q st p
    rw [show p :: l = [p] ++ l from rfl, cn_app]
    show cn q (ac (pu st p) l) ≤ _
    omega
theorem cn_rev (q : Int) (l : List Int) : cn q l.reverse = cn q l := List.countP_reverse
theorem ab_ab (k : Int) : ab (ab k) = ab k := by
  have := ab_nn k
  rw [show ab (ab k) = if ab k < 0 then -ab k else ab k from rfl, if_neg (by omega)]
theorem cn_im {k q : Int} (hk : k ≠ 0) (h1 : ab q ≠ ab k) (h2 : ab q ≠ ab k + 1) (s : Int) : cn q (im k s) = cn q [s] := by
  have hp := ab_pos' hk
  have e0 : ab (ab k) = ab k := ab_ab k
  have e1 : ab (ab k + 1) = ab k + 1 := ab_p (by omega)
  have key : ∀ s, cn q (im0 k s) = cn q [s] := fun s => by
    unfold im0
    by_cases z1 : s = ab k
    · rw [if_pos z1]
      have : cn q [s] = 0 := by
        unfold cn
        simp [z1, e0, Ne.symm h1]
      rw [this]
      split
      · unfold cn
        simp [ab_n, e0, e1, Ne.symm h1, Ne.symm h2]
      · unfold cn
        simp [ab_n, e0, e1, Ne.symm h1, Ne.symm h2]
    · rw [if_neg z1]
      by_cases z2 : s = ab k + 1
      · rw [if_pos z2]
        have : cn q [s] = 0 := by
          unfold cn
          simp [z2, e1, Ne.symm h2]
        rw [this]
        split
        · unfold cn
          simp [ab_n, e0, e1, Ne.symm h1, Ne.symm h2]
        · unfold cn
          simp only [List.countP_cons, List.countP_nil, ab_n, e0, e1, decide_eq_false (Ne.symm h1), decide_eq_false (Ne.symm h2)]
          rfl
      · rw [if_neg z2]
  have kinv : ∀ l, cn q (inv l) = cn q l := fun l => by
    unfold inv cn
    rw [List.countP_map, List.countP_reverse]
    refine List.countP_congr fun x _ => ?_
    show decide (ab (-x) = ab q) = true ↔ _
    rw [ab_n]
  unfold im
  split
  · rw [kinv, key]
    unfold cn
    simp only [List.countP_cons, ab_n]
  · exact key s
theorem cn_ph {k q : Int} (hk : k ≠ 0) (h1 : ab q ≠ ab k) (h2 : ab q ≠ ab k + 1) : ∀ l : List Int, cn q (ph k l) = cn q l
  | [] => rfl
  | p :: l => by rw [ph_cons, cn_app, cn_im hk h1 h2, cn_ph hk h1 h2 l, show p :: l = [p] ++ l from rfl, cn_app]
theorem cn_tm {k q : Int} (hk : k ≠ 0) (h1 : ab q ≠ ab k) (h2 : ab q ≠ ab k + 1) {l : List Int} (h : Rl l) : cn q (tm k l) = cn q l := by
  have le : ∀ {k : Int}, k ≠ 0 → ab q ≠ ab k → ab q ≠ ab k + 1 → ∀ l, cn q (tm k l) ≤ cn q l := fun {k} hk h1 h2 l => by
    have := cn_ac q (ph k l) []
    rw [cn_ph hk h1 h2 l] at this
    unfold tm rdc
    rw [cn_rev]
    have e : cn q [] = 0 := rfl
    omega
  have a := le hk h1 h2 l
  have b := le (k := -k) (by omega) (by rw [ab_n]; exact h1) (by rw [ab_n]; exact h2) (tm k l)
  rw [tm_back' hk, show rdc l = l from h] at b
  omega
/-- a letter that the map fixes stays at the end -/
theorem tm_last {k q : Int} (hk : k ≠ 0) (h1 : ab q ≠ ab k) (h2 : ab q ≠ ab k + 1) {u : List Int} (h : Rl (u ++ [q])) : ac [] (ph k (u ++ [q])) = q :: ac [] (ph k u) := by
  have e : ac [] (ph k (u ++ [q])) = pu (ac [] (ph k u)) q := by
    rw [ph_app, ac_app, ph_cons, im_fix hk h1 h2]
    rfl
  rw [e]
  cases z : ac [] (ph k u) with
  | nil => rfl
  | cons a r =>
    by_cases ea : a = -q
    · exfalso
      have c1 := cn_tm hk h1 h2 h
      have c2 := cn_ac q (ph k u) []
      rw [cn_ph hk h1 h2 u, z] at c2
      unfold tm rdc at c1
      rw [e, z, show pu (a :: r) q = r from if_pos ea, cn_rev, cn_app] at c1
      have c3 : cn q (a :: r) = cn q r + 1 := by
        unfold cn
        rw [List.countP_cons_of_pos]
        rw [ea, ab_n]
        exact decide_eq_true rfl
      have c4 : cn q [] = 0 := rfl
      omega
    · exact if_neg ea
def sw (x : Int) : Int := if x = 1 then 2 else if x = 2 then 1 else if x = -1 then -2 else if x = -2 then -1 else x
theorem sw_ne {a b : Int} (h : a ≠ -b) : sw a ≠ -sw b := by
  unfold sw
  repeat' split
  all_goals omega
theorem rdd_sw : ∀ {l : List Int}, Rdd l → Rdd (l.map sw)
  | [], _ => trivial
  | [_], _ => trivial
  | a :: b :: l, h => ⟨sw_ne h.1, rdd_sw (l := b :: l) h.2⟩
theorem ac_sw1 {p : Int} (hp : ab p = 1 ∨ ab p = 2) {st : List Int} (h : Rdd st) : ac st (im 1 p) = ac st [1, sw p, -1] := by
  have hc : p = 1 ∨ p = 2 ∨ p = -1 ∨ p = -2 := by
    unfold ab at hp
    split at hp <;> omega
  rcases hc with rfl | rfl | rfl | rfl <;> exact ac_of_rdc (by decide) h
theorem ac_sw : ∀ {v st : List Int}, (∀ p ∈ v, ab p = 1 ∨ ab p = 2) → Rdd st → ac st (ph 1 v) = ac st ([1] ++ v.map sw ++ [-1])
  | [], st, _, h => (ac_inv [1] h).symm
  | p :: v, st, hv, h => by
    have h2 : Rdd (ac st [1, sw p]) := ac_rdd _ h
    rw [ph_cons, ac_app, ac_sw1 (hv p List.mem_cons_self) h, ac_sw (fun q hq => hv q (List.mem_cons_of_mem _ hq)) (ac_rdd _ h)]
    show ac (ac (ac st [1, sw p]) [-1]) ([1] ++ v.map sw ++ [-1]) = ac (ac st [1, sw p]) (v.map sw ++ [-1])
    rw [List.append_assoc, ac_app _ [1]]
    have := ac_inv [-1] h2
    rw [show inv [-1] = [1] from rfl] at this
    rw [this]
theorem cut_sw : ∀ u : List Int, ∃ u' v, u = u' ++ v ∧ (∀ p ∈ v, ab p = 1 ∨ ab p = 2) ∧ (u' = [] ∨ ∃ u'' q, u' = u'' ++ [q] ∧ ab q ≠ 1 ∧ ab q ≠ 2)
  | [] => ⟨[], [], rfl, fun _ h => (nomatch h), .inl rfl⟩
  | a :: t => by
    obtain ⟨u', v, e, hv, h⟩ := cut_sw t
    rcases h with rfl | ⟨u'', q, rfl, hq⟩
    · by_cases ha : ab a = 1 ∨ ab a = 2
      · refine ⟨[], a :: v, by rw [e]; rfl, fun p hp => ?_, .inl rfl⟩
        rcases List.mem_cons.mp hp with rfl | hp
        · exact ha
        · exact hv p hp
      · exact ⟨[a], v, by rw [e]; rfl, hv, .inr ⟨[], a, rfl, fun z => ha (.inl z), fun z => ha (.inr z)⟩⟩
    · exact ⟨a :: (u'' ++ [q]), v, by rw [e]; rfl, hv, .inr ⟨a :: u'', q, rfl, hq⟩⟩
/-- the last one of a list is -1 -/
def E1 (l : List Int) : Prop := ∃ u, l = u ++ [-1]
theorem e1_far {k : Int} (hk : 1 < ab k) {l : List Int} (h : Rl l) (he : E1 l) : E1 (tm k l) := by
  obtain ⟨u, rfl⟩ := he
  have k0 : k ≠ 0 := fun z => by
    subst z
    exact absurd hk (by decide)
  have := tm_last (q := -1) k0 (by rw [show ab (-1) = 1 from rfl]; omega) (by rw [show ab (-1) = 1 from rfl]; omega) h
  unfold tm rdc
  rw [this, List.reverse_cons]
  exact ⟨_, rfl⟩
theorem e1_one {l : List Int} (h : Rl l) (he : E1 l) : E1 (tm 1 l) := by
  obtain ⟨u, rfl⟩ := he
  obtain ⟨u', v, rfl, hv, hu⟩ := cut_sw u
  have hr := rl_rdd h
  have hS : ∀ q, (ac [] (ph 1 u')).head? = some q → ab q ≠ 1 ∧ ab q ≠ 2 := by
    rcases hu with rfl | ⟨u'', q, rfl, q1, q2⟩
    · intro q z
      cases z
    · intro q' z
      have hR : Rl (u'' ++ [q]) := by
        rw [List.append_assoc] at hr
        exact rdd_rl (rdd_left hr)
      rw [tm_last (by decide) (by rw [show ab 1 = 1 from rfl]; exact q1) (by rw [show ab 1 = 1 from rfl]; exact q2) hR] at z
      cases z
      exact ⟨q1, q2⟩
  have hv' : ∀ p ∈ v ++ [-1], ab p = 1 ∨ ab p = 2 := fun p hp => by
    rcases List.mem_append.mp hp with hp | hp
    · exact hv p hp
    · rw [List.mem_singleton.mp hp]
      exact .inl rfl
  have hx : Rdd ((v ++ [-1]).map sw) := by
    rw [List.append_assoc] at hr
    exact rdd_sw (rdd_right hr)
  have e : ac [] (ph 1 (u' ++ v ++ [-1])) = ac (ac [] (ph 1 u')) ([1] ++ (v ++ [-1]).map sw ++ [-1]) := by
    rw [List.append_assoc, ph_app, ac_app, ac_sw hv' (ac_rdd (st := []) _ trivial)]
  have hxl : (v ++ [-1]).map sw = v.map sw ++ [-2] := by
    rw [List.map_append]
    rfl
  have hm : ∀ p ∈ (v ++ [-1]).map sw, ab p = 1 ∨ ab p = 2 := fun p hp => by
    obtain ⟨q, hq, rfl⟩ := List.mem_map.mp hp
    have := hv' q hq
    unfold ab sw at *
    repeat' split
    all_goals omega
  generalize ac [] (ph 1 u') = S at *
  have e1 : ac S [1] = 1 :: S := ac_flat (x := [1]) trivial fun p q e1 e2 => by
    cases e1
    have := (hS q e2).1
    intro z
    subst z
    exact this rfl
  have fin : ∀ y : List Int, ac S ([1] ++ (v ++ [-1]).map sw) = -2 :: y → E1 (tm 1 (u' ++ v ++ [-1])) := fun y z => by
    unfold tm rdc
    rw [e, ac_app, z, show ac (-2 :: y) [-1] = -1 :: -2 :: y from rfl, List.reverse_cons]
    exact ⟨_, rfl⟩
  rw [ac_app, e1] at fin
  cases hc : (v ++ [-1]).map sw with
  | nil =>
    rw [hxl] at hc
    exact absurd hc (by simp)
  | cons p x =>
    by_cases hp : p = -1
    · subst hp
      rw [hc] at fin hx hxl hm
      cases x with
      | nil =>
        cases v with
        | nil => cases hxl
        | cons a v => exact absurd (congrArg List.length hxl) (by simp)
      | cons p2 x =>
        have e2 : ac (1 :: S) (-1 :: p2 :: x) = (p2 :: x).reverse ++ S := by
          show ac (pu (1 :: S) (-1)) (p2 :: x) = _
          rw [show pu (1 :: S) (-1) = S from rfl]
          refine ac_flat hx.2 fun p q e1 e2 => ?_
          cases e1
          have h1 := hS q e2
          have h2 := hm p2 (List.mem_cons_of_mem _ List.mem_cons_self)
          intro z
          rw [z, ab_n] at h1
          omega
        cases v with
        | nil => cases hxl
        | cons a v =>
          have e3 : p2 :: x = v.map sw ++ [-2] := by
            have : -1 :: p2 :: x = sw a :: (v.map sw ++ [-2]) := hxl
            injection this
          refine fin ((v.map sw).reverse ++ S) ?_
          rw [e2, e3, List.reverse_append]
          rfl
    · have e2 : ac (1 :: S) ((v ++ [-1]).map sw) = ((v ++ [-1]).map sw).reverse ++ (1 :: S) := by
        refine ac_flat hx fun p' q e1 e2 => ?_
        rw [hc] at e1
        cases e1
        cases e2
        omega
      refine fin ((v.map sw).reverse ++ (1 :: S)) ?_
      rw [e2, hxl, List.reverse_append]
      rfl
theorem larue : ∀ (w : List Int), (∀ k ∈ w, k ≠ 0 ∧ k ≠ -1) → (1 ∈ w → E1 (img w [1])) ∧ (1 ∉ w → img w [1] = [1])
  | [], _ => ⟨fun h => (nomatch h), fun _ => rfl⟩
  | k :: w, h => by
    obtain ⟨i1, i2⟩ := larue w fun j hj => h j (List.mem_cons_of_mem _ hj)
    have hk := h k List.mem_cons_self
    have far : k ≠ 1 → 1 < ab k := fun z => by
      unfold ab
      split <;> omega
    refine ⟨fun hm => ?_, fun hm => ?_⟩
    · show E1 (tm k (img w [1]))
      by_cases h1 : 1 ∈ w
      · by_cases hk1 : k = 1
        · rw [hk1]
          exact e1_one (img_rl w (rl_one 1)) (i1 h1)
        · exact e1_far (far hk1) (img_rl w (rl_one 1)) (i1 h1)
      · have hk1 : k = 1 := by
          rcases List.mem_cons.mp hm with e | e
          · exact e.symm
          · exact absurd e h1
        rw [i2 h1, hk1]
        exact ⟨[1, 2], by decide⟩
    · have hk1 : k ≠ 1 := fun z => hm (by rw [z]; exact List.mem_cons_self)
      show tm k (img w [1]) = [1]
      rw [i2 fun z => hm (List.mem_cons_of_mem _ z)]
      unfold tm
      rw [ph_cons, im_fix hk.1 (by have := far hk1; rw [show ab 1 = 1 from rfl]; omega) (by have := far hk1; rw [show ab 1 = 1 from rfl]; omega)]
      rfl
theorem three_le : 3 ≤ sizeLine := by decide
/-! ### images: promises -/
def spImB (K : PySem.W.Frag) (n : Nat) : Sp := fun vs H Q _ => ∃ k s : Int, vs = [.int k, .int s] ∧ k ≠ 0 ∧ 1 ≤ n ∧ (0 ≤ s ∨ 2 ≤ n) ∧ ∀ p H', Same H H' → WT K H' p (im k s) → Q (.ref p) H'
def spMap : Sp := fun vs H Q _ => ∃ (k : Int) (a : Addr) (l : List Int), vs = [.int k, .ref a] ∧ k ≠ 0 ∧ H a = some (.lst (l.map V.int)) ∧ l.length ≤ 100000 ∧ ∀ p H', Same H H' → H p = none → H' p = some (.lst ((tm k l).map V.int)) → Q (.ref p) H'
/-- image_of where nothing is raised -/
def spImgK (K : PySem.W.Frag) : Sp := fun vs H Q _ => ∃ (a : Addr) (ns : List Int) (s : Int), vs = [.ref a, .int s] ∧ WT K H a ns ∧ okW ns = true ∧ ns.length ≤ 10 ∧ 1 ≤ s ∧ s ≤ 41 ∧ ∀ p H', Same H H' → WT K H' p (img ns [s]) → Q (.ref p) H'
theorem im_len (k s : Int) : (im k s).length ≤ 3 := by
  unfold im im0
  repeat' split
  all_goals simp [inv]
theorem ac_len : ∀ (l st : List Int), (ac st l).length ≤ st.length + l.length
  | [], _ => Nat.le_refl _
  | p :: l, st => by
    have h1 := ac_len l (pu st p)
    have h2 : (pu st p).length ≤ st.length + 1 := by
      cases st with
      | nil => exact Nat.le_refl _
      | cons q r =>
        unfold pu
        dsimp only
        split
        · show r.length ≤ r.length + 1 + 1
          omega
        · exact Nat.le_refl _
    show (ac (pu st p) l).length ≤ st.length + (l.length + 1)
    omega
theorem ph_len (k : Int) : ∀ l : List Int, (ph k l).length ≤ 3 * l.length
  | [] => Nat.le_refl _
  | p :: l => by
    have h1 := ph_len k l
    have h2 := im_len k p
    rw [ph_cons, List.length_append, List.length_cons]
    omega
theorem tm_len (k : Int) (l : List Int) : (tm k l).length ≤ 3 * l.length := by
  have h1 := ac_len (ph k l) []
  have h2 := ph_len k l
  unfold tm rdc
  rw [List.length_reverse]
  simp only [List.length_nil, Nat.zero_add] at h1
  omega
theorem img_len : ∀ (w l : List Int), (img w l).length ≤ 3 ^ w.length * l.length
  | [], l => by show l.length ≤ 1 * l.length; omega
  | k :: w, l => by
    have h1 := img_len w l
    have h2 := tm_len k (img w l)
    show (tm k (img w l)).length ≤ 3 ^ (w.length + 1) * l.length
    rw [Nat.pow_succ, Nat.mul_comm (3 ^ w.length) 3, Nat.mul_assoc]
    omega
/-- the list of a stack -/
def stl (st : List Int) : List V := st.reverse.map V.int
theorem stl_cons (p : Int) (st : List Int) : stl (p :: st) = stl st ++ [.int p] := by
  unfold stl
  rw [List.reverse_cons, List.map_append]
  rfl
theorem stl_len (st : List Int) : (stl st).length = st.length := by unfold stl; rw [List.length_map, List.length_reverse]
theorem pu_pop {q p : Int} {r : List Int} (h : q = -p) : pu (q :: r) p = r := if_pos h
theorem pu_add {st : List Int} {p : Int} (h : ∀ q, st.head? = some q → q ≠ -p) : pu st p = p :: st := by
  cases st with
  | nil => rfl
  | cons q r => exact if_neg (h q rfl)
theorem ac_snoc (st l : List Int) (p : Int) : ac st (l ++ [p]) = pu (ac st l) p := ac_app st l [p]
theorem ph_snoc (k : Int) (l : List Int) (p : Int) : ph k (l ++ [p]) = ph k l ++ im k p := by
  rw [ph_app, ph_cons]
  show _ ++ (_ ++ []) = _
  rw [List.append_nil]
/-! ### a walk over a tuple from its end -/
theorem for_revT {K : PySem.W.Frag} {a : Addr} {xs : List V} {g : TG} {tb : TS} {D : Ends} {σ : L2.St} {H : Hp} (Pv : Nat → L2.St → Hp → Prop) (h0 : Pv 0 σ H) (hl : ∀ i σ H, i ≤ xs.length → Pv i σ H → SqT K H a xs)
    (hs : ∀ i x σ H, xs.reverse[i]? = some x → Pv i σ H → g x σ H fun σ2 H2 => tb { D with nx := Pv (i + 1), ct := Pv (i + 1), bk := D.nx } σ2 H2) (hd : ∀ σ H, Pv xs.length σ H → D.nx σ H) :
    ∃ W : Nat → Nat → L2.St → Hp → Prop, (∃ m, W 0 m σ H) ∧ ∀ i m σ H, W i m σ H →
      ((RT.ItvT K a xs.length).stop i H ∧ D.nx σ H) ∨ ((RT.ItvT K a xs.length).go i H ∧ ∃ N : L2.St → Hp → Prop, (∀ σ' H', N σ' H' → ∃ m', m' < m ∧ W (i + 1) m' σ' H') ∧ ∀ x H', (RT.ItvT K a xs.length).yld i H x H' → g x σ H' fun σ2 H2 => tb { D with nx := N, ct := N, bk := D.nx } σ2 H2) := by
  refine ⟨fun i m σ H => m = xs.length - i ∧ i ≤ xs.length ∧ Pv i σ H, ⟨xs.length, by simp, Nat.zero_le _, h0⟩, ?_⟩
  rintro i m σ H ⟨rfl, hi, p⟩
  have q := hl i σ H hi p
  by_cases hlt : i < xs.length
  · have lt' : xs.length - 1 - i < xs.length := by omega
    have hx : xs[xs.length - 1 - i]? = some xs[xs.length - 1 - i] := List.getElem?_eq_getElem lt'
    refine .inr ⟨⟨hlt, xs, _, q, hx⟩, Pv (i + 1), fun σ' H' p' => ⟨xs.length - (i + 1), by omega, rfl, hlt, p'⟩, fun x H' y => ?_⟩
    obtain ⟨e, y⟩ := y
    subst e
    have e2 := y xs q
    refine hs i x σ _ ?_ p
    rw [List.getElem?_reverse hlt]
    exact e2
  · have e : i = xs.length := by omega
    subst e
    exact .inl ⟨Nat.le_refl _, hd σ H p⟩
/-! ### the image of a word's end -/
theorem img_rev {ns : List Int} {l : List Int} {i : Nat} {k : Int} (h : ns.reverse[i]? = some k) : img (ns.reverse.take (i + 1)).reverse l = tm k (img (ns.reverse.take i).reverse l) := by
  rw [take_snoc h, List.reverse_append]
  rfl
/-! ### moves of a word: promises -/
/-- None, or a new list of the ints -/
def OL (H H' : Hp) (o : Option (List Int)) (v : V) : Prop := match o with
  | none => v = .non
  | some l => ∃ p, v = .ref p ∧ H p = none ∧ H' p = some (.lst (l.map V.int))
def spBrd : Sp := fun vs H Q _ => ∃ a b c : Int, vs = [.int a, .int b, .int c] ∧ ∀ v H', Same H H' → OL H H' (brd a b c) v → Q v H'
def mw (w : Nat) : Str := if w = 0 then "cancel" else if w = 1 then "swap" else "braid"
/-- a move's word, place and letter; what it makes of the row -/
inductive Mv (K : PySem.W.Frag) (H : Hp) (m : Addr) (ns : List Int) : Option (List Int) → Prop
  | two (w i : Nat) (hw : w ≤ 2) (h : SqT K H m [.str (mw w), .int i]) : Mv K H m ns (mvF w ns i)
  | ins (i : Nat) (k : Int) (hi : i ≤ ns.length) (h0 : 0 < ab k) (h1 : ab k < 41) (h : SqT K H m [.str "insert", .int i, .int k]) : Mv K H m ns (some (ns.take i ++ [k, 0 - k] ++ ns.drop i))
def spMove (K : PySem.W.Frag) : Sp := fun vs H Q _ => ∃ (r m : Addr) (ns : List Int) (o : Option (List Int)), vs = [.ref r, .ref m] ∧ H r = some (.lst (ns.map V.int)) ∧ ns.length ≤ 1000 ∧ Mv K H m ns o ∧ ∀ v H', Same H H' → OL H H' o v → Q v H'
theorem cutA {ys : List Int} {j : Nat} (h : j ≤ ys.length) : cutV (ys.map V.int) none (some (j : Int)) = (ys.take j).map V.int := by
  unfold cutV
  rw [HT.sIx_none, HT.sIx_nat, Nat.min_eq_left (by rw [List.length_map]; exact h), List.drop_zero, Nat.sub_zero, List.map_take]
theorem cutB {ys : List Int} {j : Nat} (h : j ≤ ys.length) : cutV (ys.map V.int) (some (j : Int)) none = (ys.drop j).map V.int := by
  unfold cutV
  rw [HT.sIx_none, HT.sIx_nat, Nat.min_eq_left (by rw [List.length_map]; exact h), List.take_of_length_le (by rw [List.length_drop]; omega), List.map_drop]
theorem at_int {ns : List Int} {i : Nat} {a : Int} (h : ns[i]? = some a) : atI (ns.map V.int) (i : Int) = some (.int a) := atI_nat (by rw [List.getElem?_map, h]; rfl)
theorem lsg_b (a : Int) : -(2 ^ 64) < lsg a ∧ lsg a < 2 ^ 64 := by
  unfold lsg
  split <;> decide
/-- the moves that a row takes, in the order in which the law lists them -/
def MvL (K : PySem.W.Frag) (H : Hp) (ns : List Int) (xs : List V) : Prop := ∀ v ∈ xs, ∃ (m : Addr) (w i : Nat), v = .ref m ∧ w ≤ 2 ∧ SqT K H m [.str (mw w), .int i] ∧ (mvF w ns i).isSome = true
def spMoves (K : PySem.W.Frag) : Sp := fun vs H Q _ => ∃ (r : Addr) (ns : List Int), vs = [.ref r] ∧ H r = some (.lst (ns.map V.int)) ∧ ns.length ≤ 100 ∧ ∀ p xs H', Same H H' → H p = none → H' p = some (.lst xs) → xs.length ≤ 3 * ns.length → MvL K H' ns xs → Q (.ref p) H'
def spShuf (K : PySem.W.Frag) : Sp := fun vs H Q _ => ∃ (r c a : Addr) (ns : List Int) (turns wide top : Int), vs = [.ref r, .ref a, .int turns, .int wide] ∧ RngC H r c ∧ WT K H a ns ∧ ns.length ≤ 20 ∧ Lets top ns ∧ top ≤ 40 ∧ 0 ≤ turns ∧ turns ≤ 20 ∧ 1 ≤ wide ∧ wide ≤ top ∧
  ∀ p ms H', WT K H' p ms → ms.length ≤ 100 → Lets top ms → Eqv ns ms → RngC H' r c → But r H H' → Q (.ref p) H'
theorem mvF_len {w : Nat} {ns : List Int} {i : Nat} {r : List Int} (e : mvF w ns i = some r) : r.length ≤ ns.length := by
  unfold mvF at e
  obtain ⟨m, e1, rfl⟩ := Option.map_eq_some_iff.mp e
  have key : m.length ≤ mvN w ∧ (m ≠ [] → i + mvN w ≤ ns.length) := by
    unfold mvK at e1
    by_cases w0 : w = 0
    · rw [if_pos w0] at e1
      unfold mvC at e1
      split at e1
      · split at e1
        · cases e1
          exact ⟨Nat.zero_le _, fun z => absurd rfl z⟩
        · cases e1
      · cases e1
    rw [if_neg w0] at e1
    by_cases w1 : w = 1
    · rw [if_pos w1] at e1
      have e2 : mvN w = 2 := by unfold mvN; rw [if_neg w0, if_pos w1]
      unfold mvS at e1
      split at e1
      · rename_i h1 h2
        split at e1
        · cases e1
          have := (List.getElem?_eq_some_iff.mp h2).1
          rw [e2]
          exact ⟨Nat.le_refl _, fun _ => by omega⟩
        · cases e1
      · cases e1
    rw [if_neg w1] at e1
    have e2 : mvN w = 3 := by unfold mvN; rw [if_neg w0, if_neg w1]
    unfold mvB at e1
    split at e1
    · rename_i h1 h2 h3
      have := (List.getElem?_eq_some_iff.mp h3).1
      unfold brd at e1
      rw [e2]
      refine ⟨?_, fun _ => by omega⟩
      split at e1
      · cases e1
      · split at e1
        · cases e1
          exact Nat.le_refl _
        · split at e1
          · cases e1
            exact Nat.le_refl _
          · cases e1
    · cases e1
  rw [List.length_append, List.length_append, List.length_take, List.length_drop]
  by_cases hm : m = []
  · subst hm
    show min i ns.length + 0 + (ns.length - (i + mvN w)) ≤ ns.length
    omega
  · have := key.2 hm
    have := key.1
    omega
theorem lets_sub {top : Int} {ns : List Int} {i : Nat} {a : Int} (h : Lets top ns) (e : ns[i]? = some a) : a ≠ 0 ∧ ab a ≤ top := h a (List.mem_of_getElem? e)
theorem lsg_ab {a x : Int} (hx : 0 ≤ x) : ab (lsg a * x) = x := by
  unfold lsg
  split
  · rw [Int.one_mul]; unfold ab; rw [if_neg (by omega)]
  · rw [show -1 * x = -x by omega, ab_n]; unfold ab; rw [if_neg (by omega)]
theorem ab_z {a : Int} (h : ab a ≠ 0) : a ≠ 0 := fun z => h (by rw [z]; rfl)
theorem mvK_lets {top : Int} {w : Nat} {ns : List Int} {i : Nat} {m : List Int} (h : Lets top ns) (e1 : mvK w ns i = some m) : Lets top m := by
  unfold mvK at e1
  split at e1
  · unfold mvC at e1
    split at e1
    · split at e1
      · cases e1
        exact fun _ z => (nomatch z)
      · cases e1
    · cases e1
  split at e1
  · unfold mvS at e1
    split at e1
    · rename_i h1 h2
      split at e1
      · cases e1
        intro n hn
        rcases List.mem_cons.mp hn with rfl | hn
        · exact lets_sub h h2
        · rw [List.mem_singleton.mp hn]
          exact lets_sub h h1
      · cases e1
    · cases e1
  · unfold mvB at e1
    split at e1
    · rename_i a b c h1 h2 h3
      have l1 := lets_sub h h1
      have l2 := lets_sub h h2
      have p1 := ab_pos' l1.1
      have p2 := ab_pos' l2.1
      unfold brd at e1
      split at e1
      · cases e1
      · split at e1
        · cases e1
          have k1 : ∀ x y : Int, 0 < y → y ≤ top → lsg x * y ≠ 0 ∧ ab (lsg x * y) ≤ top := fun x y hy hy2 => by
            have e := lsg_ab (a := x) (x := y) (by omega)
            exact ⟨ab_z (by omega), by omega⟩
          intro n hn
          rcases List.mem_cons.mp hn with rfl | hn
          · have := k1 a (ab b) p2 l2.2
            have e : ab (0 - lsg a * ab b) = ab (lsg a * ab b) := by rw [show 0 - lsg a * ab b = -(lsg a * ab b) by omega, ab_n]
            exact ⟨by omega, by omega⟩
          rcases List.mem_cons.mp hn with rfl | hn
          · exact k1 b (ab a) p1 l1.2
          · rw [List.mem_singleton.mp hn]
            exact k1 a (ab b) p2 l2.2
        · split at e1
          · cases e1
            intro n hn
            rcases List.mem_cons.mp hn with rfl | hn
            · exact l2
            rcases List.mem_cons.mp hn with rfl | hn
            · exact l1
            · rw [List.mem_singleton.mp hn]
              exact l2
          · cases e1
    · cases e1
theorem mvF_lets {top : Int} {w : Nat} {ns : List Int} {i : Nat} {r : List Int} (h : Lets top ns) (e : mvF w ns i = some r) : Lets top r := by
  unfold mvF at e
  obtain ⟨m, e1, rfl⟩ := Option.map_eq_some_iff.mp e
  exact Lets.app (Lets.app (fun n hn => h n (List.mem_of_mem_take hn)) (mvK_lets h e1)) (fun n hn => h n (List.mem_of_mem_drop hn))
theorem ins_eqv {ns : List Int} {i : Nat} {k : Int} (hk : k ≠ 0) : Eqv ns (ns.take i ++ [k, 0 - k] ++ ns.drop i) := by
  have := (eqv_ins hk).in (ns.take i) (ns.drop i)
  rw [List.append_nil, List.take_append_drop, show -k = 0 - k by omega] at this
  exact this
theorem mw_ins {w : Nat} (hw : w ≤ 2) : decide (V.str (mw w) = V.str "insert") = false := by
  match w, hw with
  | 0, _ => decide +kernel
  | 1, _ => decide +kernel
  | 2, _ => decide +kernel
theorem mw_brd {w : Nat} (hw : w ≤ 2) : decide (V.str (mw w) = V.str "braid") = decide (w = 2) := by
  match w, hw with
  | 0, _ => decide +kernel
  | 1, _ => decide +kernel
  | 2, _ => decide +kernel
theorem mw_can {w : Nat} (hw : w ≤ 2) : decide (V.str (mw w) = V.str "cancel") = decide (w = 0) := by
  match w, hw with
  | 0, _ => decide +kernel
  | 1, _ => decide +kernel
  | 2, _ => decide +kernel
theorem mw_swp {w : Nat} (hw : w ≤ 2) : decide (V.str (mw w) = V.str "swap") = decide (w = 1) := by
  match w, hw with
  | 0, _ => decide +kernel
  | 1, _ => decide +kernel
  | 2, _ => decide +kernel
theorem mw_many {w : Nat} (hw : w ≤ 2) {A : Int → Prop} (h : A (mvN w : Nat)) : if decide (w = 2) = true then A 3 else A 2 := by
  match w, hw, h with
  | 0, _, h => exact iteF h
  | 1, _, h => exact iteF h
  | 2, _, h => exact iteT h
theorem mvF_out {w : Nat} (hw : w ≤ 2) {ns : List Int} {i : Nat} (h : ns.length < i + mvN w) : mvF w ns i = none := by
  have key : mvK w ns i = none := by
    match w, hw, h with
    | 0, _, h =>
      have h : ns.length < i + 2 := h
      show mvC ns i = none
      unfold mvC
      rw [List.getElem?_eq_none (i := i + 1) (by omega)]
      cases ns[i]? <;> rfl
    | 1, _, h =>
      have h : ns.length < i + 2 := h
      show mvS ns i = none
      unfold mvS
      rw [List.getElem?_eq_none (i := i + 1) (by omega)]
      cases ns[i]? <;> rfl
    | 2, _, h =>
      have h : ns.length < i + 3 := h
      show mvB ns i = none
      unfold mvB
      rw [List.getElem?_eq_none (i := i + 2) (by omega)]
      cases ns[i]? <;> cases ns[i + 1]? <;> rfl
  unfold mvF
  rw [key]
  rfl
theorem mvK_len {w : Nat} {ns : List Int} {i : Nat} {m : List Int} (e : mvK w ns i = some m) : m.length ≤ 3 := by
  unfold mvK at e
  split at e
  · unfold mvC at e
    split at e
    · split at e
      · cases e
        exact Nat.zero_le _
      · cases e
    · cases e
  split at e
  · unfold mvS at e
    split at e
    · split at e
      · cases e
        show 2 ≤ 3
        decide
      · cases e
    · cases e
  · unfold mvB at e
    split at e
    · unfold brd at e
      split at e
      · cases e
      · split at e
        · cases e
          exact Nat.le_refl _
        · split at e
          · cases e
            exact Nat.le_refl _
          · cases e
    · cases e
theorem MvL.mono {K : PySem.W.Frag} {H H' : Hp} {ns : List Int} {xs : List V} (e : Tp H H') (h : MvL K H ns xs) : MvL K H' ns xs := fun v hv => by
  obtain ⟨m, w, i, h1, h2, h3, h4⟩ := h v hv
  exact ⟨m, w, i, h1, h2, e.sqT h3, h4⟩
/-! ### moves of any form -/
def cdW (nm : Str) : Option Nat := if nm = "cancel" then some 0 else if nm = "swap" then some 1 else if nm = "braid" then some 2 else none
/-- what a move replaces -/
def chX (nm : Str) (args ns : List Int) : Option (Nat × Nat × List Int) := match args with
  | [at_] => if 0 ≤ at_ then (match cdW nm with
    | some w => (mvK w ns at_.toNat).map fun m => (at_.toNat, at_.toNat + mvN w, m)
    | none => none) else none
  | [at_, k] => if nm = "insert" ∧ 0 ≤ at_ ∧ at_ ≤ ns.length ∧ 0 < ab k ∧ ab k < 41 then some (at_.toNat, at_.toNat, [k, 0 - k]) else none
  | _ => none
def mvX (nm : Str) (args ns : List Int) : Option (List Int) := (chX nm args ns).map fun c => ns.take c.1 ++ c.2.2 ++ ns.drop c.2.1
theorem cdW_mw {nm : Str} {w : Nat} (h : cdW nm = some w) : nm = mw w ∧ w ≤ 2 := by
  unfold cdW at h
  split at h
  · rename_i e; cases h; exact ⟨e, by decide⟩
  split at h
  · rename_i e; cases h; exact ⟨e, by decide⟩
  split at h
  · rename_i e; cases h; exact ⟨e, by decide⟩
  · cases h
theorem mw_cdW {w : Nat} (h : w ≤ 2) : cdW (mw w) = some w := by
  match w, h with
  | 0, _ => decide +kernel
  | 1, _ => decide +kernel
  | 2, _ => decide +kernel
theorem mvX_two {nm : Str} {w : Nat} {ns : List Int} {at_ : Int} (h : cdW nm = some w) (h0 : 0 ≤ at_) : mvX nm [at_] ns = mvF w ns at_.toNat := by
  unfold mvX chX
  dsimp only
  rw [if_pos h0, h]
  dsimp only
  unfold mvF
  rw [Option.map_map]
  rfl
theorem mvX_no {nm : Str} {ns : List Int} {at_ : Int} (h : cdW nm = none ∨ at_ < 0) : mvX nm [at_] ns = none := by
  unfold mvX chX
  dsimp only
  rcases h with h | h
  · rw [h]
    split <;> rfl
  · rw [if_neg (by omega)]
    rfl
theorem mvX_ins {ns : List Int} {at_ k : Int} (h0 : 0 ≤ at_) (h1 : at_ ≤ ns.length) (h2 : 0 < ab k) (h3 : ab k < 41) : mvX "insert" [at_, k] ns = some (ns.take at_.toNat ++ [k, 0 - k] ++ ns.drop at_.toNat) := by
  unfold mvX chX
  dsimp only
  rw [if_pos ⟨rfl, h0, h1, h2, h3⟩]
  rfl
theorem mvX_insN {nm : Str} {ns : List Int} {at_ k : Int} (h : ¬ (nm = "insert" ∧ 0 ≤ at_ ∧ at_ ≤ ns.length ∧ 0 < ab k ∧ ab k < 41)) : mvX nm [at_, k] ns = none := by
  unfold mvX chX
  dsimp only
  rw [if_neg h]
  rfl
theorem mvX_len {nm : Str} {args ns r : List Int} (e : mvX nm args ns = some r) : r.length ≤ ns.length + 2 := by
  match args with
  | [] => cases e
  | [at_] =>
    by_cases h0 : 0 ≤ at_
    · cases hc : cdW nm with
      | none => rw [mvX_no (.inl hc)] at e; cases e
      | some w =>
        rw [mvX_two hc h0] at e
        have := mvF_len e
        omega
    · rw [mvX_no (.inr (by omega))] at e
      cases e
  | [at_, k] =>
    by_cases h : nm = "insert" ∧ 0 ≤ at_ ∧ at_ ≤ ns.length ∧ 0 < ab k ∧ ab k < 41
    · obtain ⟨rfl, h0, h1, h2, h3⟩ := h
      rw [mvX_ins h0 h1 h2 h3] at e
      cases e
      rw [List.length_append, List.length_append, List.length_take, List.length_drop]
      show min _ _ + 2 + _ ≤ _
      omega
    · rw [mvX_insN h] at e
      cases e
  | _ :: _ :: _ :: _ => cases e
theorem mvX_lets {nm : Str} {args ns r : List Int} (hL : Lets 40 ns) (e : mvX nm args ns = some r) : Lets 40 r := by
  match args with
  | [] => cases e
  | [at_] =>
    by_cases h0 : 0 ≤ at_
    · cases hc : cdW nm with
      | none => rw [mvX_no (.inl hc)] at e; cases e
      | some w =>
        rw [mvX_two hc h0] at e
        exact mvF_lets hL e
    · rw [mvX_no (.inr (by omega))] at e
      cases e
  | [at_, k] =>
    by_cases h : nm = "insert" ∧ 0 ≤ at_ ∧ at_ ≤ ns.length ∧ 0 < ab k ∧ ab k < 41
    · obtain ⟨rfl, h0, h1, h2, h3⟩ := h
      rw [mvX_ins h0 h1 h2 h3] at e
      cases e
      refine Lets.app (Lets.app (fun n hn => hL n (List.mem_of_mem_take hn)) (fun n hn => ?_)) (fun n hn => hL n (List.mem_of_mem_drop hn))
      rcases List.mem_cons.mp hn with rfl | hn
      · exact ⟨ab_z (by omega), by omega⟩
      · rw [List.mem_singleton.mp hn]
        have e2 : ab (0 - k) = ab k := by rw [show 0 - k = -k by omega, ab_n]
        exact ⟨ab_z (by omega), by omega⟩
    · rw [mvX_insN h] at e
      cases e
  | _ :: _ :: _ :: _ => cases e
def runX : List (Str × List Int) → Nat → List Int → Except Nat (List Int)
  | [], _, ns => .ok ns
  | m :: ms, j, ns => match mvX m.1 m.2 ns with
    | none => .error j
    | some r => runX ms (j + 1) r
/-- the tuple of a move -/
def MvT (K : PySem.W.Frag) (H : Hp) (v : V) (m : Str × List Int) : Prop := ∃ p, v = .ref p ∧ SqT K H p (.str m.1 :: m.2.map V.int)
theorem MvT.tp {K : PySem.W.Frag} {H H' : Hp} (e : Tp H H') {v : V} {m : Str × List Int} (h : MvT K H v m) : MvT K H' v m := h.imp fun p z => ⟨z.1, e.sqT z.2⟩
def MvTs (K : PySem.W.Frag) (H : Hp) (vs : List V) (ms : List (Str × List Int)) : Prop := vs.length = ms.length ∧ ∀ (i : Nat) v m, vs[i]? = some v → ms[i]? = some m → MvT K H v m
theorem MvTs.tp {K : PySem.W.Frag} {H H' : Hp} (e : Tp H H') {vs : List V} {ms : List (Str × List Int)} (h : MvTs K H vs ms) : MvTs K H' vs ms := ⟨h.1, fun i v m a b => (h.2 i v m a b).tp e⟩
theorem MvTs.nil {K : PySem.W.Frag} {H : Hp} : MvTs K H [] [] := ⟨rfl, fun i v m a _ => by cases a⟩
theorem MvTs.snoc {K : PySem.W.Frag} {H : Hp} {vs : List V} {ms : List (Str × List Int)} {v : V} {m : Str × List Int} (h : MvTs K H vs ms) (hv : MvT K H v m) : MvTs K H (vs ++ [v]) (ms ++ [m]) := by
  refine ⟨by rw [List.length_append, List.length_append, h.1]; rfl, fun i v' m' a b => ?_⟩
  by_cases hi : i < vs.length
  · rw [List.getElem?_append_left hi] at a
    rw [List.getElem?_append_left (by rw [← h.1]; exact hi)] at b
    exact h.2 i v' m' a b
  · rw [List.getElem?_append_right (by omega)] at a
    rw [List.getElem?_append_right (by rw [← h.1]; omega)] at b
    have := (List.getElem?_eq_some_iff.mp a).1
    rw [List.length_singleton] at this
    rw [show i - vs.length = 0 by omega] at a
    rw [show i - ms.length = 0 by rw [← h.1]; omega] at b
    cases a
    cases b
    exact hv
theorem MvTs.one {K : PySem.W.Frag} {H : Hp} {v : V} {m : Str × List Int} (hv : MvT K H v m) : MvTs K H [v] [m] := MvTs.nil.snoc hv
def mD (m : Str × List Int) : PyData := .tuple (.str m.1 :: m.2.map PyData.int)
theorem dpAll_ints {K : PySem.W.Frag} {H : Hp} : ∀ is : List Int, DpAll K H (is.map V.int) (is.map PyData.int)
  | [] => .nil
  | i :: is => .cons (.int i) (dpAll_ints is)
theorem MvT.dp {K : PySem.W.Frag} {H : Hp} {v : V} {m : Str × List Int} (h : MvT K H v m) : Dp K H v (mD m) := by
  obtain ⟨p, rfl, hp⟩ := h
  exact Dp.tup hp (.cons (.str _) (dpAll_ints _))
theorem MvTs.dp {K : PySem.W.Frag} {H : Hp} : ∀ {vs : List V} {ms : List (Str × List Int)}, MvTs K H vs ms → DpAll K H vs (ms.map mD)
  | [], [], _ => .nil
  | [], _ :: _, h => by cases h.1
  | _ :: _, [], h => by cases h.1
  | v :: vs, m :: ms, h => .cons (h.2 0 v m rfl rfl).dp (MvTs.dp ⟨Nat.succ.inj h.1, fun i v' m' a b => h.2 (i + 1) v' m' a b⟩)
def spMoveX (K : PySem.W.Frag) : Sp := fun vs H Q _ => ∃ (r m : Addr) (ns : List Int) (nm : Str) (args : List Int), vs = [.ref r, .ref m] ∧ H r = some (.lst (ns.map V.int)) ∧ ns.length ≤ 1000 ∧ SqT K H m (.str nm :: args.map V.int) ∧ (args.length = 1 ∨ args.length = 2) ∧ ∀ v H', Same H H' → OL H H' (mvX nm args ns) v → Q v H'
/-- those that are no moves -/
def spMoveN (K : PySem.W.Frag) : Sp := fun vs H Q _ => ∃ (r m : Addr) (ns : List Int) (nm : Str) (args : List Int), vs = [.ref r, .ref m] ∧ H r = some (.lst (ns.map V.int)) ∧ ns.length ≤ 1000 ∧ SqT K H m (.str nm :: args.map V.int) ∧
  ((∃ at_, args = [at_] ∧ (cdW nm = none ∨ at_ < 0)) ∨ ∃ at_ k, args = [at_, k] ∧ ¬ (nm = "insert" ∧ 0 ≤ at_ ∧ at_ ≤ ns.length ∧ 0 < ab k ∧ ab k < 41)) ∧ ∀ H', Same H H' → Q .non H'
def runA : List (Str × List Int) → List Int → Prop
  | [], ns => ns.length ≤ 900
  | m :: ms, ns => ns.length ≤ 900 ∧ (m.2.length ≤ 2) ∧ ∀ r, mvX m.1 m.2 ns = some r → runA ms r
theorem runA_of : ∀ (ms : List (Str × List Int)) (ns : List Int), (∀ m ∈ ms, m.2.length ≤ 2) → ns.length + 2 * ms.length ≤ 900 → runA ms ns
  | [], ns, _, h => h
  | m :: ms, ns, hm, h => by
    rw [List.length_cons] at h
    exact ⟨by omega, hm m List.mem_cons_self, fun r e => runA_of ms r (fun m' h' => hm m' (List.mem_cons_of_mem _ h')) (by have := mvX_len e; omega)⟩
/-- the law's answer -/
def spExp (K : PySem.W.Frag) : Sp := fun vs H Q _ => ∃ (a b : Addr) (ns : List Int) (us : List V) (ms : List (Str × List Int)), vs = [.ref a, .ref b] ∧ (SqL K H a (ns.map V.int) ∨ WT K H a ns) ∧ SqL K H b us ∧ MvTs K H us ms ∧ us.length ≤ 1000 ∧ (∀ m ∈ ms, m.2.length ≤ 2) ∧ ns.length + 2 * ms.length ≤ 900 ∧
  (∀ r, runX ms 0 ns = .ok r → ∀ u p H', SqT K H' u [.str "value", .ref p] → WT K H' p r → Same H H' → Q (.ref u) H') ∧ ∀ j, runX ms 0 ns = .error j → ∀ u H', SqT K H' u [.str "InvalidStep", .int (j : Nat)] → Same H H' → Q (.ref u) H'
/-! ### the program's side -/
theorem ints3 {xs : List Int} (h : xs.length = 3) : ∃ a b c, xs = [a, b, c] := by
  match xs, h with
  | [a, b, c], _ => exact ⟨a, b, c, rfl⟩
theorem ints2 {xs : List Int} (h : xs.length = 2) : ∃ a b, xs = [a, b] := by
  match xs, h with
  | [a, b], _ => exact ⟨a, b, rfl⟩
def spBrdP : Sp := fun vs H Q _ => ∃ (l : Addr) (a b c : Int), vs = [.ref l] ∧ H l = some (.lst [.int a, .int b, .int c]) ∧ a ≠ 0 ∧ b ≠ 0 ∧ ∀ v H', Same H H' → OL H H' (brd a b c) v → Q v H'
def spRepl : Sp := fun vs H Q _ => ∃ (l : Addr) (xs : List Int) (w : Nat), vs = [.str (mw w), .ref l] ∧ w ≤ 2 ∧ H l = some (.lst (xs.map V.int)) ∧ xs.length = mvN w ∧ (∀ x ∈ xs, x ≠ 0) ∧ ∀ v H', Same H H' → OL H H' (mvK w xs 0) v → Q v H'
/-- None, or where and what a move replaces -/
def CL (K : PySem.W.Frag) (H H' : Hp) (o : Option (Nat × Nat × List Int)) (v : V) : Prop := match o with
  | none => v = .non
  | some c => ∃ t p, v = .ref t ∧ SqT K H' t [.int (c.1 : Nat), .int (c.2.1 : Nat), .ref p] ∧ H p = none ∧ H' p = some (.lst (c.2.2.map V.int))
def spIns (K : PySem.W.Frag) : Sp := fun vs H Q _ => ∃ (l m : Addr) (ns : List Int) (nm : Str) (at_ k : Int), vs = [.ref l, .ref m] ∧ H l = some (.lst (ns.map V.int)) ∧ SqT K H m [.str nm, .int at_, .int k] ∧ ns.length ≤ 1000 ∧ ∀ v H', Same H H' → CL K H H' (chX nm [at_, k] ns) v → Q v H'
def spChange (K : PySem.W.Frag) : Sp := fun vs H Q _ => ∃ (l m : Addr) (ns : List Int) (nm : Str) (args : List Int), vs = [.ref l, .ref m] ∧ H l = some (.lst (ns.map V.int)) ∧ SqT K H m (.str nm :: args.map V.int) ∧ args.length ≤ 2 ∧ ns.length ≤ 1000 ∧ (∀ x ∈ ns, x ≠ 0) ∧ ∀ v H', Same H H' → CL K H H' (chX nm args ns) v → Q v H'
theorem mvK_cut {w : Nat} (hw : w ≤ 2) {ns : List Int} {i : Nat} (h : i + mvN w ≤ ns.length) : mvK w ns i = mvK w ((ns.drop i).take (mvN w)) 0 := by
  have key : ∀ j, j < mvN w → ((ns.drop i).take (mvN w))[0 + j]? = ns[i + j]? := fun j hj => by
    rw [Nat.zero_add, List.getElem?_take, if_pos hj, List.getElem?_drop]
  match w, hw, key with
  | 0, _, key =>
    show mvC ns i = mvC _ 0
    unfold mvC
    rw [show ((ns.drop i).take (mvN 0))[0]? = ns[i]? from key 0 (by decide), key 1 (by decide)]
  | 1, _, key =>
    show mvS ns i = mvS _ 0
    unfold mvS
    rw [show ((ns.drop i).take (mvN 1))[0]? = ns[i]? from key 0 (by decide), key 1 (by decide)]
  | 2, _, key =>
    show mvB ns i = mvB _ 0
    unfold mvB
    rw [show ((ns.drop i).take (mvN 2))[0]? = ns[i]? from key 0 (by decide), key 1 (by decide), key 2 (by decide)]
/-- apply_moves -/
def spApply (K : PySem.W.Frag) (CWd CX : Addr) : Sp := fun vs H Q E => ∃ (a b : Addr) (ns : List Int) (us : List V) (ms : List (Str × List Int)), vs = [.ref a, .ref b] ∧ WT K H a ns ∧ ns.length ≤ 1000 ∧ (SqL K H b us ∨ SqT K H b us) ∧ MvTs K H us ms ∧ us.length ≤ 1000 ∧ (okW ns = true → runA ms ns) ∧
  (okW ns = true → ∀ r, runX ms 0 ns = .ok r → ∀ p H', WT K H' p r → Same H H' → Q (.ref p) H') ∧
  (okW ns = true → ∀ j : Nat, runX ms 0 ns = .error j → ∀ (e : Addr) (H' : Hp), Same H H' → H e = none → H' e = some (.xd [("position", .int (j : Int))]) → E (.ref CX) (some e) H') ∧ (okW ns = false → ∀ H', Same H H' → E (.ref CWd) none H')
theorem fn_or {P : Program} {w : World} {K : PySem.W.Frag} {mg : Str → Option Value} {base : Heap} {f : Addr} {fd : FuncData} {CX : CXT} {ps : List Str} {sp1 sp2 : Sp} {k : Nat} (h1 : FnOk P w K mg base CX k f fd ps sp1) (h2 : FnOk P w K mg base CX k f fd ps sp2) : FnOk P w K mg base CX k f fd ps (fun vs H Q E => sp1 vs H Q E ∨ sp2 vs H Q E) :=
  ⟨fun vs H Q E h => h.elim (h1.1 vs H Q E) (h2.1 vs H Q E), fun A outer s H args us vs Q E a1 a2 a3 a4 h => h.elim (h1.2 A outer s H args us vs Q E a1 a2 a3 a4) (h2.2 A outer s H args us vs Q E a1 a2 a3 a4)⟩
theorem chX_b {nm : Str} {args ns : List Int} {s e : Nat} {m : List Int} (h : chX nm args ns = some (s, e, m)) : s ≤ e ∧ e ≤ ns.length ∧ m.length ≤ 3 := by
  match args, h with
  | [], h => cases h
  | [at_], h =>
    have h : (if 0 ≤ at_ then (match cdW nm with
      | some w => (mvK w ns at_.toNat).map fun m => (at_.toNat, at_.toNat + mvN w, m)
      | none => none) else none) = some (s, e, m) := h
    split at h
    · split at h
      · rename_i w hw
        obtain ⟨hn, hw2⟩ := cdW_mw hw
        obtain ⟨m', hm, e1⟩ := Option.map_eq_some_iff.mp h
        cases e1
        have h3 := mvK_len hm
        have h4 : at_.toNat + mvN w ≤ ns.length := by
          rcases Nat.lt_or_ge ns.length (at_.toNat + mvN w) with z | z
          · have := mvF_out hw2 z
            unfold mvF at this
            rw [hm] at this
            cases this
          · exact z
        exact ⟨by omega, h4, h3⟩
      · cases h
    · cases h
  | [at_, k], h =>
    have h : (if nm = "insert" ∧ 0 ≤ at_ ∧ at_ ≤ ns.length ∧ 0 < ab k ∧ ab k < 41 then some (at_.toNat, at_.toNat, [k, 0 - k]) else none) = some (s, e, m) := h
    split at h
    · rename_i z
      cases h
      exact ⟨Nat.le_refl _, by omega, by show 2 ≤ 3; decide⟩
    · cases h
  | _ :: _ :: _ :: _, h => cases h
def spLong (K : PySem.W.Frag) : Sp := fun vs H Q _ => ∃ (r c : Addr), vs = [.ref r] ∧ RngC H r c ∧ ∀ p ns H', WT K H' p ns → 31 ≤ ns.length ∧ ns.length ≤ 300 → Lets 4 ns → RngC H' r c → But r H H' → Q (.ref p) H'
def MvOk (m : Str × List Int) : Prop := m.2.length ≤ 2 ∧ PyData.strOk m.1 = true
def spInvM (K : PySem.W.Frag) : Sp := fun vs H Q _ => ∃ (r l c : Addr) (xs : List V), vs = [.ref r, .ref l] ∧ RngC H r c ∧ H l = some (.lst xs) ∧ l ≠ r ∧ xs.length ≤ 1000 ∧ ∀ v m H', MvT K H' v m → MvOk m → RngC H' r c → But r H H' → Q v H'
theorem MvTs.mem {K : PySem.W.Frag} {H : Hp} {vs : List V} {ms : List (Str × List Int)} (h : MvTs K H vs ms) {v : V} (hv : v ∈ vs) : ∃ m, m ∈ ms ∧ MvT K H v m := by
  obtain ⟨i, hi, e⟩ := List.getElem_of_mem hv
  have e1 : vs[i]? = some v := by rw [List.getElem?_eq_getElem hi, e]
  have hm : i < ms.length := by rw [← h.1]; exact hi
  exact ⟨ms[i], List.getElem_mem hm, h.2 i v _ e1 (List.getElem?_eq_getElem hm)⟩
theorem mvOk_of {nm : Str} {args : List Int} (h1 : args.length ≤ 2) (h2 : PyData.strOk nm = true) : MvOk (nm, args) := ⟨h1, h2⟩
theorem strOk_cancel : PyData.strOk "cancel" = true := by decide +kernel
theorem strOk_swap : PyData.strOk "swap" = true := by decide +kernel
theorem strOk_braid : PyData.strOk "braid" = true := by decide +kernel
theorem strOk_insert : PyData.strOk "insert" = true := by decide +kernel
theorem strOk_move : PyData.strOk "move" = true := by decide +kernel
theorem strOk_nil : PyData.strOk "" = true := by decide +kernel
/-! ### the dict WIDTHS of the module -/
theorem kW_of {K : PySem.W.Frag} {w : World} {WD : Addr} {a0 a1 a2 c0 c1 c2 : Tok} {b0 b1 b2 : Int} {wn : Nat} (lW : K.lookup WD = some ⟨.type "dict", none, .dict #[⟨b0, .str "cancel" a0, .int 2 c0⟩, ⟨b1, .str "swap" a1, .int 2 c1⟩, ⟨b2, .str "braid" a2, .int 3 c2⟩] wn, #[]⟩)
    (h0 : b0 = PyData.keyHash w.params "cancel") (h1 : b1 = PyData.keyHash w.params "swap") (h2 : b2 = PyData.keyHash w.params "braid") (hs : (WD == sysModules) = false) :
    ∀ nm : Str, ∃ r, KDin K w WD nm r ∧ (cdW nm = none → r = none) ∧ ∀ u, cdW nm = some u → ∃ t, r = some (.int (mvN u : Nat) t) := by
  intro nm
  have kl : PySem.W.KeysLit w.params [⟨b0, .str "cancel" a0, .int 2 c0⟩, ⟨b1, .str "swap" a1, .int 2 c1⟩, ⟨b2, .str "braid" a2, .int 3 c2⟩] := ⟨⟨_, _, rfl, h0⟩, ⟨_, _, rfl, h1⟩, ⟨_, _, rfl, h2⟩, trivial⟩
  by_cases e0 : nm = "cancel"
  · refine ⟨some (.int 2 c0), ⟨_, _, lW, kl, ?_, hs⟩, fun z => ?_, fun u hu => ?_⟩
    · rw [e0]
      unfold PySem.W.nsIn
      rw [lW]
      rfl
    · rw [e0] at z; exact absurd z (by decide +kernel)
    · rw [e0, show cdW "cancel" = some 0 by decide +kernel] at hu
      cases hu
      exact ⟨_, rfl⟩
  by_cases e1 : nm = "swap"
  · refine ⟨some (.int 2 c1), ⟨_, _, lW, kl, ?_, hs⟩, fun z => ?_, fun u hu => ?_⟩
    · rw [e1]
      unfold PySem.W.nsIn
      rw [lW]
      rfl
    · rw [e1] at z; exact absurd z (by decide +kernel)
    · rw [e1, show cdW "swap" = some 1 by decide +kernel] at hu
      cases hu
      exact ⟨_, rfl⟩
  by_cases e2 : nm = "braid"
  · refine ⟨some (.int 3 c2), ⟨_, _, lW, kl, ?_, hs⟩, fun z => ?_, fun u hu => ?_⟩
    · rw [e2]
      unfold PySem.W.nsIn
      rw [lW]
      rfl
    · rw [e2] at z; exact absurd z (by decide +kernel)
    · rw [e2, show cdW "braid" = some 2 by decide +kernel] at hu
      cases hu
      exact ⟨_, rfl⟩
  · have hc : cdW nm = none := by
      unfold cdW
      rw [if_neg e0, if_neg e1, if_neg e2]
    refine ⟨none, ⟨_, _, lW, kl, ?_, hs⟩, fun _ => rfl, fun u hu => (by rw [hc] at hu; cases hu)⟩
    unfold PySem.W.nsIn
    rw [lW]
    have kk : ∀ (x : Str) (t : Tok), nm ≠ x → Value.isStr (.str x t) nm = false := fun x t hx => by
      show (x == nm) = false
      exact beq_eq_false_iff_ne.mpr fun z => hx z.symm
    simp only [List.find?, kk _ _ e0, kk _ _ e1, kk _ _ e2]
    rfl
section
variable {P : Program} {w : World} {K : PySem.W.Frag} {mg : Str → Option Value} {base : Heap} {f : Addr} {fd : FuncData}

abbrev s_ISInit : Stmt := inClass (top 4) 0
theorem sc_ISInit : SupScope ["self", "position"] (defScope s_ISInit) := ⟨rfl, rfl, rfl, by decide +kernel, by decide +kernel, by decide +kernel, by decide +kernel, by decide +kernel, fun x h => by
  have z : ∀ y ∈ (defScope s_ISInit).names, y.2 = .free → y.1 = ("__class__" : Str) := by decide +kernel
  exact z _ (PySem.mem_of_lookup h) rfl⟩
theorem ok_ISInit {C : Addr} (F : FunS P K mg "InvalidStep" "InvalidStep.__init__" s_ISInit ["self", "position"] C f fd) (hno : PySem.W.findIn K (.ref C) "position" = some none) : FnOk P w K mg base CX0 1 f fd ["self", "position"] (spS C "position" okInt) := by
  obtain ⟨oc, od, dV, kV, doc, pm, an, cda, ct, osl, cc, cl, cld, csl, ccl, cdd, cvs, ccs, file, tf, rfl, lk, hcd, hcode, hvs, hfile, hcell⟩ := F.ex
  refine ok_sup (sf := "self") (xn := "position") (fld := "position") lk hcd sc_ISInit rfl rfl hcode hvs hfile F.top hcell F.T F.mro F.sup F.any F.ini F.val hno (fun A outer s H E a v hv => ?_)
  obtain ⟨n, rfl, h1, h2⟩ := hv
  refine ⟨_, pa_cons (pe_joined (PJ.cons pe_str (PJ.cons (pe_fmt (pv 1)) (PJ.cons pe_str PJ.nil)))) pa_nil, ?_⟩
  have L : (Str.ofString (toString n)).length ≤ 12 := PyProof.Rows.toString_length_le h1 (by decide) h2
  have lg : n.natAbs.log2 < 1920 := by
    have a1 : n.natAbs < 2 ^ 40 := by
      have : (10 : Int) ^ 12 < 2 ^ 40 := by decide
      omega
    have := (Nat.log2_lt (n := n.natAbs) (k := 40))
    by_cases z : n.natAbs = 0
    · rw [z]; decide
    · have := (Nat.log2_lt z).mpr a1
      omega
  have e := PySem.Str.length_append (Str.empty ++ Str.ofString "the step at position ") (Str.ofString (toString n))
  have e2 : (Str.empty ++ Str.ofString "the step at position ").length ≤ 100 := by decide +kernel
  have e3 : ((Str.empty ++ Str.ofString "the step at position ") ++ (toString n : Str)).length = _ := e
  refine ⟨_, rfl, (by decide +kernel), _, rfl, .inr ⟨n, rfl, lg, _, rfl, ?_, ?_⟩⟩
  · rw [sizeLine_eq]
    omega
  · refine ⟨_, rfl, ?_, ⟨by show 1 ≤ 1000; omega, rfl⟩⟩
    have e4 := PySem.Str.length_append ((Str.empty ++ Str.ofString "the step at position ") ++ Str.ofString (toString n)) (Str.ofString " does not apply")
    have e5 : (Str.ofString " does not apply").length ≤ 100 := by decide +kernel
    have e6 : (((Str.empty ++ Str.ofString "the step at position ") ++ (toString n : Str)) ++ (" does not apply" : Str)).length = _ := e4
    rw [sizeLine_eq]
    omega
abbrev s_is_letter : Stmt := top 26
theorem sc_is_letter : FnScope ["number"] ["number"] (defScope s_is_letter) := ⟨rfl, rfl, rfl, by decide +kernel, rfl, by decide +kernel, by decide +kernel⟩
theorem ok_is_letter (d : D K mg "is_letter" s_is_letter ["number"] f fd) (BW : BltW mg) (CW : CstW mg) : FnOk P w K mg base CX0 1 f fd ["number"] spLet := by
  obtain ⟨⟨t1, C_MAX_LETTER⟩, _⟩ := CW
  refine d.F.ok sc_is_letter (fun vs H Q E h => ?_) (fun cdv A outer s H vs Q E hr h => ?_)
  · obtain ⟨_, rfl, _⟩ := h
    rfl
  obtain ⟨n, rfl, q⟩ := h
  refine ⟨_, (pss_one (ps_ret (pe_and (pe_cmpR op_ne (pv 0) pe_int (nomark _)) (pe_one (pe_cmpR op_le (pe_callB call_abs (by rfl) BW.abs (by decide +kernel) (pa_cons (pv 0) pa_nil)) (pe_glob (v := .int 40) rfl C_MAX_LETTER ⟨_, rfl⟩) (nomark _)))))), ?_⟩
  refine ⟨_, rfl, rfl, _, rfl, ?_⟩
  have q : Q (.bl (decide (n ≠ 0) && decide (ab n ≤ 40))) H := q
  by_cases h : n = 0
  · rw [decide_eq_false (fun z => z h), Bool.false_and] at q
    refine ite_no ?_ q
    rw [decide_eq_true (congrArg V.int h)]
    rfl
  · rw [decide_eq_true h, Bool.true_and] at q
    refine ite_yes ?_ ⟨_, rfl, _, rfl, _, _, rfl, rfl, q⟩
    rw [decide_eq_false (fun z => h (V.int.inj z))]
    rfl

abbrev s_with_sign : Stmt := top 29
theorem sc_with_sign : FnScope ["magnitude", "letter"] ["magnitude", "letter"] (defScope s_with_sign) := ⟨rfl, rfl, rfl, by decide +kernel, rfl, by decide +kernel, by decide +kernel⟩
theorem ok_with_sign (d : D K mg "with_sign" s_with_sign ["magnitude", "letter"] f fd) : FnOk P w K mg base CX0 1 f fd ["magnitude", "letter"] spSgn := by
  refine d.F.ok sc_with_sign (fun vs H Q E h => ?_) (fun cdv A outer s H vs Q E hr h => ?_)
  · obtain ⟨_, _, rfl, _⟩ := h
    rfl
  obtain ⟨m, l, rfl, q⟩ := h
  refine ⟨_, (pss_one (ps_ret (pe_ifExp (pt_cmpR op_gt (pv 1) pe_int (nomark _)) (pv 0) (pe_un un_neg (pv 0))))), ?_⟩
  refine ⟨_, rfl, _, _, rfl, rfl, _, rfl, ?_⟩
  unfold sgn at q
  refine ite2 (fun c => ?_) (fun c => ?_)
  · have c : l > 0 := of_decide_eq_true c
    rw [if_pos c] at q
    exact ⟨_, rfl, q⟩
  · have c : ¬ l > 0 := fun z => c (decide_eq_true z)
    rw [if_neg c] at q
    exact ⟨_, rfl, _, rfl, q⟩

abbrev s__law_sign : Stmt := top 43
theorem sc__law_sign : FnScope ["_law_number"] ["_law_number"] (defScope s__law_sign) := ⟨rfl, rfl, rfl, by decide +kernel, rfl, by decide +kernel, by decide +kernel⟩
theorem ok__law_sign (d : D K mg "_law_sign" s__law_sign ["_law_number"] f fd) : FnOk P w K mg base CX0 1 f fd ["_law_number"] spSign := by
  refine d.F.ok sc__law_sign (fun vs H Q E h => ?_) (fun cdv A outer s H vs Q E hr h => ?_)
  · obtain ⟨_, rfl, _⟩ := h
    rfl
  obtain ⟨l, rfl, q⟩ := h
  refine ⟨_, (pss_one (ps_ret (pe_ifExp (pt_cmpR op_gt (pv 0) pe_int (nomark _)) pe_int (pe_un un_neg pe_int)))), ?_⟩
  refine ⟨_, rfl, _, _, rfl, rfl, _, rfl, ?_⟩
  unfold lsg at q
  refine ite2 (fun c => ?_) (fun c => ?_)
  · have c : l > 0 := of_decide_eq_true c
    rw [if_pos c] at q
    exact q
  · have c : ¬ l > 0 := fun z => c (decide_eq_true z)
    rw [if_neg c] at q
    exact ⟨_, rfl, q⟩

abbrev s__law_braided : Stmt := top 46
theorem sc__law_braided : FnScope ["_law_first", "_law_second", "_law_third", "_law_big", "_law_other", "_law_sign_here"] ["_law_first", "_law_second", "_law_third"] (defScope s__law_braided) := ⟨rfl, rfl, rfl, by decide +kernel, rfl, by decide +kernel, by decide +kernel⟩
theorem ok__law_braided {f1 : Addr} {e1 : FuncData} (d : D K mg "_law_braided" s__law_braided ["_law_first", "_law_second", "_law_third"] f fd) (B : Blt mg) (BW : BltW mg) (d__law_sign : D K mg "_law_sign" s__law_sign ["_law_number"] f1 e1) : FnOk P w K mg base CX0 2 f fd ["_law_first", "_law_second", "_law_third"] spBrd := by
  have G__law_sign : FnOk P w K mg base CX0 1 f1 e1 ["_law_number"] spSign := ok__law_sign d__law_sign
  refine d.F.ok sc__law_braided (fun vs H Q E h => ?_) (fun cdv A outer s H vs Q E hr h => ?_)
  · obtain ⟨_, _, _, rfl, _⟩ := h
    rfl
  obtain ⟨a, b, c, rfl, q⟩ := h
  refine ⟨_, (pss_cons (ps_par3 (i := 3) (j := 4) (l := 5) (by rfl) sc__law_braided.nd rfl rfl rfl (by decide) (by decide) (by decide) rfl rfl rfl (pa_cons (pe_callB call_abs (by rfl) BW.abs (by decide +kernel) (pa_cons (pv 0) pa_nil)) (pa_cons (pe_callB call_abs (by rfl) BW.abs (by decide +kernel) (pa_cons (pv 1) pa_nil)) (pa_cons (pe_call G__law_sign (hr.mono (by decide)) rfl d__law_sign.m d__law_sign.F.kp d__law_sign.b .nil pass0 (pa_cons (pv 0) pa_nil)) pa_nil))) (by rfl))
 (pss_cons (ps_if (PW.pt (pw_or (pt_cmpR op_ne (pe_callB call_abs (by rfl) BW.abs (by decide +kernel) (pa_cons (pv 2) pa_nil)) (pv 3) (nomark _)) (pw_or1 (pt_cmpR op_ne (pe_callB call_abs (by rfl) BW.abs (by decide +kernel) (pa_cons (pe_op op_sub (pv 3) (pv 4)) pa_nil)) pe_int (nomark _))))) (pss_one (ps_ret pe_non)) pss_nil)
 (pss_cons (ps_if (pt_cmpR op_eq (pv 2) (pe_op op_sub pe_int (pv 0)) (nomark _)) (pss_one (ps_ret (pe_lst (pa_cons (pe_op op_sub pe_int (pe_op op_mul (pv 5) (pv 4))) (pa_cons (pe_op op_mul (pe_call G__law_sign (hr.mono (by decide)) rfl d__law_sign.m d__law_sign.F.kp d__law_sign.b .nil pass0 (pa_cons (pv 1) pa_nil)) (pv 3)) (pa_cons (pe_op op_mul (pv 5) (pv 4)) pa_nil)))))) pss_nil)
 (pss_one (ps_ret (pe_ifExp (pt_cmpR op_eq (pe_call G__law_sign (hr.mono (by decide)) rfl d__law_sign.m d__law_sign.F.kp d__law_sign.b .nil pass0 (pa_cons (pv 1) pa_nil)) (pv 5) (nomark _)) (pe_lst (pa_cons (pv 1) (pa_cons (pv 0) (pa_cons (pv 1) pa_nil)))) pe_non)))))), ?_⟩
  refine ⟨_, rfl, a, rfl, _, rfl, b, rfl, _, rfl, a, rfl, ?_⟩
  refine ⟨_, _, _, rfl, ?_⟩
  show tSeq _ _ _ [some (.int a), some (.int b), some (.int c), some (.int (ab a)), some (.int (ab b)), some (.int (lsg a))] H
  have nB : ∀ {x y : Int}, (!decide (V.int x = V.int y)) = true → x ≠ y := fun h z => by
    rw [z, decide_eq_true rfl] at h
    cases h
  have nB' : ∀ {x y : Int}, ¬ (!decide (V.int x = V.int y)) = true → x = y := fun h => Classical.byContradiction fun z => h (by rw [decide_eq_false fun y => z (V.int.inj y)]; rfl)
  refine ⟨_, rfl, c, rfl, _, rfl, rfl, _, rfl, ?_⟩
  have none1 : (ab c ≠ ab a ∨ ab (ab a - ab b) ≠ 1) → brd a b c = none := fun h => by unfold brd; rw [if_pos h]
  refine ite2 (fun c1 => ?_) (fun c1 => ?_)
  · have c1 : ab c ≠ ab a := nB c1
    refine iteT ?_
    exact q .non H (Same.refl _) (by rw [none1 (.inl c1)]; rfl)
  have c1 : ab c = ab a := nB' c1
  refine ⟨_, rfl, _, rfl, _, _, rfl, rfl, _, rfl, rfl, _, rfl, ?_⟩
  refine ite2 (fun c2 => ?_) (fun c2 => ?_)
  · have c2 : ab (ab a - ab b) ≠ 1 := nB c2
    exact q .non H (Same.refl _) (by rw [none1 (.inr c2)]; rfl)
  have c2 : ab (ab a - ab b) = 1 := nB' c2
  have e0 : brd a b c = if c = 0 - a then some [0 - lsg a * ab b, lsg b * ab a, lsg a * ab b] else if lsg b = lsg a then some [b, a, b] else none := by
    conv => lhs; unfold brd
    rw [if_neg (fun z => z.elim (fun y => y c1) (fun y => y c2))]
  have lb := lsg_b a
  refine ⟨_, rfl, _, rfl, _, _, rfl, rfl, rfl, _, rfl, ?_⟩
  refine ite2 (fun c3 => ?_) (fun c3 => ?_)
  · have c3 : c = 0 - a := V.int.inj (of_decide_eq_true c3)
    rw [if_pos c3] at e0
    refine ⟨_, rfl, _, rfl, _, _, rfl, rfl, .inl lb, _, _, rfl, rfl, _, rfl, b, rfl, _, rfl, _, _, rfl, rfl, .inl (lsg_b b), _, rfl, _, rfl, _, _, rfl, rfl, .inl lb, three_le, fun p np => ?_⟩
    exact q _ _ (Same.new np _) (by rw [e0]; exact ⟨p, rfl, np, upd_same⟩)
  have c3 : c ≠ 0 - a := fun z => c3 (decide_eq_true (congrArg V.int z))
  rw [if_neg c3] at e0
  refine ⟨_, rfl, b, rfl, _, rfl, rfl, _, rfl, ?_⟩
  refine ite2 (fun c4 => ?_) (fun c4 => ?_)
  · have c4 : lsg b = lsg a := V.int.inj (of_decide_eq_true c4)
    rw [if_pos c4] at e0
    refine ⟨_, rfl, _, rfl, _, rfl, three_le, fun p np => ?_⟩
    exact q _ _ (Same.new np _) (by rw [e0]; exact ⟨p, rfl, np, upd_same⟩)
  · have c4 : lsg b ≠ lsg a := fun z => c4 (decide_eq_true (congrArg V.int z))
    rw [if_neg c4] at e0
    exact q .non H (Same.refl _) (by rw [e0]; rfl)

abbrev s_are_letters : Stmt := top 27
theorem sc_are_letters : FnScope ["numbers", "number"] ["numbers"] (defScope s_are_letters) := ⟨rfl, rfl, rfl, by decide +kernel, rfl, by decide +kernel, by decide +kernel⟩
theorem ok_are_letters {f1 : Addr} {e1 : FuncData} (d : D K mg "are_letters" s_are_letters ["numbers"] f fd) (B : Blt mg) (BW : BltW mg) (CW : CstW mg) (d_is_letter : D K mg "is_letter" s_is_letter ["number"] f1 e1) : FnOk P w K mg base CX0 2 f fd ["numbers"] (spAre K) := by
  have G_is_letter : FnOk P w K mg base CX0 1 f1 e1 ["number"] spLet := ok_is_letter d_is_letter BW CW
  refine d.F.ok sc_are_letters (fun vs H Q E h => ?_) (fun cdv A outer s H vs Q E hr h => ?_)
  · obtain ⟨_, _, rfl, _⟩ := h
    rfl
  obtain ⟨a, ns, rfl, hS, hl, q⟩ := h
  refine ⟨_, (pss_one (ps_ret (pe_callB (cr_all rfl) (by rfl) B.all (by decide +kernel) (pa_cons (pe_lc (own := [("number", 1)]) (g := gName 1) (tt := tYes) (by rfl) sc_are_letters.nd (pi_tup (pv 0)) (blkOk_by (own := [("number", 1)]) (N := ["numbers", "number"]) (sc := defScope s_are_letters) (by decide +kernel)) (fun _ _ _ _ _ => (pg_name (i := 1) sc_are_letters.nd rfl (Or.inl rfl))) (fun _ _ _ _ _ => pts_nil) (fun _ _ _ _ _ => (pe_call G_is_letter (hr.mono (by decide)) rfl d_is_letter.m d_is_letter.F.kp d_is_letter.b .nil pass0 (pa_cons (pv 1) pa_nil)))) pa_nil)))), ?_⟩
  refine ⟨_, rfl, a, rfl, ⟨_, hS⟩, fun D hD => ?_⟩
  refine lc_mapT (ψ := fun v => .bl (isLet (vInt v))) hD hS (by rw [List.length_map]; exact hl) (fun x G R hx sm k => ?_) (fun G sm hg => ?_)
  · obtain ⟨n, _, rfl⟩ := mem_int hx
    exact ⟨rfl, _, rfl, n, rfl, k G (Same.refl _)⟩
  · rw [map_int (ψ := fun n => V.bl (isLet n))] at hg
    refine ⟨D, ns.map isLet, rfl, SqL.here (by rw [hg, List.map_map]; rfl), ?_⟩
    rw [List.all_map]
    exact q G sm

abbrev s_check_word : Stmt := top 28
theorem sc_check_word : FnScope ["word"] ["word"] (defScope s_check_word) := ⟨rfl, rfl, rfl, by decide +kernel, rfl, by decide +kernel, by decide +kernel⟩
theorem ok_check_word {f1 f2 C0 : Addr} {e1 e2 : FuncData} (d : D K mg "check_word" s_check_word ["word"] f fd) (B : Blt mg) (BW : BltW mg) (CW : CstW mg) (EC : ErrC K mg "InvalidWord" C0) (d_is_letter : D K mg "is_letter" s_is_letter ["number"] f1 e1) (d_are_letters : D K mg "are_letters" s_are_letters ["numbers"] f2 e2) : FnOk P w K mg base (L2N.CX P w) 3 f fd ["word"] (spChkW K C0) := by
  have G_are_letters : FnOk P w K mg base CX0 2 f2 e2 ["numbers"] (spAre K) := ok_are_letters d_are_letters B BW CW d_is_letter
  obtain ⟨_, ⟨t2, C_MAX_LETTERS⟩⟩ := CW
  refine Fun.okN d.F sc_check_word (fun vs H Q E h => ?_) (fun cdv A outer s H vs Q E hr h => ?_)
  · obtain ⟨_, _, rfl, _⟩ := h
    rfl
  obtain ⟨a, ns, rfl, hS, hl, h1, h2⟩ := h
  refine ⟨_, (pss_one (ps_if (PW.pt (pw_or (pt_cmpR op_gt (pe_callB call_len_seq (by rfl) B.len PySem.boot_len (pa_cons (pv 0) pa_nil)) (pe_glob (v := .int 300) rfl C_MAX_LETTERS ⟨_, rfl⟩) (nomark _)) (pw_or1 (pt_not (pt_val (pe_call G_are_letters (hr.mono (by decide)) rfl d_are_letters.m d_are_letters.F.kp d_are_letters.b .nil pass0 (pa_cons (pv 0) pa_nil))))))) (pss_one (L2N.ps_raise rfl (L2N.takes_of rfl rfl rfl rfl) (L2N.pmk_own PySem.F.excBase_ValueError EC.q EC.g EC.k (raises_own EC.b EC.t) (by exact rfl)))) pss_nil)), ?_⟩
  refine ⟨_, rfl, a, _, rfl, .inr hS, _, _, rfl, rfl, _, rfl, ?_⟩
  have e0 : okW ns = (decide (ns.length ≤ 300) && ns.all isLet) := rfl
  refine ite2 (fun c => ?_) (fun c => ?_)
  · have c : ((ns.map V.int).length : Int) > 300 := of_decide_eq_true c
    rw [List.length_map] at c
    exact h2 (by rw [e0, decide_eq_false (by omega)]; rfl) H (Same.refl _)
  · have c : ¬ ((ns.map V.int).length : Int) > 300 := fun z => c (decide_eq_true z)
    rw [List.length_map] at c
    rw [decide_eq_true (by omega), Bool.true_and] at e0
    refine ⟨_, rfl, a, ns, rfl, hS, hl, fun H' sm => ⟨_, rfl, ?_⟩⟩
    cases e : ns.all isLet with
    | true => exact iteF (h1 (e0.trans e) H' sm)
    | false => exact iteT (h2 (e0.trans e) H' sm)

abbrev s__law_draws : Stmt := top 36
theorem sc__law_draws : FnScope ["_law_script", "_law_salt", "_law_cell"] ["_law_script"] (defScope s__law_draws) := ⟨rfl, rfl, rfl, by decide +kernel, rfl, by decide +kernel, by decide +kernel⟩
theorem ok__law_draws (d : D K mg "_law_draws" s__law_draws ["_law_script"] f fd) (B : Blt mg) : FnOk P w K mg base CX0 1 f fd ["_law_script"] (spDraws K) := by
  refine d.F.ok sc__law_draws (fun vs H Q E h => ?_) (fun cdv A outer s H vs Q E hr h => ?_)
  · obtain ⟨a, ns, rfl, _⟩ := h
    rfl
  obtain ⟨a, ns, rfl, hS, q⟩ := h
  refine ⟨_, (pss_cons (ps_set (i := 1) sc__law_draws.nd rfl (Or.inl rfl) pe_int)
 (pss_cons (ps_for PassesOwn.never rfl (pi_list (pe_slice sl_list (pv 0) po_none (po_some pe_int))) (pg_name (i := 2) sc__law_draws.nd rfl (Or.inl rfl))
  (pss_one (ps_set (i := 1) sc__law_draws.nd rfl (Or.inl rfl) (pe_op op_mod (pe_op op_add (pe_op op_add (pe_op op_mul (pv 1) pe_int) (pe_op op_mod (pv 2) pe_int)) pe_int) pe_int))))
 (pss_one (ps_ret (pe_lst (pa_cons (pe_callTy call_list_of (by rfl) B.list (by decide +kernel) (pa_cons (pe_slice sl_list (pv 0) po_none (po_some pe_int)) pa_nil)) (pa_cons pe_int (pa_cons pe_int (pa_cons (pv 1) pa_nil))))))))), ?_⟩
  refine ⟨_, rfl, 63, rfl, a, _, rfl, hS, fun p hp => ?_⟩
  rw [cut63]
  have s1 : Same H (upd H p (.lst ((ns.take 63).map V.int))) := Same.new hp _
  refine ⟨p, rfl, ⟨_, SqL.here upd_same⟩, for_list (K := K) (a := p) (xs := (ns.take 63).map V.int) (fun i σ H' => ∃ (s : Int) (v : Option V), σ = [some (.ref a), some (.int s), v] ∧ 0 ≤ s ∧ s < 2147483647 ∧ H' = upd H p (.lst ((ns.take 63).map V.int)))
    ⟨9471, none, rfl, by decide, by decide, rfl⟩ (fun i σ H' _ ⟨_, _, _, _, _, e⟩ => by rw [e]; exact SqL.here upd_same) ?_ ?_⟩
  · rintro i x σ H' hi ⟨s, v, rfl, h0, h1, rfl⟩
    obtain ⟨u, rfl⟩ : ∃ u, x = V.int u := by
      rw [List.getElem?_map] at hi
      cases e : (ns.take 63)[i]? with
      | none =>
        rw [e] at hi
        cases hi
      | some u =>
        rw [e] at hi
        exact ⟨u, (Option.some.inj hi).symm⟩
    refine ⟨_, rfl, _, _, rfl, rfl, .inl ⟨by omega, by omega⟩, _, rfl, _, _, rfl, rfl, (by show (0 : Int) < 2147483587; decide), _, _, rfl, rfl, _, _, rfl, rfl, _, _, rfl, rfl, (by show (0 : Int) < 2147483647; decide), ?_⟩
    exact ⟨_, _, rfl, Int.emod_nonneg _ (by decide), Int.emod_lt_of_pos _ (by decide), rfl⟩
  · rintro σ H' ⟨s, v, rfl, h0, h1, rfl⟩
    refine ⟨_, rfl, 63, rfl, a, _, rfl, s1.seq hS, fun p2 hp2 => ?_⟩
    rw [cut63]
    have s2 := s1.trans (Same.new hp2 (.lst ((ns.take 63).map V.int)))
    refine ⟨p2, _, rfl, .inl (SqL.here upd_same), fun c hc => ?_⟩
    have s3 := s2.trans (Same.new hc (.lst ((ns.take 63).map V.int)))
    refine ⟨_, rfl, four_le, fun r hr' => ?_⟩
    have nrc : c ≠ r := fun e => by
      rw [← e, upd_same] at hr'
      cases hr'
    refine q r _ (s3.trans (Same.new hr' _)) (s3.free hr') ⟨c, ns.take 63, 0, 0, s, upd_same, ?_, nrc, by decide, by decide, h0, h1⟩
    rw [upd_ne nrc, upd_same]

abbrev s__law_draw : Stmt := top 37
theorem sc__law_draw : FnScope ["_law_rng", "_law_amount", "_law_cell", "_law_got", "_law_seed"] ["_law_rng", "_law_amount"] (defScope s__law_draw) := ⟨rfl, rfl, rfl, by decide +kernel, rfl, by decide +kernel, by decide +kernel⟩
theorem ok__law_drawC (d : D K mg "_law_draw" s__law_draw ["_law_rng", "_law_amount"] f fd) (B : Blt mg) : FnOk P w K mg base CX0 1 f fd ["_law_rng", "_law_amount"] spDrawC := by
  refine d.F.ok sc__law_draw (fun vs H Q E h => ?_) (fun cdv A outer s H vs Q E hr h => ?_)
  · obtain ⟨_, _, _, rfl, _⟩ := h
    rfl
  obtain ⟨r, n, c, rfl, ⟨ns, i, b, s, hR, hC, ncr, hi, hb, h0, h1⟩, hn, hn2, q⟩ := h
  refine ⟨_, (C8.pss_cut (ps_if (PW.pt (pw_and (pt_cmpR op_eq (pe_ix ix_list (pv 0) pe_int (fun _ _ => rfl)) pe_int (nomark _)) (pw_and1 (pt_cmpR op_lt (pe_ix ix_list (pv 0) pe_int (fun _ _ => rfl)) (pe_callB call_len_seq (by rfl) B.len PySem.boot_len (pa_cons (pe_ix ix_list (pv 0) pe_int (fun _ _ => rfl)) pa_nil)) (nomark _))))) (pss_cons (ps_set (i := 2) sc__law_draw.nd rfl (Or.inl rfl) (pe_ix ix_list (pe_ix ix_list (pv 0) pe_int (fun _ _ => rfl)) (pe_ix ix_list (pv 0) pe_int (fun _ _ => rfl)) (fun _ _ => rfl)))
 (pss_cons (ps_asg (pe_op op_add (pe_ix ix_list (pv 0) pe_int (fun _ _ => rfl)) pe_int) (pg_sub (pv 0) pe_int set_list))
 (pss_one (ps_if (pt_cmpR op_ge (pv 2) (pe_op op_pow pe_int pe_int) (nomark _)) (pss_one (ps_asg (pv 2) (pg_sub (pv 0) pe_int set_list))) (pss_one (ps_asg (pe_op op_mod (pe_op op_add (pe_op op_add (pe_op op_mul (pe_ix ix_list (pv 0) pe_int (fun _ _ => rfl)) pe_int) (pe_op op_mul (pe_op op_mod (pv 2) pe_int) pe_int)) pe_int) pe_int) (pg_sub (pv 0) pe_int set_list))))))) pss_nil)
 (pss_cons (ps_if (pt_cmpR op_gt (pe_ix ix_list (pv 0) pe_int (fun _ _ => rfl)) pe_int (nomark _)) (pss_cons (ps_set (i := 3) sc__law_draw.nd rfl (Or.inl rfl) (pe_op op_mod (pe_ix ix_list (pv 0) pe_int (fun _ _ => rfl)) (pv 1)))
 (pss_cons (ps_asg (pe_op op_fdiv (pe_ix ix_list (pv 0) pe_int (fun _ _ => rfl)) (pv 1)) (pg_sub (pv 0) pe_int set_list))
 (pss_one (ps_ret (pv 3))))) pss_nil)
 (pss_cons (ps_set (i := 4) sc__law_draw.nd rfl (Or.inl rfl) (pe_ix ix_list (pv 0) pe_int (fun _ _ => rfl)))
 (pss_cons (ps_asg (pe_op op_mod (pe_op op_add (pe_op op_add (pe_op op_mul (pv 4) pe_int) (pe_op op_mul (pe_op op_fdiv (pv 4) pe_int) pe_int)) pe_int) pe_int) (pg_sub (pv 0) pe_int set_list))
 (pss_one (ps_ret (pe_op op_mod (pe_op op_add (pe_op op_fdiv (pe_ix ix_list (pv 0) pe_int (fun _ _ => rfl)) pe_int) (pe_op op_mul (pe_op op_mod (pe_ix ix_list (pv 0) pe_int (fun _ _ => rfl)) pe_int) pe_int)) (pv 1)))))))), ?_⟩
  refine ⟨fun σ H1 => ∃ (i b s : Int) (cell : Option V), σ = [some (.ref r), some (.int n), cell, none, none] ∧ But r H H1 ∧ H1 r = some (.lst [.ref c, .int i, .int b, .int s]) ∧ H1 c = some (.lst (ns.map V.int)) ∧ 0 ≤ i ∧ 0 ≤ b ∧ 0 ≤ s ∧ s < 2147483647, ?_, ?_⟩
  · refine ⟨_, rfl, r, _, 2, _, rfl, rfl, SqL.here hR, rfl, rfl, _, rfl, ?_⟩
    refine ite2 (fun c1 => ?_) (fun c1 => ?_)
    · refine ⟨_, rfl, r, _, 1, _, rfl, rfl, SqL.here hR, rfl, _, rfl, r, _, 0, _, rfl, rfl, SqL.here hR, rfl, c, _, rfl, .inl (SqL.here hC), _, _, rfl, rfl, _, rfl, ?_⟩
      refine ite2 (fun c2 => ?_) (fun c2 => ?_)
      · have c3 : i < (((ns.map V.int).length : Nat) : Int) := of_decide_eq_true c2
        rw [List.length_map] at c3
        have hk : i.toNat < ns.length := by omega
        have ek : i = ((i.toNat : Nat) : Int) := by omega
        obtain ⟨u, q1⟩ : ∃ u, atI (ns.map V.int) i = some (.int u) := by
          refine ⟨ns[i.toNat], ?_⟩
          have q0 : atI (ns.map V.int) ((i.toNat : Nat) : Int) = some (.int ns[i.toNat]) := atI_nat (by rw [List.getElem?_map, List.getElem?_eq_getElem hk] <;> rfl)
          rw [← ek] at q0
          exact q0
        refine ⟨_, rfl, r, _, 0, _, rfl, rfl, SqL.here hR, rfl, _, rfl, r, _, 1, _, rfl, rfl, SqL.here hR, rfl, c, _, i, _, rfl, rfl, SqL.here hC, q1, ?_⟩
        -- rng[1] = rng[1] + 1
        refine ⟨_, rfl, r, _, 1, _, rfl, rfl, SqL.here hR, rfl, _, _, rfl, rfl, _, rfl, r, _, 1, 1, rfl, rfl, hR, rfl, ?_⟩
        have hC2 : (upd H r (.lst [.ref c, .int (i + 1), .int b, .int s])) c = some (.lst (ns.map V.int)) := by rw [upd_ne ncr]; exact hC
        refine ⟨_, rfl, _, _, rfl, rfl, ⟨by decide, by decide, by decide⟩, _, _, rfl, rfl, _, rfl, ?_⟩
        refine ite2 (fun c4 => ?_) (fun c4 => ?_)
        · have c5 : (10 : Int) ^ (18 : Int).toNat ≤ u := of_decide_eq_true c4
          have c6 : (0 : Int) ≤ (10 : Int) ^ (18 : Int).toNat := by decide
          refine ⟨_, rfl, _, rfl, r, _, 2, 2, rfl, rfl, upd_same, rfl, ?_⟩
          refine ⟨i + 1, u, s, _, rfl, But.set.trans But.set, upd_same, ?_, by omega, by omega, h0, h1⟩
          rw [upd_ne ncr]
          exact hC2
        · refine ⟨_, rfl, r, _, 3, _, rfl, rfl, SqL.here upd_same, rfl, _, _, rfl, rfl, .inl ⟨by omega, by omega⟩, _, rfl, _, _, rfl, rfl, (by show (0 : Int) < 2147483587; decide), _, _, rfl, rfl, .inl ⟨?_, ?_⟩, _, _, rfl, rfl, _, _, rfl, rfl, _, _, rfl, rfl, (by show (0 : Int) < 2147483647; decide), _, rfl, r, _, 3, 3, rfl, rfl, upd_same, rfl, ?_⟩
          · have := Int.emod_nonneg u (show (2147483587 : Int) ≠ 0 by decide)
            omega
          · have := Int.emod_lt_of_pos u (show (0 : Int) < 2147483587 by decide)
            omega
          · refine ⟨i + 1, b, _, _, rfl, But.set.trans But.set, upd_same, ?_, by omega, hb, Int.emod_nonneg _ (by decide), Int.emod_lt_of_pos _ (by decide)⟩
            rw [upd_ne ncr]
            exact hC2
      · exact ⟨i, b, s, none, rfl, fun _ _ _ h => h, hR, hC, hi, hb, h0, h1⟩
    · exact iteF ⟨i, b, s, none, rfl, fun _ _ _ h => h, hR, hC, hi, hb, h0, h1⟩
  · rintro σ H1 ⟨i, b, s, cell, rfl, e1, hR, hC, hi, hb, h0, h1⟩
    refine ⟨_, rfl, r, _, 2, _, rfl, rfl, SqL.here hR, rfl, _, _, rfl, rfl, _, rfl, ?_⟩
    refine ite2 (fun c1 => ?_) (fun c1 => ?_)
    · refine ⟨_, rfl, r, _, 2, _, rfl, rfl, SqL.here hR, rfl, _, rfl, _, _, rfl, rfl, hn, ?_⟩
      refine ⟨_, rfl, r, _, 2, _, rfl, rfl, SqL.here hR, rfl, _, rfl, _, _, rfl, rfl, ⟨hn, hn2⟩, _, rfl, r, _, 2, 2, rfl, rfl, hR, rfl, _, rfl, ?_⟩
      refine q _ _ (Int.emod_nonneg _ (by omega)) (Int.emod_lt_of_pos _ hn) ⟨ns, i, _, s, upd_same, ?_, ncr, hi, Int.ediv_nonneg hb (by omega), h0, h1⟩ (e1.trans But.set)
      rw [upd_ne ncr]
      exact hC
    · refine ⟨_, rfl, r, _, 3, _, rfl, rfl, SqL.here hR, rfl, ?_⟩
      refine ⟨_, rfl, _, _, rfl, rfl, .inl ⟨by omega, by omega⟩, _, rfl, _, _, rfl, rfl, ⟨by decide, by decide⟩, _, _, rfl, rfl, .inl ⟨?_, ?_⟩, _, _, rfl, rfl, _, _, rfl, rfl, _, _, rfl, rfl, (by show (0 : Int) < 2147483647; decide), _, rfl, r, _, 3, 3, rfl, rfl, hR, rfl, ?_⟩
      · have := Int.ediv_nonneg h0 (show (0 : Int) ≤ 65539 by decide)
        omega
      · have : s / 65539 ≤ s := Int.ediv_le_self _ h0
        omega
      · have z0 : 0 ≤ (s * 62089 + s / 65539 * 29 + 1013904223) % 2147483647 := Int.emod_nonneg _ (by decide)
        have z1 : (s * 62089 + s / 65539 * 29 + 1013904223) % 2147483647 < 2147483647 := Int.emod_lt_of_pos _ (by decide)
        refine ⟨_, rfl, r, _, 3, _, rfl, rfl, SqL.here upd_same, rfl, _, _, rfl, rfl, ⟨by decide, by decide⟩, _, rfl, r, _, 3, _, rfl, rfl, SqL.here upd_same, rfl, _, _, rfl, rfl, (by show (0 : Int) < 8191; decide), _, _, rfl, rfl, .inl ⟨?_, ?_⟩, _, _, rfl, rfl, _, rfl, _, _, rfl, rfl, hn, ?_⟩
        · have := Int.emod_nonneg ((s * 62089 + s / 65539 * 29 + 1013904223) % 2147483647) (show (8191 : Int) ≠ 0 by decide)
          omega
        · have := Int.emod_lt_of_pos ((s * 62089 + s / 65539 * 29 + 1013904223) % 2147483647) (show (0 : Int) < 8191 by decide)
          omega
        · refine q _ _ (Int.emod_nonneg _ (by omega)) (Int.emod_lt_of_pos _ hn) ⟨ns, i, b, _, upd_same, ?_, ncr, hi, hb, z0, z1⟩ (e1.trans But.set)
          rw [upd_ne ncr]
          exact hC
theorem ok__law_draw (d : D K mg "_law_draw" s__law_draw ["_law_rng", "_law_amount"] f fd) (B : Blt mg) : FnOk P w K mg base CX0 1 f fd ["_law_rng", "_law_amount"] spDraw := (ok__law_drawC d B).imp fun _ _ _ _ => spDraw_C

abbrev s__law_pick : Stmt := top 38
theorem sc__law_pick : FnScope ["_law_rng", "_law_terms"] ["_law_rng", "_law_terms"] (defScope s__law_pick) := ⟨rfl, rfl, rfl, by decide +kernel, rfl, by decide +kernel, by decide +kernel⟩
theorem ok__law_pickC {f1 : Addr} {e1 : FuncData} (d__law_pick : D K mg "_law_pick" s__law_pick ["_law_rng", "_law_terms"] f fd) (B : Blt mg) (d__law_draw : D K mg "_law_draw" s__law_draw ["_law_rng", "_law_amount"] f1 e1) : FnOk P w K mg base CX0 2 f fd ["_law_rng", "_law_terms"] (spPickC K) := by
  have G__law_draw : FnOk P w K mg base CX0 1 f1 e1 ["_law_rng", "_law_amount"] spDrawC := ok__law_drawC d__law_draw B
  refine d__law_pick.F.ok sc__law_pick (fun vs H Q E h => ?_) (fun cdv A outer s H vs Q E hr h => ?_)
  · obtain ⟨_, _, _, _, rfl, _⟩ := h
    rfl
  obtain ⟨r, l, c, xs, rfl, hR, hS, h0, h1, hn, q⟩ := h
  refine ⟨_, (pss_one (ps_ret (pe_ix (r := rIx K) ix_seq (pv 1) (pe_call G__law_draw (hr.mono (by decide)) rfl d__law_draw.m d__law_draw.F.kp d__law_draw.b .nil pass0 (pa_cons (pv 0) (pa_cons (pe_callB call_len_seq (by rfl) B.len PySem.boot_len (pa_cons (pv 1) pa_nil)) pa_nil))) (fun _ _ => rfl)))), ?_⟩
  refine ⟨_, rfl, _, rfl, _, rfl, l, xs, rfl, hS, r, _, c, rfl, hR, by omega, by omega, fun n H' n0 n1 R' b' => ?_⟩
  exact rix_in (hS.imp (b'.sqL hn) (b'.sqT hn)) n0 n1 fun v hv => q v H' hv R' b'
theorem ok__law_pick {f1 : Addr} {e1 : FuncData} (d__law_pick : D K mg "_law_pick" s__law_pick ["_law_rng", "_law_terms"] f fd) (B : Blt mg) (d__law_draw : D K mg "_law_draw" s__law_draw ["_law_rng", "_law_amount"] f1 e1) : FnOk P w K mg base CX0 2 f fd ["_law_rng", "_law_terms"] (spPick K) := (ok__law_pickC d__law_pick B d__law_draw).imp fun _ _ _ _ => spPick_C

abbrev s__law_same : Stmt := top 39
theorem sc__law_same : FnScope ["_law_result", "_law_expected_here", "_law_k"] ["_law_result", "_law_expected_here"] (defScope s__law_same) := ⟨rfl, rfl, rfl, by decide +kernel, rfl, by decide +kernel, by decide +kernel⟩
theorem same_ix {H : Hp} {x y : V} {d : PyData} {ds : List PyData} (hd : d = .list ds ∨ d = .tuple ds) (hx : Dp K H x d) : ∃ a xs, x = .ref a ∧ (SqL K H a xs ∨ SqT K H a xs) ∧ DpAll K H xs ds := by
  rcases hd with rfl | rfl
  · cases hx with
    | lst hs ha => exact ⟨_, _, rfl, .inl hs, ha⟩
  · cases hx with
    | tup hs ha => exact ⟨_, _, rfl, .inr hs, ha⟩
theorem rix_of {H : Hp} {a : Addr} {xs : List V} {i : Nat} {v : V} {Q : VK} (h : SqL K H a xs ∨ SqT K H a xs) (hi : xs[i]? = some v) (q : Q v H) : rIx K (.ref a) (.int (0 + (i : Int))) H Q := by
  have e : (0 + (i : Int)) = (i : Int) := by omega
  rcases h with h | h
  · exact .inl ⟨a, xs, _, v, rfl, rfl, h, by rw [e]; exact atI_nat hi, q⟩
  · exact .inr (.inl ⟨a, xs, _, v, rfl, rfl, h, by rw [e]; exact atI_nat hi, q⟩)
theorem same_sq {H H' : Hp} {a : Addr} {xs : List V} (e : Same H H') (h : SqL K H a xs ∨ SqT K H a xs) : SqL K H' a xs ∨ SqT K H' a xs := by
  rcases h with h | h
  · exact .inl (e.seq h)
  · exact .inr ((Tp.same e).sqT h)
theorem ok__law_same (d__law_same : D K mg "_law_same" s__law_same ["_law_result", "_law_expected_here"] f fd) (B : Blt mg) : ∀ n : Nat, FnOk P w K mg base CX0 n f fd ["_law_result", "_law_expected_here"] (spSame K n)
  | 0 => fn_none fun vs H Q E h => by
    obtain ⟨_, _, _, _, _, _, _, h, _⟩ := h
    omega
  | n + 1 => by
    have G__law_same := ok__law_same d__law_same B n
    refine d__law_same.F.ok sc__law_same (fun vs H Q E h => ?_) (fun cdv A outer s H vs Q E hr h => ?_)
    · obtain ⟨_, _, _, rfl, _⟩ := h
      rfl
    obtain ⟨x, y, d, rfl, hx, hy, hs, hd, hw, q⟩ := h
    refine ⟨_, (pss_cons (ps_if (pt_val (pe_callB call_isi (by rfl) B.isinstance (by decide +kernel) (pa_cons (pv 1) (pa_cons (pe_bltn (v := .ty "dict") (by rfl) B.dict (by decide +kernel) rfl) pa_nil)))) (pss_one ps_never) pss_nil)
 (pss_cons (ps_if (PW.pt (pw_or (pt_cmpR op_ne (pe_callB call_isi (by rfl) B.isinstance (by decide +kernel) (pa_cons (pv 1) (pa_cons (pe_bltn (v := .ty "tuple") (by rfl) B.tuple (by decide +kernel) rfl) pa_nil))) (pe_callB call_isi (by rfl) B.isinstance (by decide +kernel) (pa_cons (pv 0) (pa_cons (pe_bltn (v := .ty "tuple") (by rfl) B.tuple (by decide +kernel) rfl) pa_nil))) (nomark _)) (pw_or1 (pt_cmpR op_ne (pe_callB call_isi (by rfl) B.isinstance (by decide +kernel) (pa_cons (pv 1) (pa_cons (pe_bltn (v := .ty "list") (by rfl) B.list (by decide +kernel) rfl) pa_nil))) (pe_callB call_isi (by rfl) B.isinstance (by decide +kernel) (pa_cons (pv 0) (pa_cons (pe_bltn (v := .ty "list") (by rfl) B.list (by decide +kernel) rfl) pa_nil))) (nomark _))))) (pss_one (ps_ret pe_bl)) pss_nil)
 (pss_cons (ps_if (pt_not (pt_val (pe_callB call_isiT (by rfl) B.isinstance (by decide +kernel) (pa_cons (pv 1) (pa_cons (pe_tup (pa_cons (pe_bltn (v := .ty "tuple") (by rfl) B.tuple (by decide +kernel) rfl) (pa_cons (pe_bltn (v := .ty "list") (by rfl) B.list (by decide +kernel) rfl) pa_nil))) pa_nil))))) (pss_one (ps_ret (pe_and (pe_cmpR op_eq (pe_callB call_isi (by rfl) B.isinstance (by decide +kernel) (pa_cons (pv 0) (pa_cons (pe_bltn (v := .ty "bool") (by rfl) B.bool (by decide +kernel) rfl) pa_nil))) (pe_callB call_isi (by rfl) B.isinstance (by decide +kernel) (pa_cons (pv 1) (pa_cons (pe_bltn (v := .ty "bool") (by rfl) B.bool (by decide +kernel) rfl) pa_nil))) (nomark _)) (pe_one (pe_cmpR (op_eqD hr.units) (pv 0) (pv 1) (nomark _)))))) pss_nil)
 (pss_one (ps_ret (pe_and (pe_cmpR op_eq (pe_callB call_len_seq (by rfl) B.len PySem.boot_len (pa_cons (pv 0) pa_nil)) (pe_callB call_len_seq (by rfl) B.len PySem.boot_len (pa_cons (pv 1) pa_nil)) (nomark _)) (pe_one (pe_callB (cr_all rfl) (by rfl) B.all (by decide +kernel) (pa_cons (pe_lc (own := [("_law_k", 2)]) (g := gName 2) (tt := tYes) (by rfl) sc__law_same.nd (pi_range1 (by rfl) B.range (pa_cons (pe_callB call_len_seq (by rfl) B.len PySem.boot_len (pa_cons (pv 1) pa_nil)) pa_nil)) (blkOk_by (own := [("_law_k", 2)]) (N := ["_law_result", "_law_expected_here", "_law_k"]) (sc := defScope s__law_same) (by decide +kernel)) (fun _ _ _ _ _ => (pg_name (i := 2) sc__law_same.nd rfl (Or.inl rfl))) (fun _ _ _ _ _ => pts_nil) (fun _ _ _ _ _ => (pe_call G__law_same hr rfl d__law_same.m d__law_same.F.kp d__law_same.b .nil pass0 (pa_cons (pe_ix (r := rIx K) ix_seq (pv 0) (pv 2) (fun _ _ => rfl)) (pa_cons (pe_ix (r := rIx K) ix_seq (pv 1) (pv 2) (fun _ _ => rfl)) pa_nil))))) pa_nil))))))))), ?_⟩
    refine ⟨_, rfl, _, _, _, _, false, rfl, .ty "dict", dp_ty hy, kit_dict hy, false, rfl, iteF ?_⟩
    refine ⟨_, rfl, _, _, _, _, _, rfl, .ty "tuple", dp_ty hy, kit_tuple hy, _, rfl, _, _, _, _, _, rfl, .ty "tuple", dp_ty hx, kit_tuple hx, rfl, _, rfl, ite_no ?_ ?_⟩
    · rw [decide_eq_true rfl]
      rfl
    refine ⟨_, rfl, _, _, _, _, _, rfl, .ty "list", dp_ty hy, kit_list hy, _, rfl, _, _, _, _, _, rfl, .ty "list", dp_ty hx, kit_list hx, rfl, _, rfl, ite_no ?_ ?_⟩
    · rw [decide_eq_true rfl]
      rfl
    refine ⟨_, rfl, two_le, fun p hp => ?_⟩
    have s1 := Same.new hp (.tup [.ty "tuple", .ty "list"])
    have hx1 := dp_same s1 d hx
    have hy1 := dp_same s1 d hy
    refine ⟨_, p, _, _, _, _, rfl, upd_same, .cons (.ty _) (.cons (.ty _) .nil), dp_ty hy1, kit_seq hy1, _, rfl, ?_⟩
    generalize (upd H p (.tup [.ty "tuple", .ty "list"])) = H1 at *
    cases hsq : (isT d || isLs d) with
    | false =>
      refine iteT ?_
      refine ⟨_, rfl, _, _, _, _, _, rfl, .ty "bool", dp_ty hx1, kit_bool hx1, _, rfl, _, _, _, _, _, rfl, .ty "bool", dp_ty hy1, kit_bool hy1, rfl, true, ?_, iteT ?_⟩
      · rw [decide_eq_true rfl]
      · refine ⟨_, rfl, _, rfl, d, d, hx1, hy1, hs, hs, ?_⟩
        rw [SeqAt.eqv_refl d (SeqAt.canLay_of_shaped hs)]
        exact q H1 s1
    | true =>
      refine iteF ?_
      obtain ⟨ds, hds⟩ : ∃ ds, d = .list ds ∨ d = .tuple ds := by
        cases d <;> first | exact ⟨_, .inl rfl⟩ | exact ⟨_, .inr rfl⟩ | exact absurd (show false = true from hsq) (by decide)
      obtain ⟨a, xs, rfl, hX, hXA⟩ := same_ix (y := y) hds hx1
      obtain ⟨b, ys, rfl, hY, hYA⟩ := same_ix (y := .ref a) hds hy1
      have lx := dpAll_len hXA
      have ly := dpAll_len hYA
      have hcan : PyData.canLayAll0 ds = true := by
        have := SeqAt.canLay_of_shaped hs
        rcases hds with rfl | rfl <;> exact this
      have hdep : d.depth = PyData.depthAll ds + 1 := by rcases hds with rfl | rfl <;> rfl
      have hd64 := SeqAt.depth_of_shaped hs
      have hwd : ds.length ≤ 1000 ∧ wideAll ds = true := by
        have h0 : (decide (ds.length ≤ 1000) && wideAll ds) = true := by rcases hds with rfl | rfl <;> exact hw
        have h1 := Bool.and_eq_true_iff.mp h0
        exact ⟨of_decide_eq_true h1.1, h1.2⟩
      refine ⟨_, rfl, a, _, rfl, hX, _, rfl, b, _, rfl, hY, rfl, true, ?_, iteT ?_⟩
      · rw [lx, ly, decide_eq_true rfl]
      refine ⟨_, rfl, b, _, rfl, hY, (ys.length : Int), rfl, by omega, by omega, fun D hD => ?_⟩
      refine lc_range (lo := 0) (n := ((ys.length : Int)).toNat) (fun i H' => Same H1 H' ∧ H' D = some (.lst (List.replicate i (V.bl true)))) ⟨Same.new hD _, upd_same⟩ ?_ ?_
      · rintro i H' hi ⟨sm, hl⟩
        have hi' : i < ds.length := by omega
        obtain ⟨u, eu, hu⟩ := dpAll_at hXA i ds[i] (List.getElem?_eq_getElem hi')
        obtain ⟨v, ev, hv⟩ := dpAll_at hYA i ds[i] (List.getElem?_eq_getElem hi')
        have hm : ds[i] ∈ ds := List.getElem_mem hi'
        have hdi := depth_at hm
        refine ⟨rfl, ?_⟩
        refine ⟨_, rfl, _, rfl, rix_of (same_sq sm hX) eu ⟨_, rfl, _, rfl, rix_of (same_sq sm hY) ev ⟨u, v, ds[i], rfl, dp_same sm _ hu, dp_same sm _ hv, ?_, by omega, wide_at hwd.2 hm, fun H2 s2 => ?_⟩⟩⟩
        · unfold SeqAt.shaped
          rw [shaped_at hcan hm, decide_eq_true (by omega)]
          rfl
        · refine ⟨_, s2 _ _ hl, by rw [List.length_replicate]; exact small1000 (by omega), fun c o e => ?_, ?_⟩
          · rw [upd_ne (ne_of_none e hD)]
            exact s2 _ _ (sm _ _ e)
          · rw [upd_same, List.replicate_succ']
      · rintro H' ⟨sm, hl⟩
        refine ⟨D, List.replicate ((ys.length : Int)).toNat true, rfl, SqL.here (by rw [hl, List.map_replicate]), ?_⟩
        rw [all_rep]
        exact q H' (s1.trans sm)

abbrev s__law_error_name : Stmt := top 40
theorem sc__law_error_name : FnScope ["_law_e", "_law_some", "_law_word", "_law_so"] ["_law_e"] (defScope s__law_error_name) := ⟨rfl, rfl, rfl, by decide +kernel, rfl, by decide +kernel, by decide +kernel⟩
theorem ok__law_error_name {CT : Addr} {word : Addr → Option Str} {cl : Nat → Addr} (d : D K mg "_law_error_name" s__law_error_name ["_law_e"] f fd) (B : Blt mg) (M : Errs mg cl) (hw : ∀ D nm, word D = some nm → ∃ j, Isw K cl D j ∧ nm = en j) : FnB P w K mg base 1 f fd ["_law_e"] (spName2 K CT word) := by
  refine Fun.okB2 d.F sc__law_error_name (fun cdv A outer s H vs Q xh oh hr hb hok h => ?_)
  obtain ⟨D0, nm, hcl, W, ew, rfl, q⟩ := h
  obtain ⟨j, hj, rfl⟩ := hw _ _ ew
  have hdd : ∀ d, oh.dict = some d → (∃ o, s.heap.get? d = some o) ∧ d ∉ ([] : List Addr) := fun d e => by
    obtain ⟨fs, hfs⟩ := W.nod d e
    exact ⟨xd_there hok hfs, by simp⟩
  have C := W.exc
  refine ⟨_, (pss_cons (ps_set (i := 1) sc__law_error_name.nd rfl (Or.inl rfl) (pe_lst (pa_cons (pe_tup (pa_cons pe_str (pa_cons (pe_callB (call_isB2 hb C hcl hdd) (by rfl) B.isinstance (by decide +kernel) (pa_cons (pv 0) (pa_cons (pe_glob (v := .ref (cl 0)) rfl (M 0 (by decide)) rfl) pa_nil))) pa_nil))) (pa_cons (pe_tup (pa_cons pe_str (pa_cons (pe_callB (call_isB2 hb C hcl hdd) (by rfl) B.isinstance (by decide +kernel) (pa_cons (pv 0) (pa_cons (pe_glob (v := .ref (cl 1)) rfl (M 1 (by decide)) rfl) pa_nil))) pa_nil))) pa_nil))))
 (pss_cons (ps_set (i := 1) sc__law_error_name.nd rfl (Or.inl rfl) (pe_op op_cat (pv 1) (pe_lst (pa_cons (pe_tup (pa_cons pe_str (pa_cons (pe_callB (call_isB2 hb C hcl hdd) (by rfl) B.isinstance (by decide +kernel) (pa_cons (pv 0) (pa_cons (pe_glob (v := .ref (cl 2)) rfl (M 2 (by decide)) rfl) pa_nil))) pa_nil))) (pa_cons (pe_tup (pa_cons pe_str (pa_cons (pe_callB (call_isB2 hb C hcl hdd) (by rfl) B.isinstance (by decide +kernel) (pa_cons (pv 0) (pa_cons (pe_glob (v := .ref (cl 3)) rfl (M 3 (by decide)) rfl) pa_nil))) pa_nil))) pa_nil)))))
 (pss_cons (ps_set (i := 1) sc__law_error_name.nd rfl (Or.inl rfl) (pe_op op_cat (pv 1) (pe_lst (pa_cons (pe_tup (pa_cons pe_str (pa_cons (pe_callB (call_isB2 hb C hcl hdd) (by rfl) B.isinstance (by decide +kernel) (pa_cons (pv 0) (pa_cons (pe_glob (v := .ref (cl 4)) rfl (M 4 (by decide)) rfl) pa_nil))) pa_nil))) (pa_cons (pe_tup (pa_cons pe_str (pa_cons (pe_callB (call_isB2 hb C hcl hdd) (by rfl) B.isinstance (by decide +kernel) (pa_cons (pv 0) (pa_cons (pe_glob (v := .ref (cl 5)) rfl (M 5 (by decide)) rfl) pa_nil))) pa_nil))) pa_nil)))))
 (pss_cons (ps_set (i := 1) sc__law_error_name.nd rfl (Or.inl rfl) (pe_op op_cat (pv 1) (pe_lst (pa_cons (pe_tup (pa_cons pe_str (pa_cons (pe_callB (call_isB2 hb C hcl hdd) (by rfl) B.isinstance (by decide +kernel) (pa_cons (pv 0) (pa_cons (pe_glob (v := .ref (cl 6)) rfl (M 6 (by decide)) rfl) pa_nil))) pa_nil))) (pa_cons (pe_tup (pa_cons pe_str (pa_cons (pe_callB (call_isB2 hb C hcl hdd) (by rfl) B.isinstance (by decide +kernel) (pa_cons (pv 0) (pa_cons (pe_glob (v := .ref (cl 7)) rfl (M 7 (by decide)) rfl) pa_nil))) pa_nil))) pa_nil)))))
 (pss_cons (ps_set (i := 1) sc__law_error_name.nd rfl (Or.inl rfl) (pe_op op_cat (pv 1) (pe_lst (pa_cons (pe_tup (pa_cons pe_str (pa_cons (pe_callB (call_isB2 hb C hcl hdd) (by rfl) B.isinstance (by decide +kernel) (pa_cons (pv 0) (pa_cons (pe_glob (v := .ref (cl 8)) rfl (M 8 (by decide)) rfl) pa_nil))) pa_nil))) (pa_cons (pe_tup (pa_cons pe_str (pa_cons (pe_callB (call_isB2 hb C hcl hdd) (by rfl) B.isinstance (by decide +kernel) (pa_cons (pv 0) (pa_cons (pe_glob (v := .ref (cl 9)) rfl (M 9 (by decide)) rfl) pa_nil))) pa_nil))) pa_nil)))))
 (pss_cons (ps_set (i := 1) sc__law_error_name.nd rfl (Or.inl rfl) (pe_op op_cat (pv 1) (pe_lst (pa_cons (pe_tup (pa_cons pe_str (pa_cons (pe_callB (call_isB2 hb C hcl hdd) (by rfl) B.isinstance (by decide +kernel) (pa_cons (pv 0) (pa_cons (pe_glob (v := .ref (cl 10)) rfl (M 10 (by decide)) rfl) pa_nil))) pa_nil))) (pa_cons (pe_tup (pa_cons pe_str (pa_cons (pe_callB (call_isB2 hb C hcl hdd) (by rfl) B.isinstance (by decide +kernel) (pa_cons (pv 0) (pa_cons (pe_glob (v := .ref (cl 11)) rfl (M 11 (by decide)) rfl) pa_nil))) pa_nil))) pa_nil)))))
 (pss_cons (ps_set (i := 1) sc__law_error_name.nd rfl (Or.inl rfl) (pe_op op_cat (pv 1) (pe_lst (pa_cons (pe_tup (pa_cons pe_str (pa_cons (pe_callB (call_isB2 hb C hcl hdd) (by rfl) B.isinstance (by decide +kernel) (pa_cons (pv 0) (pa_cons (pe_glob (v := .ref (cl 12)) rfl (M 12 (by decide)) rfl) pa_nil))) pa_nil))) (pa_cons (pe_tup (pa_cons pe_str (pa_cons (pe_callB (call_isB2 hb C hcl hdd) (by rfl) B.isinstance (by decide +kernel) (pa_cons (pv 0) (pa_cons (pe_glob (v := .ref (cl 13)) rfl (M 13 (by decide)) rfl) pa_nil))) pa_nil))) pa_nil)))))
 (pss_cons (ps_set (i := 1) sc__law_error_name.nd rfl (Or.inl rfl) (pe_op op_cat (pv 1) (pe_lst (pa_cons (pe_tup (pa_cons pe_str (pa_cons (pe_callB (call_isB2 hb C hcl hdd) (by rfl) B.isinstance (by decide +kernel) (pa_cons (pv 0) (pa_cons (pe_glob (v := .ref (cl 14)) rfl (M 14 (by decide)) rfl) pa_nil))) pa_nil))) (pa_cons (pe_tup (pa_cons pe_str (pa_cons (pe_callB (call_isB2 hb C hcl hdd) (by rfl) B.isinstance (by decide +kernel) (pa_cons (pv 0) (pa_cons (pe_glob (v := .ref (cl 15)) rfl (M 15 (by decide)) rfl) pa_nil))) pa_nil))) pa_nil)))))
 (pss_cons (ps_set (i := 1) sc__law_error_name.nd rfl (Or.inl rfl) (pe_op op_cat (pv 1) (pe_lst (pa_cons (pe_tup (pa_cons pe_str (pa_cons (pe_callB (call_isB2 hb C hcl hdd) (by rfl) B.isinstance (by decide +kernel) (pa_cons (pv 0) (pa_cons (pe_glob (v := .ref (cl 16)) rfl (M 16 (by decide)) rfl) pa_nil))) pa_nil))) (pa_cons (pe_tup (pa_cons pe_str (pa_cons (pe_callB (call_isB2 hb C hcl hdd) (by rfl) B.isinstance (by decide +kernel) (pa_cons (pv 0) (pa_cons (pe_glob (v := .ref (cl 17)) rfl (M 17 (by decide)) rfl) pa_nil))) pa_nil))) pa_nil)))))
 (pss_cons (ps_set (i := 1) sc__law_error_name.nd rfl (Or.inl rfl) (pe_op op_cat (pv 1) (pe_lst (pa_cons (pe_tup (pa_cons pe_str (pa_cons (pe_callB (call_isB2 hb C hcl hdd) (by rfl) B.isinstance (by decide +kernel) (pa_cons (pv 0) (pa_cons (pe_glob (v := .ref (cl 18)) rfl (M 18 (by decide)) rfl) pa_nil))) pa_nil))) (pa_cons (pe_tup (pa_cons pe_str (pa_cons (pe_callB (call_isB2 hb C hcl hdd) (by rfl) B.isinstance (by decide +kernel) (pa_cons (pv 0) (pa_cons (pe_glob (v := .ref (cl 19)) rfl (M 19 (by decide)) rfl) pa_nil))) pa_nil))) pa_nil)))))
 (pss_one (ps_ret (pe_join pe_str (pe_lcB (own := [("_law_word", 2), ("_law_so", 3)]) (g := gTup K 2 (gCons (gName 2) (gCons (gName 3) gNil))) (tt := fun σ H Q => tVar 3 σ H fun x G => ∃ k, TruV K x G k ∧ Q k G) (te := tVar 2) hb sc__law_error_name.nd (pv 1) (blkOk_by (own := [("_law_word", 2), ("_law_so", 3)]) (N := ["_law_e", "_law_some", "_law_word", "_law_so"]) (sc := defScope s__law_error_name) (by decide +kernel)) (fun _ _ _ _ _ hb2 => pg_tupB hb2 (pgs_cons (pg_name (i := 2) sc__law_error_name.nd rfl (Or.inl rfl)) (pgs_cons (pg_name (i := 3) sc__law_error_name.nd rfl (Or.inl rfl)) pgs_nil))) (fun _ _ _ _ _ => (pts_one (pt_truth (pv 3) (by intro _; rfl)))) (fun _ _ _ _ _ => (pv 2)))))))))))))))), ?_⟩
  refine nm_first (cl := cl) hj fun σ1 H1 I1 => ?_
  refine nm_step (n := 2) hj (by decide) I1 fun σ1 H1 I1 => ?_
  refine nm_step (n := 4) hj (by decide) I1 fun σ1 H1 I1 => ?_
  refine nm_step (n := 6) hj (by decide) I1 fun σ1 H1 I1 => ?_
  refine nm_step (n := 8) hj (by decide) I1 fun σ1 H1 I1 => ?_
  refine nm_step (n := 10) hj (by decide) I1 fun σ1 H1 I1 => ?_
  refine nm_step (n := 12) hj (by decide) I1 fun σ1 H1 I1 => ?_
  refine nm_step (n := 14) hj (by decide) I1 fun σ1 H1 I1 => ?_
  refine nm_step (n := 16) hj (by decide) I1 fun σ1 H1 I1 => ?_
  refine nm_step (n := 18) hj (by decide) I1 fun σ1 H1 I1 => ?_
  obtain ⟨L, ps, rfl, sm, hl, hL, hp⟩ := I1
  refine ⟨⟨_, rfl⟩, _, rfl, L, ps.map V.ref, rfl, SqL.here hL, fun D1 nD => ⟨fun i G => Same H1 G ∧ G D1 = some (.lst (if j < i then [.str (en j)] else [])), ⟨Same.new nD _, upd_same⟩, fun i G _ z => SqL.here (z.1 _ _ hL), ?_, ?_⟩⟩
  · rintro i v G hi ⟨sG, hD⟩
    rw [List.getElem?_map] at hi
    obtain ⟨p, ep, rfl⟩ := Option.map_eq_some_iff.mp hi
    have tp := sG _ _ (hp i p ep)
    have nDp : p ≠ D1 := fun z => by
      have z1 := hp i p ep
      rw [z, nD] at z1
      cases z1
    refine ⟨p, _, rfl, SqT.here tp, rfl, _, _, rfl, _, _, rfl, rfl, rfl, _, rfl, _, rfl, ?_⟩
    refine ite2 (fun c' => ?_) (fun c' => ?_)
    · have c : i = j := of_decide_eq_true c'
      refine ⟨_, rfl, _, hD, ?_, fun b u z => (by rw [upd_ne (ne_of_none z nD)]; exact sG b u z), ?_⟩
      · rw [if_neg (by omega)]
        exact Nat.lt_of_lt_of_le (show 0 < 1 by decide) (show 1 ≤ sizeLine by decide)
      · rw [upd_same, if_neg (by omega), if_pos (by omega), c]
        rfl
    · have c : ¬ i = j := by first | exact of_decide_eq_false c' | exact fun z => c' (decide_eq_true z)
      refine ⟨sG, ?_⟩
      rw [hD]
      by_cases c2 : j < i
      · rw [if_pos c2, if_pos (by omega)]
      · rw [if_neg c2, if_neg (by omega)]
  · rintro G ⟨sG, hD⟩
    rw [List.length_map, hl, if_pos hj.lt] at hD
    refine ⟨_, D1, [en j], rfl, rfl, .inl (SqL.here hD), ?_, ?_⟩
    · have z : ∀ i, i < 20 → ((([en i] : List Str).map (·.length)).sum + ([en i] : List Str).length * ("+" : Str).length) ≤ 16777216 := by decide +kernel
      exact z j hj.lt
    · exact q G (sm.trans sG)

abbrev s__law_error_field : Stmt := top 41
theorem sc__law_error_field : FnScope ["_law_e", "_law_word"] ["_law_e", "_law_word"] (defScope s__law_error_field) := ⟨rfl, rfl, rfl, by decide +kernel, rfl, by decide +kernel, by decide +kernel⟩
theorem ok__law_error_field {word : Addr → Option Str} {fld : Addr → Option Addr → Hp → V → Prop} (d : D K mg "_law_error_field" s__law_error_field ["_law_e", "_law_word"] f fd) (B : Blt mg)
    (hx : ∀ D nm, word D = some nm → XfC K D ∧ PySem.W.findIn K (.ref D) "position" = some none ∧ PySem.W.findIn K (.ref D) "name" = some none ∧ PySem.W.findIn K (.ref D) "size" = some none ∧ PySem.W.findIn K (.ref D) "row" = some none)
    (hw : ∀ D nm dd H v, word D = some nm → fld D dd H v → ∃ j, j < 20 ∧ nm = en j ∧ ((fk j = 0 ∧ v = .non) ∨ ∃ (e : Addr) (fs : List (Str × V)), fk j ≠ 0 ∧ dd = some e ∧ H e = some (.xd fs) ∧ fs.lookup (fnm (fk j)) = some v)) : FnB P w K mg base 1 f fd ["_law_e", "_law_word"] (spField word fld) := by
  refine Fun.okB d.F sc__law_error_field (fun cdv A outer s H vs Q xh oh hr hb h => ?_)
  obtain ⟨D0, nm, v, hcl, ew, hf, rfl, q⟩ := h
  obtain ⟨j, hj, rfl, hv⟩ := hw _ _ _ _ _ ew hf
  have XF := hx _ _ ew
  have get : ∀ n, fk j = n → n ≠ 0 → ∀ H', Same H H' → ∃ (e : Addr) (fs : List (Str × V)), oh.dict = some e ∧ H' e = some (.xd fs) ∧ fs.lookup (fnm n) = some v := fun n e0 nz H' sm => by
    rcases hv with ⟨z, _⟩ | ⟨e, fs, _, h1, h2, h3⟩
    · exact absurd (e0.symm.trans z) nz
    · exact ⟨e, fs, h1, sm _ _ h2, by rw [← e0]; exact h3⟩
  refine ⟨_, (pss_cons (ps_if (pt_cmpR op_in_seq (pv 1) (pe_lst (pa_cons pe_str (pa_cons pe_str (pa_cons pe_str pa_nil)))) (by with_unfolding_all rfl)) (pss_one (ps_ret (pe_xfB hb XF.1 XF.2.1 hcl (pv 0)))) pss_nil)
 (pss_cons (ps_if (pt_cmpR op_in_seq (pv 1) (pe_lst (pa_cons pe_str (pa_cons pe_str pa_nil))) (by with_unfolding_all rfl)) (pss_one (ps_ret (pe_xfB hb XF.1 XF.2.2.1 hcl (pv 0)))) pss_nil)
 (pss_cons (ps_if (pt_cmpR op_eq (pv 1) pe_str (nomark _)) (pss_one (ps_ret (pe_xfB hb XF.1 XF.2.2.2.1 hcl (pv 0)))) pss_nil)
 (pss_one (ps_ret (pe_ifExp (pt_cmpR op_eq (pv 1) pe_str (nomark _)) (pe_xfB hb XF.1 XF.2.2.2.2 hcl (pv 0)) pe_non)))))), ?_⟩
  refine ⟨_, rfl, by decide, fun p1 n1 => ⟨p1, _, rfl, .inl (SqL.here upd_same), rfl, rfl, _, rfl, ?_⟩⟩
  refine ite2 (fun c => ?_) (fun c1 => ?_)
  · obtain ⟨e, fs, h1, h2, h3⟩ := get 1 (of_decide_eq_true ((fk_in3 j hj).symm.trans c)) (by decide) _ (Same.new n1 _)
    exact ⟨_, rfl, rfl, e, fs, v, h1, h2, h3, q _ (Same.new n1 _)⟩
  refine ⟨_, rfl, by decide, fun p2 n2 => ⟨p2, _, rfl, .inl (SqL.here upd_same), rfl, rfl, _, rfl, ?_⟩⟩
  have s2 := (Same.new n1 (.lst [.str (en 1), .str (en 9), .str (en 17)])).trans (Same.new n2 (.lst [.str (en 14), .str (en 15)]))
  refine ite2 (fun c => ?_) (fun c2 => ?_)
  · obtain ⟨e, fs, h1, h2, h3⟩ := get 2 (of_decide_eq_true ((fk_in2 j hj).symm.trans c)) (by decide) _ s2
    exact ⟨_, rfl, rfl, e, fs, v, h1, h2, h3, q _ s2⟩
  refine ⟨_, rfl, rfl, _, rfl, ?_⟩
  refine ite2 (fun c => ?_) (fun c3 => ?_)
  · obtain ⟨e, fs, h1, h2, h3⟩ := get 3 (of_decide_eq_true ((fk_big j hj).symm.trans c)) (by decide) _ s2
    exact ⟨_, rfl, rfl, e, fs, v, h1, h2, h3, q _ s2⟩
  refine ⟨_, rfl, rfl, _, rfl, ?_⟩
  refine ite2 (fun c => ?_) (fun c4 => ?_)
  · obtain ⟨e, fs, h1, h2, h3⟩ := get 4 (of_decide_eq_true ((fk_row j hj).symm.trans c)) (by decide) _ s2
    exact ⟨_, rfl, rfl, e, fs, v, h1, h2, h3, q _ s2⟩
  have z : v = .non := by
    rcases hv with ⟨_, z⟩ | ⟨e, fs, nz, _⟩
    · exact z
    · exact absurd (fk_none j hj (c1' := ((fk_in3 j hj).symm.trans (by first | exact c1 | exact Bool.eq_false_iff.mpr c1))) (c2' := ((fk_in2 j hj).symm.trans (by first | exact c2 | exact Bool.eq_false_iff.mpr c2))) (c3' := ((fk_big j hj).symm.trans (by first | exact c3 | exact Bool.eq_false_iff.mpr c3))) (c4' := ((fk_row j hj).symm.trans (by first | exact c4 | exact Bool.eq_false_iff.mpr c4)))) nz
  subst z
  exact q _ s2

abbrev s__law_any_word : Stmt := top 44
theorem sc__law_any_word : FnScope ["_law_rng", "_law_top", "_law_wide", "_law_k"] ["_law_rng", "_law_top", "_law_wide"] (defScope s__law_any_word) := ⟨rfl, rfl, rfl, by decide +kernel, rfl, by decide +kernel, by decide +kernel⟩
theorem ok__law_any_word {f1 : Addr} {e1 : FuncData} (d__law_any_word : D K mg "_law_any_word" s__law_any_word ["_law_rng", "_law_top", "_law_wide"] f fd) (B : Blt mg) (d__law_draw : D K mg "_law_draw" s__law_draw ["_law_rng", "_law_amount"] f1 e1) : FnOk P w K mg base CX0 2 f fd ["_law_rng", "_law_top", "_law_wide"] (spAnyW K) := by
  have G__law_draw : FnOk P w K mg base CX0 1 f1 e1 ["_law_rng", "_law_amount"] spDrawC := ok__law_drawC d__law_draw B
  refine d__law_any_word.F.ok sc__law_any_word (fun vs H Q E h => ?_) (fun cdv A outer s H vs Q E hr h => ?_)
  · obtain ⟨_, _, _, _, rfl, _⟩ := h
    rfl
  obtain ⟨r, top, wide, c, rfl, h0, h1, h2, h3, hR, q⟩ := h
  refine ⟨_, (pss_one (ps_ret (pe_callTy call_tuple_of (by rfl) B.tuple (by decide +kernel) (pa_cons (pe_lc (own := [("_law_k", 3)]) (g := gName 3) (tt := tYes) (by rfl) sc__law_any_word.nd (pi_range1 (by rfl) B.range (pa_cons (pe_call G__law_draw (hr.mono (by decide)) rfl d__law_draw.m d__law_draw.F.kp d__law_draw.b .nil pass0 (pa_cons (pv 0) (pa_cons (pe_op op_add (pv 1) pe_int) pa_nil))) pa_nil)) (blkOk_by (own := [("_law_k", 3)]) (N := ["_law_rng", "_law_top", "_law_wide", "_law_k"]) (sc := defScope s__law_any_word) (by decide +kernel)) (fun _ _ _ _ _ => (pg_name (i := 3) sc__law_any_word.nd rfl (Or.inl rfl))) (fun _ _ _ _ _ => pts_nil) (fun _ _ _ _ _ => (pe_op op_mul (pe_op op_add pe_int (pe_call G__law_draw (hr.mono (by decide)) rfl d__law_draw.m d__law_draw.F.kp d__law_draw.b .nil pass0 (pa_cons (pv 0) (pa_cons (pv 2) pa_nil)))) (pe_op op_sub pe_int (pe_op op_mul pe_int (pe_call G__law_draw (hr.mono (by decide)) rfl d__law_draw.m d__law_draw.F.kp d__law_draw.b .nil pass0 (pa_cons (pv 0) (pa_cons pe_int pa_nil)))))))) pa_nil)))), ?_⟩
  refine ⟨_, rfl, _, rfl, _, _, rfl, rfl, r, _, c, rfl, hR, by omega, by omega, fun n H1 n0 n1 R1 b1 => ?_⟩
  refine ⟨n, rfl, by omega, by omega, fun D hD => ?_⟩
  have nDr := R1.ne hD
  refine lc_range (lo := 0) (n := n.toNat) (fun i G => RngC G r c ∧ But r H1 G ∧ ∃ ns : List Int, G D = some (.lst (ns.map V.int)) ∧ ns.length = i ∧ Lets wide ns) ⟨R1.same (Same.new hD _), But.same (Same.new hD _), [], upd_same, rfl, fun _ hn => nomatch hn⟩ ?_ ?_
  · rintro i G hi ⟨RG, bG, ns, hl, hlen, hL⟩
    refine ⟨rfl, ?_⟩
    refine ⟨_, rfl, _, rfl, r, wide, c, rfl, RG, by omega, by omega, fun m G2 m0 m1 R2 b2 => ?_⟩
    refine ⟨_, _, rfl, rfl, _, rfl, r, 2, c, rfl, R2, by decide, by decide, fun k G3 k0 k1 R3 b3 => ?_⟩
    have hl3 := b3 _ _ nDr.1 (b2 _ _ nDr.1 hl)
    refine ⟨_, _, rfl, rfl, .inl ⟨by decide, by decide⟩, _, _, rfl, rfl, _, _, rfl, rfl, .inl ⟨by omega, by omega⟩, _, hl3, by rw [List.length_map, hlen]; exact small1000 (by omega), ?_⟩
    have bd : But r H1 (upd G3 D (.lst (ns.map V.int ++ [.int ((1 + m) * (1 - 2 * k))]))) := fun b o nb z => by
      rw [upd_ne (ne_of_none z hD)]
      exact b3 _ _ nb (b2 _ _ nb (bG _ _ nb z))
    refine ⟨R3.set nDr, bd, ns ++ [(1 + m) * (1 - 2 * k)], by rw [upd_same, List.map_append]; rfl, by rw [List.length_append, hlen]; rfl, hL.app ?_⟩
    · intro x hx
      rw [List.mem_singleton.mp hx]
      have hk : k = 0 ∨ k = 1 := by omega
      rcases hk with rfl | rfl
      · rw [show (1 + m) * (1 - 2 * 0) = 1 + m by omega, ab_pos (by omega)]
        omega
      · rw [show (1 + m) * (1 - 2 * 1) = -(1 + m) by omega, ab_neg (by omega)]
        omega
  · rintro G ⟨RG, bG, ns, hl, hlen, hL⟩
    refine ⟨D, _, rfl, .inl ⟨SqL.here hl, fun p np => ?_⟩⟩
    exact q p ns _ (SqT.here upd_same) (by omega) hL (RG.same (Same.new np _)) ((b1.trans bG).trans (But.same (Same.new np _)))

abbrev s__law_invalid_word : Stmt := top 45
theorem sc__law_invalid_word : FnScope ["_law_rng", "_law_row"] ["_law_rng"] (defScope s__law_invalid_word) := ⟨rfl, rfl, rfl, by decide +kernel, rfl, by decide +kernel, by decide +kernel⟩
theorem ok__law_invalid_word {f1 f2 f3 : Addr} {e1 e2 e3 : FuncData} (d__law_invalid_word : D K mg "_law_invalid_word" s__law_invalid_word ["_law_rng"] f fd) (B : Blt mg) (d__law_draw : D K mg "_law_draw" s__law_draw ["_law_rng", "_law_amount"] f1 e1) (d__law_pick : D K mg "_law_pick" s__law_pick ["_law_rng", "_law_terms"] f2 e2)
    (d__law_any_word : D K mg "_law_any_word" s__law_any_word ["_law_rng", "_law_top", "_law_wide"] f3 e3) : FnOk P w K mg base CX0 3 f fd ["_law_rng"] (spBadW K) := by
  have G__law_drawC : FnOk P w K mg base CX0 1 f1 e1 ["_law_rng", "_law_amount"] spDrawC := ok__law_drawC d__law_draw B
  have G__law_pickC : FnOk P w K mg base CX0 2 f2 e2 ["_law_rng", "_law_terms"] (spPickC K) := ok__law_pickC d__law_pick B d__law_draw
  have G__law_any_word : FnOk P w K mg base CX0 2 f3 e3 ["_law_rng", "_law_top", "_law_wide"] (spAnyW K) := ok__law_any_word d__law_any_word B d__law_draw
  refine d__law_invalid_word.F.ok sc__law_invalid_word (fun vs H Q E h => ?_) (fun cdv A outer s H vs Q E hr h => ?_)
  · obtain ⟨_, _, rfl, _⟩ := h
    rfl
  obtain ⟨r, c, rfl, hR, q⟩ := h
  refine ⟨_, (pss_cons (ps_set (i := 1) sc__law_invalid_word.nd rfl (Or.inl rfl) (pe_callTy call_list_of (by rfl) B.list (by decide +kernel) (pa_cons (pe_call G__law_any_word (hr.mono (by decide)) rfl d__law_any_word.m d__law_any_word.F.kp d__law_any_word.b .nil pass0 (pa_cons (pv 0) (pa_cons pe_int (pa_cons pe_int pa_nil)))) pa_nil)))
 (pss_cons (ps_expr (pe_bm PySem.F.plainAttrs_list PySem.F.slot_list_insert PySem.F.type_list_insert mt_insert (pv 1) (pa_cons (pe_call G__law_drawC (hr.mono (by decide)) rfl d__law_draw.m d__law_draw.F.kp d__law_draw.b .nil pass0 (pa_cons (pv 0) (pa_cons (pe_op op_add (pe_callB call_len_seq (by rfl) B.len PySem.boot_len (pa_cons (pv 1) pa_nil)) pe_int) pa_nil))) (pa_cons (pe_call G__law_pickC (hr.mono (by decide)) rfl d__law_pick.m d__law_pick.F.kp d__law_pick.b .nil pass0 (pa_cons (pv 0) (pa_cons (pe_lst (pa_cons pe_int (pa_cons pe_int (pa_cons (pe_un un_neg pe_int) (pa_cons (pe_op op_pow pe_int pe_int) pa_nil))))) pa_nil))) pa_nil))))
 (pss_one (ps_ret (pe_call G__law_pickC (hr.mono (by decide)) rfl d__law_pick.m d__law_pick.F.kp d__law_pick.b .nil pass0 (pa_cons (pv 0) (pa_cons (pe_lst (pa_cons (pe_callTy call_tuple_of (by rfl) B.tuple (by decide +kernel) (pa_cons (pv 1) pa_nil)) (pa_cons (pe_op op_repA (pe_tup (pa_cons pe_int (pa_cons (pe_un un_neg pe_int) pa_nil))) pe_int) pa_nil))) pa_nil))))))), ?_⟩
  refine ⟨_, rfl, r, 6, 5, c, rfl, by decide, by decide, by decide, by decide, hR, fun p ns H1 w1 l1 L1 R1 b1 => ?_⟩
  refine ⟨p, _, rfl, .inr w1, fun D hD => ?_⟩
  have nD := R1.ne hD
  have s2 := Same.new hD (.lst (ns.map V.int))
  have R2 := R1.same s2
  have b2 : But r H _ := b1.trans (But.same s2)
  have h2 : upd H1 D (.lst (ns.map V.int)) D = some (.lst (ns.map V.int)) := upd_same
  generalize upd H1 D (.lst (ns.map V.int)) = H2 at *
  refine ⟨_, rfl, .inl ⟨rfl, _, SqL.here h2⟩, _, rfl, _, rfl, D, _, rfl, .inl (SqL.here h2), _, _, rfl, rfl, r, _, c, rfl, R2, by omega, by rw [List.length_map]; omega, fun i H3 i0 i1 R3 b3 => ?_⟩
  have h3 := b3 _ _ nD.1 h2
  rw [List.length_map] at i1
  refine ⟨_, rfl, _, rfl, _, _, rfl, rfl, ⟨by decide, by decide, by decide⟩, fourV, fun m hm => ?_⟩
  have nm := R3.ne hm
  have s4 := Same.new hm (.lst [V.int 0, V.int 41, V.int (-41), V.int (10 ^ Int.toNat 20)])
  have R4 := R3.same s4
  have h4 := s4 _ _ h3
  refine ⟨r, m, c, _, rfl, R4, .inl (SqL.here upd_same), (by show 0 < 4; decide), (by show 4 ≤ 10000; decide), nm.1, fun v H5 hv R5 b5 => ?_⟩
  have h5 := b5 _ _ nD.1 h4
  have b5' : But r H H5 := ((b2.trans b3).trans (But.same s4)).trans b5
  obtain ⟨x, rfl, hx⟩ : ∃ x : Int, v = .int x ∧ isLet x = false := by
    have hv' : v = V.int 0 ∨ v = V.int 41 ∨ v = V.int (-41) ∨ v = V.int (10 ^ Int.toNat 20) := by simpa using hv
    rcases hv' with e | e | e | e
    · exact ⟨_, e, by decide⟩
    · exact ⟨_, e, by decide⟩
    · exact ⟨_, e, by decide⟩
    · exact ⟨_, e, by decide +kernel⟩
  clear b3 b5 s4 h4 h3 R4 R3 b2 h2 hv
  refine ⟨D, ns.map V.int, i, _, rfl, rfl, h5, by rw [List.length_map]; exact small1000 (by omega), i0, by omega, ?_⟩
  have hx' : (ns.map V.int).take i.toNat ++ [V.int x] ++ (ns.map V.int).drop i.toNat = (ns.take i.toNat ++ [x] ++ ns.drop i.toNat).map V.int := by
    rw [List.map_append, List.map_append, List.map_take, List.map_drop]
    rfl
  rw [hx']
  have R6 : RngC (upd H5 D (.lst ((ns.take i.toNat ++ [x] ++ ns.drop i.toNat).map V.int))) r c := R5.set nD
  have nDH : H D = none := by
    cases e : H D with
    | none => rfl
    | some o =>
      rw [b1 _ _ nD.1 e] at hD
      cases hD
  have b6 : But r H (upd H5 D (.lst ((ns.take i.toNat ++ [x] ++ ns.drop i.toNat).map V.int))) := fun b o nb z => by
    rw [upd_ne (ne_of_none z nDH)]
    exact b5' _ _ nb z
  have h6 : upd H5 D (.lst ((ns.take i.toNat ++ [x] ++ ns.drop i.toNat).map V.int)) D = some (.lst ((ns.take i.toNat ++ [x] ++ ns.drop i.toNat).map V.int)) := upd_same
  have l6 : (ns.take i.toNat ++ [x] ++ ns.drop i.toNat).length ≤ 7 := by
    rw [List.length_append, List.length_append, List.length_take, List.length_drop, List.length_singleton]
    omega
  have m6 : x ∈ ns.take i.toNat ++ [x] ++ ns.drop i.toNat := by simp
  generalize ns.take i.toNat ++ [x] ++ ns.drop i.toNat = ms at *
  generalize upd H5 D (.lst (ms.map V.int)) = H6 at *
  refine ⟨_, rfl, _, rfl, D, _, rfl, .inl ⟨SqL.here h6, fun t ht => ?_⟩⟩
  have s7 := Same.new ht (.tup (ms.map V.int))
  refine ⟨_, rfl, two_le, fun u hu => ?_⟩
  have s8 := Same.new hu (.tup [.int 1, .int (-2)])
  refine ⟨u, 151, [.int 1, .int (-2)], rfl, rfl, SqT.here upd_same, by decide, by decide, by decide, fun y H9 s9 w9 => ?_⟩
  have w9 : WT K H9 y (repW 151 [1, -2]) := by
    rw [WT, ← repW_map]
    exact w9
  have w7 : WT K H9 t ms := (Tp.same (s8.trans s9)).sqT (SqT.here upd_same)
  have s79 := s7.trans (s8.trans s9)
  refine ⟨two_le, fun z hz => ?_⟩
  have R9 := R6.same s79
  have sz := Same.new hz (.lst [.ref t, .ref y])
  refine ⟨r, z, c, _, rfl, R9.same sz, .inl (SqL.here upd_same), (by show 0 < 2; decide), (by show 2 ≤ 10000; decide), (R9.ne hz).1, fun v H10 hv R10 b10 => ?_⟩
  have bz : But r H H10 := ((b6.trans (But.same s79)).trans (But.same sz)).trans b10
  have tpz : Tp H9 H10 := (Tp.same sz).trans ((R9.same sz).tp b10)
  have hv' : v = .ref t ∨ v = .ref y := by simpa using hv
  rcases hv' with rfl | rfl
  · exact q t ms H10 (tpz.sqT w7) (okW_mem m6 hx) (by omega) R10 bz
  · exact q y _ H10 (tpz.sqT w9) (okW_long (by decide +kernel)) (by decide +kernel) R10 bz

abbrev s__law_move : Stmt := top 47
theorem sc__law_move : FnScope ["_law_row", "_law_move_here", "_law_word", "_law_at", "_law_new", "_law_many"] ["_law_row", "_law_move_here"] (defScope s__law_move) := ⟨rfl, rfl, rfl, by decide +kernel, rfl, by decide +kernel, by decide +kernel⟩
theorem ok__law_move {f1 f2 : Addr} {e1 e2 : FuncData} (d : D K mg "_law_move" s__law_move ["_law_row", "_law_move_here"] f fd) (B : Blt mg) (BW : BltW mg) (d__law_sign : D K mg "_law_sign" s__law_sign ["_law_number"] f1 e1) (d__law_braided : D K mg "_law_braided" s__law_braided ["_law_first", "_law_second", "_law_third"] f2 e2) : FnOk P w K mg base CX0 3 f fd ["_law_row", "_law_move_here"] (spMove K) := by
  have G__law_braided : FnOk P w K mg base CX0 2 f2 e2 ["_law_first", "_law_second", "_law_third"] spBrd := ok__law_braided d__law_braided B BW d__law_sign
  refine d.F.ok sc__law_move (fun vs H Q E h => ?_) (fun cdv A outer s H vs Q E hr h => ?_)
  · obtain ⟨_, _, _, _, rfl, _⟩ := h
    rfl
  obtain ⟨r, m, ns, o, rfl, hR, hl, hM, q⟩ := h
  refine ⟨_, (pss_cons (ps_par (i := 2) (j := 3) (by rfl) sc__law_move.nd rfl rfl (by decide) rfl rfl (pa_cons (pe_ix ix_tup (pv 1) pe_int (fun _ _ => rfl)) (pa_cons (pe_ix ix_tup (pv 1) pe_int (fun _ _ => rfl)) pa_nil)) (by rfl))
 (pss_cons (ps_set (i := 4) sc__law_move.nd rfl (Or.inl rfl) pe_non)
 (pss_cons (ps_if (PW.pt (pw_and (pt_cmpR op_eq (pv 2) pe_str (nomark _)) (pw_and (pt_cmpR op_eq (pe_callB call_len_seq (by rfl) B.len PySem.boot_len (pa_cons (pv 1) pa_nil)) pe_int (nomark _)) (pw_and (pt_chain op_le op_le pe_int (pv 3) (pe_callB call_len_seq (by rfl) B.len PySem.boot_len (pa_cons (pv 0) pa_nil))) (pw_and1 (pt_chain op_lt op_lt pe_int (pe_callB call_abs (by rfl) BW.abs (by decide +kernel) (pa_cons (pe_ix ix_tup (pv 1) pe_int (fun _ _ => rfl)) pa_nil)) pe_int)))))) (pss_one (ps_ret (pe_op op_cat (pe_op op_cat (pe_slice sl_list (pv 0) po_none (po_some (pv 3))) (pe_lst (pa_cons (pe_ix ix_tup (pv 1) pe_int (fun _ _ => rfl)) (pa_cons (pe_op op_sub pe_int (pe_ix ix_tup (pv 1) pe_int (fun _ _ => rfl))) pa_nil)))) (pe_slice sl_list (pv 0) (po_some (pv 3)) po_none)))) pss_nil)
 (C8.pss_cut (ps_set (i := 5) sc__law_move.nd rfl (Or.inl rfl) (pe_ifExp (pt_cmpR op_eq (pv 2) pe_str (nomark _)) pe_int pe_int))
 (pss_cons (ps_if (PW.pt (pw_or (pt_cmpR op_ne (pe_callB call_len_seq (by rfl) B.len PySem.boot_len (pa_cons (pv 1) pa_nil)) pe_int (nomark _)) (pw_or (pt_cmpR op_lt (pv 3) pe_int (nomark _)) (pw_or1 (pt_cmpR op_gt (pe_op op_add (pv 3) (pv 5)) (pe_callB call_len_seq (by rfl) B.len PySem.boot_len (pa_cons (pv 0) pa_nil)) (nomark _)))))) (pss_one (ps_ret pe_non)) pss_nil)
 (C8.pss_cut (ps_if (PW.pt (pw_and (pt_cmpR op_eq (pv 2) pe_str (nomark _)) (pw_and1 (pt_cmpR op_eq (pe_ix ix_list (pv 0) (pv 3) (fun _ _ => rfl)) (pe_op op_sub pe_int (pe_ix ix_list (pv 0) (pe_op op_add (pv 3) pe_int) (fun _ _ => rfl))) (nomark _))))) (pss_one (ps_set (i := 4) sc__law_move.nd rfl (Or.inl rfl) (pe_lst pa_nil))) (pss_one (ps_if (PW.pt (pw_and (pt_cmpR op_eq (pv 2) pe_str (nomark _)) (pw_and1 (pt_cmpR op_gt (pe_callB call_abs (by rfl) BW.abs (by decide +kernel) (pa_cons (pe_op op_sub (pe_callB call_abs (by rfl) BW.abs (by decide +kernel) (pa_cons (pe_ix ix_list (pv 0) (pv 3) (fun _ _ => rfl)) pa_nil)) (pe_callB call_abs (by rfl) BW.abs (by decide +kernel) (pa_cons (pe_ix ix_list (pv 0) (pe_op op_add (pv 3) pe_int) (fun _ _ => rfl)) pa_nil))) pa_nil)) pe_int (nomark _))))) (pss_one (ps_set (i := 4) sc__law_move.nd rfl (Or.inl rfl) (pe_lst (pa_cons (pe_ix ix_list (pv 0) (pe_op op_add (pv 3) pe_int) (fun _ _ => rfl)) (pa_cons (pe_ix ix_list (pv 0) (pv 3) (fun _ _ => rfl)) pa_nil))))) (pss_one (ps_if (pt_cmpR op_eq (pv 2) pe_str (nomark _)) (pss_one (ps_set (i := 4) sc__law_move.nd rfl (Or.inl rfl) (pe_call G__law_braided (hr.mono (by decide)) rfl d__law_braided.m d__law_braided.F.kp d__law_braided.b .nil pass0 (pa_cons (pe_ix ix_list (pv 0) (pv 3) (fun _ _ => rfl)) (pa_cons (pe_ix ix_list (pv 0) (pe_op op_add (pv 3) pe_int) (fun _ _ => rfl)) (pa_cons (pe_ix ix_list (pv 0) (pe_op op_add (pv 3) pe_int) (fun _ _ => rfl)) pa_nil)))))) pss_nil)))))
 (pss_one (ps_ret (pe_ifExp (pt_cmpR op_isN (pv 4) pe_non (nomark _)) pe_non (pe_op op_cat (pe_op op_cat (pe_slice sl_list (pv 0) po_none (po_some (pv 3))) (pv 4)) (pe_slice sl_list (pv 0) (po_some (pe_op op_add (pv 3) (pv 5))) po_none))))))))))), ?_⟩
  have lnR : ((ns.map V.int).length : Int) = ns.length := by rw [List.length_map]
  cases hM with
  | ins i k hi k0 k1 hm =>
    refine ⟨_, rfl, m, _, 0, _, rfl, rfl, hm, rfl, _, rfl, m, _, 1, _, rfl, rfl, hm, rfl, ?_⟩
    refine ⟨_, _, rfl, ?_⟩
    refine ⟨_, rfl, rfl, _, rfl, ite_yes (by decide +kernel) ?_⟩
    refine ⟨_, rfl, m, _, rfl, .inr hm, rfl, _, rfl, ite_yes (decide_eq_true rfl) ?_⟩
    refine ⟨_, rfl, _, _, rfl, rfl, _, rfl, ite_yes (decide_eq_true (by omega)) ⟨_, rfl, r, _, rfl, .inl (SqL.here hR), _, _, rfl, rfl, _, rfl, ite_yes (decide_eq_true (by rw [lnR]; omega)) ?_⟩⟩
    refine ⟨_, rfl, m, _, 2, _, rfl, rfl, hm, rfl, _, rfl, _, _, rfl, rfl, _, rfl, ite_yes (decide_eq_true k0) ⟨_, _, rfl, rfl, _, rfl, ite_yes (decide_eq_true k1) ?_⟩⟩
    refine ⟨_, rfl, _, rfl, (i : Int), rfl, r, _, rfl, SqL.here hR, fun c1 nc1 => ?_⟩
    rw [cutA hi]
    have z1 := Same.new nc1 (.lst ((ns.take i).map V.int))
    have hm1 := (Tp.same z1).sqT hm
    refine ⟨_, rfl, m, _, 2, _, rfl, rfl, hm1, rfl, _, rfl, m, _, 2, _, rfl, rfl, hm1, rfl, _, _, rfl, rfl, two_le, fun c2 nc2 => ?_⟩
    have z2 := Same.new nc2 (.lst [.int k, .int (0 - k)])
    have l1 : (ns.take i).length = i := by rw [List.length_take]; omega
    have l2 : (ns.drop i).length = ns.length - i := List.length_drop
    refine ⟨c1, c2, _, _, rfl, rfl, z2 _ _ upd_same, upd_same, by rw [List.length_map, l1]; exact Nat.le_trans (by show i + 2 ≤ 2000; omega) (by decide), fun c3 nc3 => ?_⟩
    have z3 := Same.new nc3 (.lst ((ns.take i).map V.int ++ [.int k, .int (0 - k)]))
    have z13 := z1.trans (z2.trans z3)
    refine ⟨_, rfl, _, rfl, (i : Int), rfl, r, _, rfl, SqL.here (z13 _ _ hR), fun c4 nc4 => ?_⟩
    rw [cutB hi]
    have z4 := Same.new nc4 (.lst ((ns.drop i).map V.int))
    refine ⟨c3, c4, _, _, rfl, rfl, z4 _ _ upd_same, upd_same, by rw [List.length_append, List.length_map, List.length_map, l1, l2]; exact Nat.le_trans (by show i + 2 + (ns.length - i) ≤ 2000; omega) (by decide), fun c5 nc5 => ?_⟩
    have z14 := z13.trans z4
    refine q _ _ (z14.trans (Same.new nc5 _)) ⟨c5, rfl, z14.free nc5, ?_⟩
    rw [upd_same, List.map_append, List.map_append]
    rfl
  | two u i hw hm =>
    refine ⟨_, rfl, m, _, 0, _, rfl, rfl, hm, rfl, _, rfl, m, _, 1, _, rfl, rfl, hm, rfl, ?_⟩
    refine ⟨_, _, rfl, ?_⟩
    have noI : decide (V.str (mw u) = V.str "insert") = false := mw_ins hw
    refine ⟨_, rfl, rfl, _, rfl, ite_no noI (iteF ?_)⟩
    refine ⟨fun σ G => σ = [some (.ref r), some (.ref m), some (.str (mw u)), some (.int i), some .non, some (.int (mvN u : Nat))] ∧ H = G, ?_, ?_⟩
    · refine ⟨_, rfl, rfl, _, rfl, ?_⟩
      refine ite2 (fun c => ?_) (fun c => ?_)
      · rw [mw_brd hw] at c
        have c : u = 2 := of_decide_eq_true c
        exact ⟨by rw [c]; rfl, rfl⟩
      · rw [mw_brd hw] at c
        have c : u ≠ 2 := fun z => c (decide_eq_true z)
        have e : mvN u = 2 := by unfold mvN; split; rfl; split; rfl; omega
        exact ⟨by rw [e]; rfl, rfl⟩
    rintro σ G ⟨rfl, rfl⟩
    refine ⟨_, rfl, m, _, rfl, .inr hm, rfl, _, rfl, ite_no (by show (!decide (V.int 2 = V.int 2)) = false; rw [decide_eq_true rfl]; rfl) ?_⟩
    refine ⟨_, rfl, _, _, rfl, rfl, _, rfl, ite_no (decide_eq_false (by omega)) ?_⟩
    refine ⟨_, rfl, _, rfl, _, _, rfl, rfl, _, rfl, r, _, rfl, .inl (SqL.here hR), _, _, rfl, rfl, _, rfl, ?_⟩
    refine ite2 (fun c1 => ?_) (fun c1 => ?_)
    · have c1 : ((ns.map V.int).length : Int) < (i : Int) + (mvN u : Nat) := of_decide_eq_true c1
      rw [lnR] at c1
      exact q .non H (Same.refl _) (by rw [mvF_out hw (by omega)]; rfl)
    have c1 : ¬ ((ns.map V.int).length : Int) < (i : Int) + (mvN u : Nat) := fun z => c1 (decide_eq_true z)
    rw [lnR] at c1
    refine ⟨fun σ G => ∃ v, σ = [some (.ref r), some (.ref m), some (.str (mw u)), some (.int i), some v, some (.int (mvN u : Nat))] ∧ Same H G ∧ OL H G (mvK u ns i) v, ?_, ?_⟩
    · refine ⟨_, rfl, rfl, _, rfl, ?_⟩
      refine ite2 (fun c2 => ?_) (fun c2 => ?_)
      · rw [mw_can hw] at c2
        have c2 : u = 0 := of_decide_eq_true c2
        subst c2
        have c1 : i + 2 ≤ ns.length := by
          have : mvN 0 = 2 := rfl
          omega
        have h1 : ns[i]? = some ns[i] := List.getElem?_eq_getElem (by omega)
        have h2 : ns[i + 1]? = some ns[i + 1] := List.getElem?_eq_getElem (by omega)
        have ek : mvK 0 ns i = if ns[i] = 0 - ns[i + 1] then some [] else none := by
          show mvC ns i = _
          unfold mvC
          rw [h1, h2]
        refine ⟨_, rfl, _, rfl, r, _, _, _, rfl, rfl, SqL.here hR, at_int h1, _, rfl, _, rfl, _, _, rfl, rfl, r, _, _, _, rfl, rfl, SqL.here hR, at_int h2, _, _, rfl, rfl, rfl, _, rfl, ?_⟩
        generalize ns[i] = a at *
        generalize ns[i + 1] = b at *
        refine ite2 (fun c3 => ?_) (fun c3 => ?_)
        · have c3 : a = 0 - b := V.int.inj (of_decide_eq_true c3)
          rw [if_pos c3] at ek
          refine ⟨zero_le', fun p np => ⟨_, rfl, Same.new np _, ?_⟩⟩
          rw [ek]
          exact ⟨p, rfl, np, upd_same⟩
        · have c3 : a ≠ 0 - b := fun z => c3 (decide_eq_true (congrArg V.int z))
          rw [if_neg c3] at ek
          refine ⟨_, rfl, rfl, _, rfl, ite_no (by decide +kernel) (iteF ?_)⟩
          refine ⟨_, rfl, rfl, _, rfl, ite_no (by decide +kernel) ?_⟩
          exact ⟨_, rfl, Same.refl _, by rw [ek]; rfl⟩
      rw [mw_can hw] at c2
      have c2 : u ≠ 0 := fun z => c2 (decide_eq_true z)
      refine iteF ?_
      refine ⟨_, rfl, rfl, _, rfl, ?_⟩
      refine ite2 (fun c3 => ?_) (fun c3 => ?_)
      · rw [mw_swp hw] at c3
        have c3 : u = 1 := of_decide_eq_true c3
        subst c3
        have c1 : i + 2 ≤ ns.length := by
          have : mvN 1 = 2 := rfl
          omega
        have h1 : ns[i]? = some ns[i] := List.getElem?_eq_getElem (by omega)
        have h2 : ns[i + 1]? = some ns[i + 1] := List.getElem?_eq_getElem (by omega)
        have ek : mvK 1 ns i = if ab (ab ns[i] - ab ns[i + 1]) > 1 then some [ns[i + 1], ns[i]] else none := by
          show mvS ns i = _
          unfold mvS
          rw [h1, h2]
        refine ⟨_, rfl, _, rfl, r, _, _, _, rfl, rfl, SqL.here hR, at_int h1, _, rfl, _, rfl, _, rfl, _, _, rfl, rfl, r, _, _, _, rfl, rfl, SqL.here hR, at_int h2, _, rfl, _, _, rfl, rfl, _, rfl, _, _, rfl, rfl, _, rfl, ?_⟩
        refine ite2 (fun c3 => ?_) (fun c3 => ?_)
        · have c3 : ab (ab ns[i] - ab ns[i + 1]) > 1 := of_decide_eq_true c3
          rw [if_pos c3] at ek
          refine ⟨_, rfl, _, rfl, _, _, rfl, rfl, r, _, _, _, rfl, rfl, SqL.here hR, at_int h2, _, rfl, _, rfl, r, _, _, _, rfl, rfl, SqL.here hR, at_int h1, two_le, fun p np => ⟨_, rfl, Same.new np _, ?_⟩⟩
          rw [ek]
          exact ⟨p, rfl, np, upd_same⟩
        · have c3 : ¬ ab (ab ns[i] - ab ns[i + 1]) > 1 := fun z => c3 (decide_eq_true z)
          rw [if_neg c3] at ek
          refine ⟨_, rfl, rfl, _, rfl, ite_no (by decide +kernel) ?_⟩
          exact ⟨_, rfl, Same.refl _, by rw [ek]; rfl⟩
      · rw [mw_swp hw] at c3
        have c3 : u ≠ 1 := fun z => c3 (decide_eq_true z)
        have c4 : u = 2 := by omega
        subst c4
        have c1 : i + 3 ≤ ns.length := by
          have : mvN 2 = 3 := rfl
          omega
        have h1 : ns[i]? = some ns[i] := List.getElem?_eq_getElem (by omega)
        have h2 : ns[i + 1]? = some ns[i + 1] := List.getElem?_eq_getElem (by omega)
        have h3 : ns[i + 2]? = some ns[i + 2] := List.getElem?_eq_getElem (by omega)
        have ek : mvK 2 ns i = brd ns[i] ns[i + 1] ns[i + 2] := by
          show mvB ns i = _
          unfold mvB
          rw [h1, h2, h3]
        refine iteF ?_
        refine ⟨_, rfl, rfl, _, rfl, ite_yes (by decide +kernel) ?_⟩
        refine ⟨_, rfl, _, rfl, r, _, _, _, rfl, rfl, SqL.here hR, at_int h1, _, rfl, _, rfl, _, _, rfl, rfl, r, _, _, _, rfl, rfl, SqL.here hR, at_int h2, _, rfl, _, rfl, _, _, rfl, rfl, r, _, _, _, rfl, rfl, SqL.here hR, at_int h3, _, _, _, rfl, fun v G sm hv => ?_⟩
        rw [← ek] at hv
        exact ⟨v, rfl, sm, hv⟩
    · rintro σ G ⟨v, rfl, sm, hv⟩
      have e0 : mvF u ns i = (mvK u ns i).map fun m => ns.take i ++ m ++ ns.drop (i + mvN u) := rfl
      cases hk : mvK u ns i with
      | none =>
        rw [hk] at hv e0
        have hv : v = .non := hv
        subst hv
        refine ⟨_, rfl, rfl, _, rfl, ite_yes (decide_eq_true rfl) ?_⟩
        exact q .non G sm (by rw [e0]; rfl)
      | some l =>
        rw [hk] at hv e0
        obtain ⟨c0, rfl, n0, h0⟩ := hv
        have hl0 : l.length ≤ 3 := mvK_len hk
        refine ⟨_, rfl, rfl, _, rfl, ite_no (decide_eq_false (fun z => by cases z)) ?_⟩
        have hR2 := sm _ _ hR
        refine ⟨_, rfl, _, rfl, (i : Int), rfl, r, _, rfl, SqL.here hR2, fun c1 nc1 => ?_⟩
        rw [cutA (by omega)]
        have z1 := Same.new nc1 (.lst ((ns.take i).map V.int))
        have l1 : (ns.take i).length = i := by rw [List.length_take]; omega
        have l2 : (ns.drop (i + mvN u)).length = ns.length - (i + mvN u) := List.length_drop
        refine ⟨_, rfl, c1, c0, _, _, rfl, rfl, upd_same, z1 _ _ h0, by rw [List.length_map, l1, List.length_map]; exact Nat.le_trans (by show i + l.length ≤ 2000; omega) (by decide), fun c3 nc3 => ?_⟩
        have z3 := Same.new nc3 (.lst ((ns.take i).map V.int ++ l.map V.int))
        have z13 := z1.trans z3
        refine ⟨_, rfl, _, rfl, _, rfl, _, _, rfl, rfl, (i : Int) + (mvN u : Nat), rfl, r, _, rfl, SqL.here (z13 _ _ hR2), fun c4 nc4 => ?_⟩
        rw [show (i : Int) + (mvN u : Nat) = ((i + mvN u : Nat) : Int) by omega, cutB (by omega)]
        have z4 := Same.new nc4 (.lst ((ns.drop (i + mvN u)).map V.int))
        refine ⟨c3, c4, _, _, rfl, rfl, z4 _ _ upd_same, upd_same, by rw [List.length_append, List.length_map, List.length_map, List.length_map, l1, l2]; exact Nat.le_trans (by show i + l.length + (ns.length - (i + mvN u)) ≤ 2000; omega) (by decide), fun c5 nc5 => ?_⟩
        have z14 := z13.trans z4
        refine q _ _ ((sm.trans z14).trans (Same.new nc5 _)) ?_
        rw [e0]
        refine ⟨c5, rfl, (sm.trans z14).free nc5, ?_⟩
        rw [upd_same]
        dsimp only
        rw [List.map_append, List.map_append]

theorem ok__law_moveN {f1 f2 : Addr} {e1 e2 : FuncData} (d : D K mg "_law_move" s__law_move ["_law_row", "_law_move_here"] f fd) (B : Blt mg) (BW : BltW mg) (d__law_sign : D K mg "_law_sign" s__law_sign ["_law_number"] f1 e1) (d__law_braided : D K mg "_law_braided" s__law_braided ["_law_first", "_law_second", "_law_third"] f2 e2) : FnOk P w K mg base CX0 3 f fd ["_law_row", "_law_move_here"] (spMoveN K) := by
  have G__law_braided : FnOk P w K mg base CX0 2 f2 e2 ["_law_first", "_law_second", "_law_third"] spBrd := ok__law_braided d__law_braided B BW d__law_sign
  refine d.F.ok sc__law_move (fun vs H Q E h => ?_) (fun cdv A outer s H vs Q E hr h => ?_)
  · obtain ⟨_, _, _, _, _, rfl, _⟩ := h
    rfl
  obtain ⟨r, m, ns, nm, args, rfl, hR, hl, hm, hN, q⟩ := h
  refine ⟨_, (pss_cons (ps_par (i := 2) (j := 3) (by rfl) sc__law_move.nd rfl rfl (by decide) rfl rfl (pa_cons (pe_ix ix_tup (pv 1) pe_int (fun _ _ => rfl)) (pa_cons (pe_ix ix_tup (pv 1) pe_int (fun _ _ => rfl)) pa_nil)) (by rfl))
 (pss_cons (ps_set (i := 4) sc__law_move.nd rfl (Or.inl rfl) pe_non)
 (pss_cons (ps_if (PW.pt (pw_and (pt_cmpR op_eq (pv 2) pe_str (nomark _)) (pw_and (pt_cmpR op_eq (pe_callB call_len_seq (by rfl) B.len PySem.boot_len (pa_cons (pv 1) pa_nil)) pe_int (nomark _)) (pw_and (pt_chain op_le op_le pe_int (pv 3) (pe_callB call_len_seq (by rfl) B.len PySem.boot_len (pa_cons (pv 0) pa_nil))) (pw_and1 (pt_chain op_lt op_lt pe_int (pe_callB call_abs (by rfl) BW.abs (by decide +kernel) (pa_cons (pe_ix ix_tup (pv 1) pe_int (fun _ _ => rfl)) pa_nil)) pe_int)))))) (pss_one (ps_ret (pe_op op_cat (pe_op op_cat (pe_slice sl_list (pv 0) po_none (po_some (pv 3))) (pe_lst (pa_cons (pe_ix ix_tup (pv 1) pe_int (fun _ _ => rfl)) (pa_cons (pe_op op_sub pe_int (pe_ix ix_tup (pv 1) pe_int (fun _ _ => rfl))) pa_nil)))) (pe_slice sl_list (pv 0) (po_some (pv 3)) po_none)))) pss_nil)
 (C8.pss_cut (ps_set (i := 5) sc__law_move.nd rfl (Or.inl rfl) (pe_ifExp (pt_cmpR op_eq (pv 2) pe_str (nomark _)) pe_int pe_int))
 (pss_cons (ps_if (PW.pt (pw_or (pt_cmpR op_ne (pe_callB call_len_seq (by rfl) B.len PySem.boot_len (pa_cons (pv 1) pa_nil)) pe_int (nomark _)) (pw_or (pt_cmpR op_lt (pv 3) pe_int (nomark _)) (pw_or1 (pt_cmpR op_gt (pe_op op_add (pv 3) (pv 5)) (pe_callB call_len_seq (by rfl) B.len PySem.boot_len (pa_cons (pv 0) pa_nil)) (nomark _)))))) (pss_one (ps_ret pe_non)) pss_nil)
 (C8.pss_cut (ps_if (PW.pt (pw_and (pt_cmpR op_eq (pv 2) pe_str (nomark _)) (pw_and1 (pt_cmpR op_eq (pe_ix ix_list (pv 0) (pv 3) (fun _ _ => rfl)) (pe_op op_sub pe_int (pe_ix ix_list (pv 0) (pe_op op_add (pv 3) pe_int) (fun _ _ => rfl))) (nomark _))))) (pss_one (ps_set (i := 4) sc__law_move.nd rfl (Or.inl rfl) (pe_lst pa_nil))) (pss_one (ps_if (PW.pt (pw_and (pt_cmpR op_eq (pv 2) pe_str (nomark _)) (pw_and1 (pt_cmpR op_gt (pe_callB call_abs (by rfl) BW.abs (by decide +kernel) (pa_cons (pe_op op_sub (pe_callB call_abs (by rfl) BW.abs (by decide +kernel) (pa_cons (pe_ix ix_list (pv 0) (pv 3) (fun _ _ => rfl)) pa_nil)) (pe_callB call_abs (by rfl) BW.abs (by decide +kernel) (pa_cons (pe_ix ix_list (pv 0) (pe_op op_add (pv 3) pe_int) (fun _ _ => rfl)) pa_nil))) pa_nil)) pe_int (nomark _))))) (pss_one (ps_set (i := 4) sc__law_move.nd rfl (Or.inl rfl) (pe_lst (pa_cons (pe_ix ix_list (pv 0) (pe_op op_add (pv 3) pe_int) (fun _ _ => rfl)) (pa_cons (pe_ix ix_list (pv 0) (pv 3) (fun _ _ => rfl)) pa_nil))))) (pss_one (ps_if (pt_cmpR op_eq (pv 2) pe_str (nomark _)) (pss_one (ps_set (i := 4) sc__law_move.nd rfl (Or.inl rfl) (pe_call G__law_braided (hr.mono (by decide)) rfl d__law_braided.m d__law_braided.F.kp d__law_braided.b .nil pass0 (pa_cons (pe_ix ix_list (pv 0) (pv 3) (fun _ _ => rfl)) (pa_cons (pe_ix ix_list (pv 0) (pe_op op_add (pv 3) pe_int) (fun _ _ => rfl)) (pa_cons (pe_ix ix_list (pv 0) (pe_op op_add (pv 3) pe_int) (fun _ _ => rfl)) pa_nil)))))) pss_nil)))))
 (pss_one (ps_ret (pe_ifExp (pt_cmpR op_isN (pv 4) pe_non (nomark _)) pe_non (pe_op op_cat (pe_op op_cat (pe_slice sl_list (pv 0) po_none (po_some (pv 3))) (pv 4)) (pe_slice sl_list (pv 0) (po_some (pe_op op_add (pv 3) (pv 5))) po_none))))))))))), ?_⟩
  have lnR : ((ns.map V.int).length : Int) = ns.length := by rw [List.length_map]
  have sD : ∀ {x y : Str}, ¬ x = y → decide (V.str x = V.str y) = false := fun h => decide_eq_false fun z => h (V.str.inj z)
  rcases hN with ⟨at_, rfl, hc⟩ | ⟨at_, k, rfl, hc⟩
  · have hm : SqT K H m [.str nm, .int at_] := hm
    refine ⟨_, rfl, m, _, 0, _, rfl, rfl, hm, rfl, _, rfl, m, _, 1, _, rfl, rfl, hm, rfl, ?_⟩
    refine ⟨_, _, rfl, ?_⟩
    refine ⟨_, rfl, rfl, _, rfl, ?_⟩
    by_cases e1 : nm = "insert"
    · refine ite_yes (decide_eq_true (by rw [e1])) ⟨_, rfl, m, _, rfl, .inr hm, rfl, _, rfl, ite_no (by show decide (V.int 2 = V.int 3) = false; decide) (iteF ?_)⟩
      refine ⟨fun σ G => ∃ x : Int, σ = [some (.ref r), some (.ref m), some (.str nm), some (.int at_), some .non, some (.int x)] ∧ H = G, ?_, ?_⟩
      · refine ⟨_, rfl, rfl, _, rfl, ite2 (fun _ => ⟨_, rfl, rfl⟩) (fun _ => ⟨_, rfl, rfl⟩)⟩
      rintro σ G ⟨x, rfl, rfl⟩
      refine ⟨_, rfl, m, _, rfl, .inr hm, rfl, _, rfl, ite_no (by show (!decide (V.int 2 = V.int 2)) = false; decide) ?_⟩
      refine ⟨_, rfl, _, _, rfl, rfl, _, rfl, ite2 (fun c => iteT (q H (Same.refl _))) (fun c => ?_)⟩
      have c : ¬ at_ < 0 := fun z => c (decide_eq_true z)
      have hc : cdW nm = none := hc.resolve_right c
      refine ⟨_, rfl, _, rfl, _, _, rfl, rfl, _, rfl, r, _, rfl, .inl (SqL.here hR), _, _, rfl, rfl, _, rfl, ?_⟩
      refine ite2 (fun c1 => q H (Same.refl _)) (fun c1 => ?_)
      have n0 : nm ≠ "cancel" := fun z => by rw [z] at hc; exact absurd hc (by decide +kernel)
      have n1 : nm ≠ "swap" := fun z => by rw [z] at hc; exact absurd hc (by decide +kernel)
      have n2 : nm ≠ "braid" := fun z => by rw [z] at hc; exact absurd hc (by decide +kernel)
      refine ⟨fun σ G => σ = [some (.ref r), some (.ref m), some (.str nm), some (.int at_), some .non, some (.int x)] ∧ H = G, ?_, ?_⟩
      · refine ⟨_, rfl, rfl, _, rfl, ite_no (sD n0) (iteF ?_)⟩
        refine ⟨_, rfl, rfl, _, rfl, ite_no (sD n1) (iteF ?_)⟩
        exact ⟨_, rfl, rfl, _, rfl, ite_no (sD n2) ⟨rfl, rfl⟩⟩
      · rintro σ G ⟨rfl, rfl⟩
        exact ⟨_, rfl, rfl, _, rfl, ite_yes (decide_eq_true rfl) (q H (Same.refl _))⟩
    · refine ite_no (sD e1) (iteF ?_)
      refine ⟨fun σ G => ∃ x : Int, σ = [some (.ref r), some (.ref m), some (.str nm), some (.int at_), some .non, some (.int x)] ∧ H = G, ?_, ?_⟩
      · refine ⟨_, rfl, rfl, _, rfl, ite2 (fun _ => ⟨_, rfl, rfl⟩) (fun _ => ⟨_, rfl, rfl⟩)⟩
      rintro σ G ⟨x, rfl, rfl⟩
      refine ⟨_, rfl, m, _, rfl, .inr hm, rfl, _, rfl, ite_no (by show (!decide (V.int 2 = V.int 2)) = false; decide) ?_⟩
      refine ⟨_, rfl, _, _, rfl, rfl, _, rfl, ite2 (fun c => iteT (q H (Same.refl _))) (fun c => ?_)⟩
      have c : ¬ at_ < 0 := fun z => c (decide_eq_true z)
      have hc : cdW nm = none := hc.resolve_right c
      refine ⟨_, rfl, _, rfl, _, _, rfl, rfl, _, rfl, r, _, rfl, .inl (SqL.here hR), _, _, rfl, rfl, _, rfl, ?_⟩
      refine ite2 (fun c1 => q H (Same.refl _)) (fun c1 => ?_)
      have n0 : nm ≠ "cancel" := fun z => by rw [z] at hc; exact absurd hc (by decide +kernel)
      have n1 : nm ≠ "swap" := fun z => by rw [z] at hc; exact absurd hc (by decide +kernel)
      have n2 : nm ≠ "braid" := fun z => by rw [z] at hc; exact absurd hc (by decide +kernel)
      refine ⟨fun σ G => σ = [some (.ref r), some (.ref m), some (.str nm), some (.int at_), some .non, some (.int x)] ∧ H = G, ?_, ?_⟩
      · refine ⟨_, rfl, rfl, _, rfl, ite_no (sD n0) (iteF ?_)⟩
        refine ⟨_, rfl, rfl, _, rfl, ite_no (sD n1) (iteF ?_)⟩
        exact ⟨_, rfl, rfl, _, rfl, ite_no (sD n2) ⟨rfl, rfl⟩⟩
      · rintro σ G ⟨rfl, rfl⟩
        exact ⟨_, rfl, rfl, _, rfl, ite_yes (decide_eq_true rfl) (q H (Same.refl _))⟩
  · have hm : SqT K H m [.str nm, .int at_, .int k] := hm
    refine ⟨_, rfl, m, _, 0, _, rfl, rfl, hm, rfl, _, rfl, m, _, 1, _, rfl, rfl, hm, rfl, ?_⟩
    refine ⟨_, _, rfl, ?_⟩
    refine ⟨_, rfl, rfl, _, rfl, ?_⟩
    by_cases e1 : nm = "insert"
    · refine ite_yes (decide_eq_true (by rw [e1])) ⟨_, rfl, m, _, rfl, .inr hm, rfl, _, rfl, ite_yes (by show decide (V.int 3 = V.int 3) = true; decide) ?_⟩
      by_cases e2 : 0 ≤ at_
      · by_cases e3 : at_ ≤ ns.length
        · refine ⟨_, rfl, _, _, rfl, rfl, _, rfl, ite_yes (decide_eq_true e2) ⟨_, rfl, r, _, rfl, .inl (SqL.here hR), _, _, rfl, rfl, _, rfl, ite_yes (decide_eq_true (by rw [lnR]; exact e3)) ?_⟩⟩
          by_cases e4 : 0 < ab k
          · have e5 : ¬ ab k < 41 := fun z => hc ⟨e1, e2, e3, e4, z⟩
            refine ⟨_, rfl, m, _, 2, _, rfl, rfl, hm, rfl, _, rfl, _, _, rfl, rfl, _, rfl, ite_yes (decide_eq_true e4) ⟨_, _, rfl, rfl, _, rfl, ite_no (decide_eq_false e5) ?_⟩⟩
            refine ⟨fun σ G => ∃ x : Int, σ = [some (.ref r), some (.ref m), some (.str nm), some (.int at_), some .non, some (.int x)] ∧ H = G, ?_, ?_⟩
            · refine ⟨_, rfl, rfl, _, rfl, ite2 (fun _ => ⟨_, rfl, rfl⟩) (fun _ => ⟨_, rfl, rfl⟩)⟩
            rintro σ G ⟨x, rfl, rfl⟩
            refine ⟨_, rfl, m, _, rfl, .inr hm, rfl, _, rfl, ite_yes (by show (!decide (V.int 3 = V.int 2)) = true; decide) (iteT ?_)⟩
            exact q H (Same.refl _)
          · refine ⟨_, rfl, m, _, 2, _, rfl, rfl, hm, rfl, _, rfl, _, _, rfl, rfl, _, rfl, ite_no (decide_eq_false e4) ⟨_, rfl, iteF ?_⟩⟩
            refine ⟨fun σ G => ∃ x : Int, σ = [some (.ref r), some (.ref m), some (.str nm), some (.int at_), some .non, some (.int x)] ∧ H = G, ?_, ?_⟩
            · refine ⟨_, rfl, rfl, _, rfl, ite2 (fun _ => ⟨_, rfl, rfl⟩) (fun _ => ⟨_, rfl, rfl⟩)⟩
            rintro σ G ⟨x, rfl, rfl⟩
            refine ⟨_, rfl, m, _, rfl, .inr hm, rfl, _, rfl, ite_yes (by show (!decide (V.int 3 = V.int 2)) = true; decide) (iteT ?_)⟩
            exact q H (Same.refl _)
        · refine ⟨_, rfl, _, _, rfl, rfl, _, rfl, ite_yes (decide_eq_true e2) ⟨_, rfl, r, _, rfl, .inl (SqL.here hR), _, _, rfl, rfl, _, rfl, ite_no (decide_eq_false (by rw [lnR]; exact e3)) (iteF ?_)⟩⟩
          refine ⟨fun σ G => ∃ x : Int, σ = [some (.ref r), some (.ref m), some (.str nm), some (.int at_), some .non, some (.int x)] ∧ H = G, ?_, ?_⟩
          · refine ⟨_, rfl, rfl, _, rfl, ite2 (fun _ => ⟨_, rfl, rfl⟩) (fun _ => ⟨_, rfl, rfl⟩)⟩
          rintro σ G ⟨x, rfl, rfl⟩
          refine ⟨_, rfl, m, _, rfl, .inr hm, rfl, _, rfl, ite_yes (by show (!decide (V.int 3 = V.int 2)) = true; decide) (iteT ?_)⟩
          exact q H (Same.refl _)
      · refine ⟨_, rfl, _, _, rfl, rfl, _, rfl, ite_no (decide_eq_false e2) ⟨_, rfl, iteF (iteF ?_)⟩⟩
        refine ⟨fun σ G => ∃ x : Int, σ = [some (.ref r), some (.ref m), some (.str nm), some (.int at_), some .non, some (.int x)] ∧ H = G, ?_, ?_⟩
        · refine ⟨_, rfl, rfl, _, rfl, ite2 (fun _ => ⟨_, rfl, rfl⟩) (fun _ => ⟨_, rfl, rfl⟩)⟩
        rintro σ G ⟨x, rfl, rfl⟩
        refine ⟨_, rfl, m, _, rfl, .inr hm, rfl, _, rfl, ite_yes (by show (!decide (V.int 3 = V.int 2)) = true; decide) (iteT ?_)⟩
        exact q H (Same.refl _)
    · refine ite_no (sD e1) (iteF ?_)
      refine ⟨fun σ G => ∃ x : Int, σ = [some (.ref r), some (.ref m), some (.str nm), some (.int at_), some .non, some (.int x)] ∧ H = G, ?_, ?_⟩
      · refine ⟨_, rfl, rfl, _, rfl, ite2 (fun _ => ⟨_, rfl, rfl⟩) (fun _ => ⟨_, rfl, rfl⟩)⟩
      rintro σ G ⟨x, rfl, rfl⟩
      refine ⟨_, rfl, m, _, rfl, .inr hm, rfl, _, rfl, ite_yes (by show (!decide (V.int 3 = V.int 2)) = true; decide) (iteT ?_)⟩
      exact q H (Same.refl _)
theorem ok__law_moveX {f1 f2 : Addr} {e1 e2 : FuncData} (d : D K mg "_law_move" s__law_move ["_law_row", "_law_move_here"] f fd) (B : Blt mg) (BW : BltW mg) (d__law_sign : D K mg "_law_sign" s__law_sign ["_law_number"] f1 e1) (d__law_braided : D K mg "_law_braided" s__law_braided ["_law_first", "_law_second", "_law_third"] f2 e2) : FnOk P w K mg base CX0 3 f fd ["_law_row", "_law_move_here"] (spMoveX K) := by
  refine (fn_or (ok__law_move d B BW d__law_sign d__law_braided) (ok__law_moveN d B BW d__law_sign d__law_braided)).imp fun vs H Q E h => ?_
  obtain ⟨r, m, ns, nm, args, rfl, hR, hl, hm, ha, q⟩ := h
  match args, ha, hm, q with
  | [at_], _, hm, q =>
    by_cases h0 : 0 ≤ at_
    · cases hc : cdW nm with
      | some u =>
        obtain ⟨rfl, hu⟩ := cdW_mw hc
        rw [mvX_two hc h0] at q
        exact .inl ⟨r, m, ns, _, rfl, hR, hl, .two u at_.toNat hu (by rw [Int.toNat_of_nonneg h0]; exact hm), q⟩
      | none => 
        rw [mvX_no (.inl hc)] at q
        exact .inr ⟨r, m, ns, nm, [at_], rfl, hR, hl, hm, .inl ⟨at_, rfl, .inl hc⟩, fun H' sm => q .non H' sm rfl⟩
    · rw [mvX_no (.inr (by omega))] at q
      exact .inr ⟨r, m, ns, nm, [at_], rfl, hR, hl, hm, .inl ⟨at_, rfl, .inr (by omega)⟩, fun H' sm => q .non H' sm rfl⟩
  | [at_, k], _, hm, q =>
    by_cases h : nm = "insert" ∧ 0 ≤ at_ ∧ at_ ≤ ns.length ∧ 0 < ab k ∧ ab k < 41
    · obtain ⟨rfl, h0, h1, h2, h3⟩ := h
      rw [mvX_ins h0 h1 h2 h3] at q
      exact .inl ⟨r, m, ns, _, rfl, hR, hl, .ins at_.toNat k (by omega) h2 h3 (by rw [Int.toNat_of_nonneg h0]; exact hm), q⟩
    · rw [mvX_insN h] at q
      exact .inr ⟨r, m, ns, nm, [at_, k], rfl, hR, hl, hm, .inr ⟨at_, k, rfl, h⟩, fun H' sm => q .non H' sm rfl⟩
  | [], h, _, _ => exact absurd h (by decide)
  | _ :: _ :: _ :: _, h, _, _ => rcases h with h | h <;> (rw [List.length_cons, List.length_cons, List.length_cons] at h; omega)

abbrev s__law_moves : Stmt := top 48
theorem sc__law_moves : FnScope ["_law_row", "_law_result", "_law_at", "_law_word"] ["_law_row"] (defScope s__law_moves) := ⟨rfl, rfl, rfl, by decide +kernel, rfl, by decide +kernel, by decide +kernel⟩
theorem ok__law_moves {f1 f2 f3 : Addr} {e1 e2 e3 : FuncData} (d : D K mg "_law_moves" s__law_moves ["_law_row"] f fd) (B : Blt mg) (BW : BltW mg) (d__law_sign : D K mg "_law_sign" s__law_sign ["_law_number"] f1 e1) (d__law_braided : D K mg "_law_braided" s__law_braided ["_law_first", "_law_second", "_law_third"] f2 e2) (d__law_move : D K mg "_law_move" s__law_move ["_law_row", "_law_move_here"] f3 e3) : FnOk P w K mg base CX0 4 f fd ["_law_row"] (spMoves K) := by
  have G__law_move : FnOk P w K mg base CX0 3 f3 e3 ["_law_row", "_law_move_here"] (spMove K) := ok__law_move d__law_move B BW d__law_sign d__law_braided
  refine d.F.ok sc__law_moves (fun vs H Q E h => ?_) (fun cdv A outer s H vs Q E hr h => ?_)
  · obtain ⟨_, _, rfl, _⟩ := h
    rfl
  obtain ⟨r, ns, rfl, hR, hl, q⟩ := h
  refine ⟨_, (pss_cons (ps_set (i := 1) sc__law_moves.nd rfl (Or.inl rfl) (pe_lst pa_nil))
 (pss_cons (ps_for PassesOwn.never rfl (pi_range1 (by rfl) B.range (pa_cons (pe_callB call_len_seq (by rfl) B.len PySem.boot_len (pa_cons (pv 0) pa_nil)) pa_nil)) (pg_name (i := 2) sc__law_moves.nd rfl (Or.inl rfl))
  (pss_one (ps_for PassesOwn.never rfl (pi_list (pe_lst (pa_cons pe_str (pa_cons pe_str (pa_cons pe_str pa_nil))))) (pg_name (i := 3) sc__law_moves.nd rfl (Or.inl rfl))
  (pss_one (ps_if (pt_cmpR op_notN (pe_call G__law_move (hr.mono (by decide)) rfl d__law_move.m d__law_move.F.kp d__law_move.b .nil pass0 (pa_cons (pe_callTy call_list_of (by rfl) B.list (by decide +kernel) (pa_cons (pv 0) pa_nil)) (pa_cons (pe_tup (pa_cons (pv 3) (pa_cons (pv 2) pa_nil))) pa_nil))) pe_non (nomark _)) (pss_one (ps_expr (pe_bm PySem.F.plainAttrs_list PySem.F.slot_list_append PySem.F.type_list_append mt_append (pv 1) (pa_cons (pe_tup (pa_cons (pv 3) (pa_cons (pv 2) pa_nil))) pa_nil)))) pss_nil)))))
 (pss_one (ps_ret (pv 1))))), ?_⟩
  refine ⟨zero_le', fun p np => ?_⟩
  have nrp : r ≠ p := fun z => by rw [z, np] at hR; cases hR
  have s1 := Same.new np (.lst [])
  have lnR : (ns.map V.int).length = ns.length := by rw [List.length_map]
  refine ⟨_, rfl, r, _, rfl, .inl (SqL.here (s1 _ _ hR)), _, rfl, by omega, by rw [lnR]; omega, ?_⟩
  rw [lnR]
  refine for_range (lo := 0) (n := ns.length) (fun i σ G => ∃ (x2 x3 : Option V) (xs : List V), σ = [some (.ref r), some (.ref p), x2, x3] ∧ Same H G ∧ G p = some (.lst xs) ∧ xs.length ≤ 3 * i ∧ MvL K G ns xs) ⟨none, none, [], rfl, s1, upd_same, Nat.le_refl _, fun _ h => (nomatch h)⟩ ?_ ?_
  · rintro i σ G hi ⟨x2, x3, xs, rfl, sm, hp, hx, hM⟩
    refine ⟨three_le, fun b nb => ?_⟩
    have s2 := Same.new nb (.lst [V.str "cancel", V.str "swap", V.str "braid"])
    have nbp : b ≠ p := fun z => by rw [z, hp] at nb; cases nb
    refine ⟨b, rfl, ⟨_, SqL.here upd_same⟩, for_list (K := K) (a := b) (xs := [V.str (mw 0), V.str (mw 1), V.str (mw 2)]) (fun j σ G => ∃ (x3 : Option V) (ys : List V), σ = [some (.ref r), some (.ref p), some (.int (0 + i)), x3] ∧ Same H G ∧ G b = some (.lst [V.str (mw 0), V.str (mw 1), V.str (mw 2)]) ∧ G p = some (.lst ys) ∧ ys.length ≤ xs.length + j ∧ MvL K G ns ys)
      ⟨x3, xs, rfl, sm.trans s2, upd_same, s2 _ _ hp, by omega, hM.mono (Tp.same s2)⟩ (fun j σ G _ ⟨_, _, _, _, h, _⟩ => SqL.here h) ?_ ?_⟩
    · rintro j x σ G2 hj ⟨x3, ys, rfl, sm2, hb2, hp2, hy, hM2⟩
      obtain ⟨hj3, rfl⟩ : j ≤ 2 ∧ x = .str (mw j) := by
        match j, hj with
        | 0, h => cases h; exact ⟨by decide, rfl⟩
        | 1, h => cases h; exact ⟨by decide, rfl⟩
        | 2, h => cases h; exact ⟨by decide, rfl⟩
      refine ⟨_, rfl, r, _, rfl, .inl (SqL.here (sm2 _ _ hR)), fun c nc => ?_⟩
      have s3 := Same.new nc (.lst (ns.map V.int))
      refine ⟨_, rfl, _, rfl, two_le, fun t nt => ?_⟩
      have s4 := Same.new nt (.tup [V.str (mw j), V.int (0 + i)])
      have ei : (0 + i : Int) = ((i : Nat) : Int) := by omega
      refine ⟨c, t, ns, mvF j ns i, rfl, s4 _ _ upd_same, by omega, .two j i hj3 (SqT.here (by rw [upd_same, ei])), fun v H5 s5 o5 => ?_⟩
      have s35 := s3.trans (s4.trans s5)
      refine ⟨rfl, _, rfl, ?_⟩
      cases hf : mvF j ns i with
      | none =>
        rw [hf] at o5
        have o5 : v = .non := o5
        subst o5
        refine ite_no (by rw [decide_eq_true rfl]; rfl) ?_
        exact ⟨_, ys, rfl, sm2.trans s35, s35 _ _ hb2, s35 _ _ hp2, by omega, hM2.mono (Tp.same s35)⟩
      | some l =>
        rw [hf] at o5
        obtain ⟨c0, rfl, n0, h0⟩ := o5
        refine ite_yes (by rw [decide_eq_false (fun z => by cases z)]; rfl) ?_
        refine ⟨_, rfl, .inl ⟨rfl, _, SqL.here (s35 _ _ hp2)⟩, _, rfl, _, rfl, two_le, fun t2 nt2 => ?_⟩
        have s6 := Same.new nt2 (.tup [V.str (mw j), V.int (0 + i)])
        have s36 := s35.trans s6
        have hp6 := s36 _ _ hp2
        refine ⟨p, ys, _, rfl, rfl, hp6, small1000 (by omega), ?_⟩
        have tp : Tp (upd H5 t2 (.tup [V.str (mw j), V.int (0 + i)])) (upd (upd H5 t2 (.tup [V.str (mw j), V.int (0 + i)])) p (.lst (ys ++ [.ref t2]))) := Tp.but hp6 But.set
        refine ⟨_, ys ++ [.ref t2], rfl, fun b o e => ?_, ?_, upd_same, by rw [List.length_append, List.length_singleton]; omega, ?_⟩
        · rw [upd_ne (ne_of_none e np)]
          exact s36 _ _ (sm2 _ _ e)
        · rw [upd_ne nbp]
          exact s36 _ _ hb2
        · intro v hv
          rcases List.mem_append.mp hv with hv | hv
          · exact (hM2.mono ((Tp.same s36).trans tp)) v hv
          · rw [List.mem_singleton.mp hv]
            exact ⟨t2, j, i, rfl, hj3, tp.sqT (SqT.here (by rw [upd_same, ei])), by rw [hf]; rfl⟩
    · rintro σ G2 ⟨x3, ys, rfl, sm2, hb2, hp2, hy, hM2⟩
      exact ⟨_, _, ys, rfl, sm2, hp2, (by have : ys.length ≤ xs.length + 3 := hy; omega), hM2⟩
  · rintro σ G ⟨x2, x3, xs, rfl, sm, hp, hx, hM⟩
    exact ⟨_, rfl, q p xs G sm np hp hx hM⟩

abbrev s_braided : Stmt := top 34
theorem sc_braided : FnScope ["letters", "first", "second", "third", "outer", "inner"] ["letters"] (defScope s_braided) := ⟨rfl, rfl, rfl, by decide +kernel, rfl, by decide +kernel, by decide +kernel⟩
theorem ok_braided {f1 : Addr} {e1 : FuncData} (d : D K mg "braided" s_braided ["letters"] f fd) (B : Blt mg) (BW : BltW mg) (d_with_sign : D K mg "with_sign" s_with_sign ["magnitude", "letter"] f1 e1) : FnOk P w K mg base CX0 2 f fd ["letters"] spBrdP := by
  have G_with_sign : FnOk P w K mg base CX0 1 f1 e1 ["magnitude", "letter"] spSgn := ok_with_sign d_with_sign
  refine d.F.ok sc_braided (fun vs H Q E h => ?_) (fun cdv A outer s H vs Q E hr h => ?_)
  · obtain ⟨_, _, _, _, rfl, _⟩ := h
    rfl
  obtain ⟨l, a, b, c, rfl, hl, ha, hb, q⟩ := h
  refine ⟨_, (pss_cons (ps_asg (pv 0) (pg_lst (by rfl) (pgs_cons (pg_name (i := 1) sc_braided.nd rfl (Or.inl rfl)) (pgs_cons (pg_name (i := 2) sc_braided.nd rfl (Or.inl rfl)) (pgs_cons (pg_name (i := 3) sc_braided.nd rfl (Or.inl rfl)) pgs_nil)))))
 (pss_cons (ps_par (i := 4) (j := 5) (by rfl) sc_braided.nd rfl rfl (by decide) rfl rfl (pa_cons (pe_callB call_abs (by rfl) BW.abs (by decide +kernel) (pa_cons (pv 1) pa_nil)) (pa_cons (pe_callB call_abs (by rfl) BW.abs (by decide +kernel) (pa_cons (pv 2) pa_nil)) pa_nil)) (by rfl))
 (pss_cons (ps_if (pt_cmpR op_ne (pe_callB call_abs (by rfl) BW.abs (by decide +kernel) (pa_cons (pe_op op_sub (pv 4) (pv 5)) pa_nil)) pe_int (nomark _)) (pss_one (ps_ret pe_non)) pss_nil)
 (pss_cons (ps_if (pt_cmpR op_eq (pv 3) (pe_un un_neg (pv 1)) (nomark _)) (pss_one (ps_ret (pe_lst (pa_cons (pe_call G_with_sign (hr.mono (by decide)) rfl d_with_sign.m d_with_sign.F.kp d_with_sign.b .nil pass0 (pa_cons (pv 5) (pa_cons (pe_un un_neg (pv 1)) pa_nil))) (pa_cons (pe_call G_with_sign (hr.mono (by decide)) rfl d_with_sign.m d_with_sign.F.kp d_with_sign.b .nil pass0 (pa_cons (pv 4) (pa_cons (pv 2) pa_nil))) (pa_cons (pe_call G_with_sign (hr.mono (by decide)) rfl d_with_sign.m d_with_sign.F.kp d_with_sign.b .nil pass0 (pa_cons (pv 5) (pa_cons (pv 1) pa_nil))) pa_nil)))))) pss_nil)
 (pss_cons (ps_if (PW.pt (pw_and (pt_cmpR op_eq (pv 3) (pv 1) (nomark _)) (pw_and1 (pt_cmpR op_eq (pe_cmpR op_gt (pv 1) pe_int (nomark _)) (pe_cmpR op_gt (pv 2) pe_int (nomark _)) (nomark _))))) (pss_one (ps_ret (pe_lst (pa_cons (pv 2) (pa_cons (pv 1) (pa_cons (pv 2) pa_nil)))))) pss_nil)
 (pss_one (ps_ret pe_non))))))), ?_⟩
  have sg1 : ∀ m : Int, sgn m (-a) = 0 - lsg a * m := fun m => by
    unfold sgn lsg
    by_cases z : 0 < a
    · rw [if_neg (by omega), if_pos z]; omega
    · rw [if_pos (by omega), if_neg z]; omega
  have sg2 : ∀ m x : Int, sgn m x = lsg x * m := fun m x => by
    unfold sgn lsg
    split <;> omega
  have nB : ∀ {x y : Int}, (!decide (V.int x = V.int y)) = true → x ≠ y := fun h z => by
    rw [z, decide_eq_true rfl] at h
    cases h
  have nB' : ∀ {x y : Int}, ¬ (!decide (V.int x = V.int y)) = true → x = y := fun h => Classical.byContradiction fun z => h (by rw [decide_eq_false fun y => z (V.int.inj y)]; rfl)
  refine ⟨_, rfl, l, _, rfl, SqL.here hl, rfl, _, _, rfl, _, _, rfl, _, _, rfl, rfl, ?_⟩
  refine ⟨_, rfl, a, rfl, _, rfl, b, rfl, _, _, rfl, ?_⟩
  show tSeq _ _ _ [some (.ref l), some (.int a), some (.int b), some (.int c), some (.int (ab a)), some (.int (ab b))] H
  refine ⟨_, rfl, _, rfl, _, _, rfl, rfl, _, rfl, rfl, _, rfl, ?_⟩
  refine ite2 (fun c2 => ?_) (fun c2 => ?_)
  · have c2 : ab (ab a - ab b) ≠ 1 := nB c2
    exact q .non H (Same.refl _) (by unfold brd; rw [if_pos (.inr c2)]; rfl)
  have c2 : ab (ab a - ab b) = 1 := nB' c2
  refine ⟨_, rfl, _, rfl, _, rfl, rfl, _, rfl, ?_⟩
  refine ite2 (fun c3 => ?_) (fun c3 => ?_)
  · have c3 : c = -a := V.int.inj (of_decide_eq_true c3)
    have e0 : brd a b c = some [0 - lsg a * ab b, lsg b * ab a, lsg a * ab b] := by
      unfold brd
      rw [if_neg (fun z => z.elim (fun y => y (by rw [c3, ab_n])) (fun y => y c2)), if_pos (by omega)]
    refine ⟨_, rfl, _, rfl, _, rfl, _, _, rfl, _, rfl, _, rfl, _, _, rfl, _, rfl, _, rfl, _, _, rfl, three_le, fun p np => ?_⟩
    exact q _ _ (Same.new np _) (by rw [e0, sg1, sg2, sg2]; exact ⟨p, rfl, np, upd_same⟩)
  have c3 : c ≠ -a := fun z => c3 (decide_eq_true (congrArg V.int z))
  refine ⟨_, rfl, _, rfl, rfl, _, rfl, ?_⟩
  by_cases c4 : c = a
  · refine ite_yes (decide_eq_true (congrArg V.int c4)) ?_
    have e0 : brd a b c = if lsg b = lsg a then some [b, a, b] else none := by
      unfold brd
      rw [if_neg (fun z => z.elim (fun y => y (by rw [c4])) (fun y => y c2)), if_neg (by omega)]
    refine ⟨_, rfl, _, _, rfl, rfl, _, rfl, _, _, rfl, rfl, rfl, _, rfl, ?_⟩
    by_cases s1 : 0 < a
    · by_cases s2 : 0 < b
      · rw [show lsg b = lsg a by unfold lsg; rw [if_pos s1, if_pos s2], if_pos rfl] at e0
        refine ite_yes (by show decide (V.bl (decide (0 < a)) = V.bl (decide (0 < b))) = _; rw [decide_eq_true s1, decide_eq_true s2]; rfl) ⟨_, rfl, _, rfl, _, rfl, three_le, fun p np => ?_⟩
        exact q _ _ (Same.new np _) (by rw [e0]; exact ⟨p, rfl, np, upd_same⟩)
      · rw [if_neg (by unfold lsg; rw [if_pos s1, if_neg s2]; decide)] at e0
        refine ite_no (by show decide (V.bl (decide (0 < a)) = V.bl (decide (0 < b))) = _; rw [decide_eq_true s1, decide_eq_false s2]; rfl) ?_
        exact q .non H (Same.refl _) (by rw [e0]; rfl)
    · by_cases s2 : 0 < b
      · rw [if_neg (by unfold lsg; rw [if_neg s1, if_pos s2]; decide)] at e0
        refine ite_no (by show decide (V.bl (decide (0 < a)) = V.bl (decide (0 < b))) = _; rw [decide_eq_false s1, decide_eq_true s2]; rfl) ?_
        exact q .non H (Same.refl _) (by rw [e0]; rfl)
      · rw [show lsg b = lsg a by unfold lsg; rw [if_neg s1, if_neg s2], if_pos rfl] at e0
        refine ite_yes (by show decide (V.bl (decide (0 < a)) = V.bl (decide (0 < b))) = _; rw [decide_eq_false s1, decide_eq_false s2]; rfl) ⟨_, rfl, _, rfl, _, rfl, three_le, fun p np => ?_⟩
        exact q _ _ (Same.new np _) (by rw [e0]; exact ⟨p, rfl, np, upd_same⟩)
  · refine ite_no (decide_eq_false fun z => c4 (V.int.inj z)) (iteF ?_)
    have e0 : brd a b c = none := by
      unfold brd
      have : ab c ≠ ab a := by
        unfold ab
        split <;> split <;> omega
      rw [if_pos (.inl this)]
    exact q .non H (Same.refl _) (by rw [e0]; rfl)

abbrev s_replaced_by : Stmt := top 33
theorem sc_replaced_by : FnScope ["name", "letters"] ["name", "letters"] (defScope s_replaced_by) := ⟨rfl, rfl, rfl, by decide +kernel, rfl, by decide +kernel, by decide +kernel⟩
theorem ok_replaced_by {f1 f2 : Addr} {e1 e2 : FuncData} (d : D K mg "replaced_by" s_replaced_by ["name", "letters"] f fd) (B : Blt mg) (BW : BltW mg) (d_with_sign : D K mg "with_sign" s_with_sign ["magnitude", "letter"] f1 e1) (d_braided : D K mg "braided" s_braided ["letters"] f2 e2) : FnOk P w K mg base CX0 3 f fd ["name", "letters"] spRepl := by
  have G_braided : FnOk P w K mg base CX0 2 f2 e2 ["letters"] spBrdP := ok_braided d_braided B BW d_with_sign
  refine d.F.ok sc_replaced_by (fun vs H Q E h => ?_) (fun cdv A outer s H vs Q E hr h => ?_)
  · obtain ⟨_, _, _, rfl, _⟩ := h
    rfl
  obtain ⟨l, xs, u, rfl, hu, hl, hx, hz, q⟩ := h
  refine ⟨_, (pss_cons (ps_if (pt_cmpR op_eq (pv 0) pe_str (nomark _)) (pss_one (ps_ret (pe_ifExp (pt_cmpR op_eq (pe_ix ix_list (pv 1) pe_int (fun _ _ => rfl)) (pe_un un_neg (pe_ix ix_list (pv 1) pe_int (fun _ _ => rfl))) (nomark _)) (pe_lst pa_nil) pe_non))) pss_nil)
 (pss_cons (ps_if (pt_cmpR op_eq (pv 0) pe_str (nomark _)) (pss_one (ps_ret (pe_ifExp (pt_cmpR op_ge (pe_callB call_abs (by rfl) BW.abs (by decide +kernel) (pa_cons (pe_op op_sub (pe_callB call_abs (by rfl) BW.abs (by decide +kernel) (pa_cons (pe_ix ix_list (pv 1) pe_int (fun _ _ => rfl)) pa_nil)) (pe_callB call_abs (by rfl) BW.abs (by decide +kernel) (pa_cons (pe_ix ix_list (pv 1) pe_int (fun _ _ => rfl)) pa_nil))) pa_nil)) pe_int (nomark _)) (pe_lst (pa_cons (pe_ix ix_list (pv 1) pe_int (fun _ _ => rfl)) (pa_cons (pe_ix ix_list (pv 1) pe_int (fun _ _ => rfl)) pa_nil))) pe_non))) pss_nil)
 (pss_one (ps_ret (pe_call G_braided (hr.mono (by decide)) rfl d_braided.m d_braided.F.kp d_braided.b .nil pass0 (pa_cons (pv 1) pa_nil)))))), ?_⟩
  match u, hu, hx with
  | 0, _, hx =>
    obtain ⟨a, b, rfl⟩ := ints2 hx
    refine ⟨_, rfl, rfl, _, rfl, ite_yes (by decide +kernel) ?_⟩
    have ek : mvK 0 [a, b] 0 = if a = 0 - b then some [] else none := rfl
    refine ⟨_, rfl, l, _, _, _, rfl, rfl, SqL.here hl, rfl, _, rfl, l, _, _, _, rfl, rfl, SqL.here hl, rfl, _, rfl, rfl, _, rfl, ?_⟩
    refine ite2 (fun c => ?_) (fun c => ?_)
    · have c : a = -b := V.int.inj (of_decide_eq_true c)
      refine ⟨zero_le', fun p np => ?_⟩
      exact q _ _ (Same.new np _) (by rw [ek, if_pos (by omega)]; exact ⟨p, rfl, np, upd_same⟩)
    · have c : a ≠ -b := fun z => c (decide_eq_true (congrArg V.int z))
      exact q _ _ (Same.refl _) (by rw [ek, if_neg (by omega)]; rfl)
  | 1, _, hx =>
    obtain ⟨a, b, rfl⟩ := ints2 hx
    refine ⟨_, rfl, rfl, _, rfl, ite_no (by decide +kernel) ?_⟩
    refine ⟨_, rfl, rfl, _, rfl, ite_yes (by decide +kernel) ?_⟩
    have ek : mvK 1 [a, b] 0 = if ab (ab a - ab b) > 1 then some [b, a] else none := rfl
    refine ⟨_, rfl, l, _, _, _, rfl, rfl, SqL.here hl, rfl, _, rfl, _, rfl, l, _, _, _, rfl, rfl, SqL.here hl, rfl, _, rfl, _, _, rfl, rfl, _, rfl, _, _, rfl, rfl, _, rfl, ?_⟩
    refine ite2 (fun c => ?_) (fun c => ?_)
    · have c : 2 ≤ ab (ab a - ab b) := of_decide_eq_true c
      refine ⟨_, rfl, l, _, _, _, rfl, rfl, SqL.here hl, rfl, _, rfl, l, _, _, _, rfl, rfl, SqL.here hl, rfl, two_le, fun p np => ?_⟩
      exact q _ _ (Same.new np _) (by rw [ek, if_pos (by omega)]; exact ⟨p, rfl, np, upd_same⟩)
    · have c : ¬ 2 ≤ ab (ab a - ab b) := fun z => c (decide_eq_true z)
      exact q _ _ (Same.refl _) (by rw [ek, if_neg (by omega)]; rfl)
  | 2, _, hx =>
    obtain ⟨a, b, c, rfl⟩ := ints3 hx
    refine ⟨_, rfl, rfl, _, rfl, ite_no (by decide +kernel) ?_⟩
    refine ⟨_, rfl, rfl, _, rfl, ite_no (by decide +kernel) ?_⟩
    exact ⟨_, rfl, l, a, b, c, rfl, hl, hz a (by simp), hz b (by simp), q⟩

abbrev s_insertion_of : Stmt := top 32
theorem sc_insertion_of : FnScope ["letters", "move", "name", "start", "letter"] ["letters", "move"] (defScope s_insertion_of) := ⟨rfl, rfl, rfl, by decide +kernel, rfl, by decide +kernel, by decide +kernel⟩
theorem ok_insertion_of {f1 : Addr} {e1 : FuncData} (d : D K mg "insertion_of" s_insertion_of ["letters", "move"] f fd) (B : Blt mg) (BW : BltW mg) (CW : CstW mg) (d_is_letter : D K mg "is_letter" s_is_letter ["number"] f1 e1) : FnOk P w K mg base CX0 2 f fd ["letters", "move"] (spIns K) := by
  have G_is_letter : FnOk P w K mg base CX0 1 f1 e1 ["number"] spLet := ok_is_letter d_is_letter BW CW
  refine d.F.ok sc_insertion_of (fun vs H Q E h => ?_) (fun cdv A outer s H vs Q E hr h => ?_)
  · obtain ⟨_, _, _, _, _, _, rfl, _⟩ := h
    rfl
  obtain ⟨l, m, ns, nm, at_, k, rfl, hl, hm, hn, q⟩ := h
  refine ⟨_, (pss_cons (ps_asg (pv 1) (pg_tup (by rfl) (pgs_cons (pg_name (i := 2) sc_insertion_of.nd rfl (Or.inl rfl)) (pgs_cons (pg_name (i := 3) sc_insertion_of.nd rfl (Or.inl rfl)) (pgs_cons (pg_name (i := 4) sc_insertion_of.nd rfl (Or.inl rfl)) pgs_nil)))))
 (pss_cons (ps_if (PW.pt (pw_or (pt_cmpR op_ne (pv 2) pe_str (nomark _)) (pw_or (pt_not (pt_chain op_le op_le pe_int (pv 3) (pe_callB call_len_seq (by rfl) B.len PySem.boot_len (pa_cons (pv 0) pa_nil)))) (pw_or1 (pt_not (pt_val (pe_call G_is_letter (hr.mono (by decide)) rfl d_is_letter.m d_is_letter.F.kp d_is_letter.b .nil pass0 (pa_cons (pv 4) pa_nil)))))))) (pss_one (ps_ret pe_non)) pss_nil)
 (pss_one (ps_ret (pe_tup (pa_cons (pv 3) (pa_cons (pv 3) (pa_cons (pe_lst (pa_cons (pv 4) (pa_cons (pe_un un_neg (pv 4)) pa_nil))) pa_nil)))))))), ?_⟩
  have lnR : ((ns.map V.int).length : Int) = ns.length := by rw [List.length_map]
  have nB : ∀ {x y : Str}, (!decide (V.str x = V.str y)) = true → x ≠ y := fun h z => by
    rw [z, decide_eq_true rfl] at h
    cases h
  refine ⟨_, rfl, m, _, rfl, hm, rfl, _, _, rfl, _, _, rfl, _, _, rfl, rfl, ?_⟩
  have out : ¬ (nm = "insert" ∧ 0 ≤ at_ ∧ at_ ≤ ns.length ∧ 0 < ab k ∧ ab k < 41) → Q .non H := fun z => q .non H (Same.refl _) (by
    unfold chX
    dsimp only
    rw [if_neg z]
    rfl)
  refine ⟨_, rfl, rfl, _, rfl, ?_⟩
  refine ite2 (fun c1 => ?_) (fun c1 => ?_)
  · exact iteT (out fun z => nB c1 z.1)
  have c1 : nm = "insert" := Classical.byContradiction fun z => c1 (by rw [decide_eq_false fun y => z (V.str.inj y)]; rfl)
  by_cases e2 : 0 ≤ at_
  · by_cases e3 : at_ ≤ ns.length
    · refine ⟨_, rfl, _, _, rfl, rfl, _, rfl, ite_yes (decide_eq_true e2) ⟨_, rfl, l, _, rfl, .inl (SqL.here hl), _, _, rfl, rfl, _, rfl, ?_⟩⟩
      rw [decide_eq_true (show at_ ≤ ((ns.map V.int).length : Int) by rw [lnR]; exact e3)]
      refine iteF ?_
      refine ⟨_, rfl, k, rfl, _, rfl, ?_⟩
      by_cases e4 : 0 < ab k ∧ ab k < 41
      · have ek : isLet k = true := by
          unfold isLet
          rw [decide_eq_true (show k ≠ 0 from ab_z (by omega)), decide_eq_true (show ab k ≤ 40 by omega)]
          rfl
        rw [ek]
        refine iteF ⟨_, rfl, _, rfl, _, rfl, _, rfl, _, rfl, two_le, fun p np => ⟨three_le, fun t nt => ?_⟩⟩
        have s1 := Same.new np (.lst [.int k, .int (-k)])
        have s2 := Same.new nt (.tup [.int at_, .int at_, .ref p])
        refine q _ _ (s1.trans s2) ?_
        have ec : chX nm [at_, k] ns = some (at_.toNat, at_.toNat, [k, 0 - k]) := by
          unfold chX
          dsimp only
          rw [if_pos ⟨c1, e2, e3, e4.1, e4.2⟩]
        rw [ec]
        refine ⟨t, p, rfl, SqT.here ?_, np, ?_⟩
        · rw [upd_same]
          show some (HO.tup [.int at_, .int at_, .ref p]) = some (.tup [.int ((at_.toNat : Nat) : Int), .int ((at_.toNat : Nat) : Int), .ref p])
          rw [Int.toNat_of_nonneg e2]
        · have := s2 _ _ (show upd H p (.lst [.int k, .int (-k)]) p = _ from upd_same)
          rw [this]
          show some (HO.lst [.int k, .int (-k)]) = some (.lst [.int k, .int (0 - k)])
          rw [show -k = 0 - k by omega]
      · have ek : isLet k = false := by
          unfold isLet
          by_cases z : k = 0
          · rw [decide_eq_false (show ¬ k ≠ 0 from fun y => y z)]
            rfl
          · have := ab_pos' z
            rw [decide_eq_false (show ¬ ab k ≤ 40 by omega), Bool.and_false]
        rw [ek]
        exact iteT (out fun z => e4 ⟨z.2.2.2.1, z.2.2.2.2⟩)
    · refine ⟨_, rfl, _, _, rfl, rfl, _, rfl, ite_yes (decide_eq_true e2) ⟨_, rfl, l, _, rfl, .inl (SqL.here hl), _, _, rfl, rfl, _, rfl, ?_⟩⟩
      rw [decide_eq_false (show ¬ at_ ≤ ((ns.map V.int).length : Int) by rw [lnR]; exact e3)]
      exact iteT (iteT (out fun z => e3 z.2.2.1))
  · refine ⟨_, rfl, _, _, rfl, rfl, _, rfl, ite_no (decide_eq_false e2) ⟨_, rfl, iteT (iteT (out fun z => e2 z.2.1))⟩⟩

abbrev s_change_of : Stmt := top 31
theorem sc_change_of : FnScope ["letters", "move", "name", "start", "end", "replaced"] ["letters", "move"] (defScope s_change_of) := ⟨rfl, rfl, rfl, by decide +kernel, rfl, by decide +kernel, by decide +kernel⟩
theorem ok_change_of {WD : Addr} {f1 f2 f3 f4 f5 : Addr} {e1 e2 e3 e4 e5 : FuncData} (d : D K mg "change_of" s_change_of ["letters", "move"] f fd) (B : Blt mg) (BW : BltW mg) (CW : CstW mg) (mW : mg "WIDTHS" = some (.ref WD))
    (kW : ∀ nm : Str, ∃ r, KDin K w WD nm r ∧ (cdW nm = none → r = none) ∧ ∀ u, cdW nm = some u → ∃ t, r = some (.int (mvN u : Nat) t)) (d_is_letter : D K mg "is_letter" s_is_letter ["number"] f1 e1) (d_with_sign : D K mg "with_sign" s_with_sign ["magnitude", "letter"] f2 e2) (d_insertion_of : D K mg "insertion_of" s_insertion_of ["letters", "move"] f3 e3) (d_replaced_by : D K mg "replaced_by" s_replaced_by ["name", "letters"] f4 e4) (d_braided : D K mg "braided" s_braided ["letters"] f5 e5) : FnOk P w K mg base CX0 4 f fd ["letters", "move"] (spChange K) := by
  have G_insertion_of : FnOk P w K mg base CX0 2 f3 e3 ["letters", "move"] (spIns K) := ok_insertion_of d_insertion_of B BW CW d_is_letter
  have G_replaced_by : FnOk P w K mg base CX0 3 f4 e4 ["name", "letters"] spRepl := ok_replaced_by d_replaced_by B BW d_with_sign d_braided
  refine d.F.ok sc_change_of (fun vs H Q E h => ?_) (fun cdv A outer s H vs Q E hr h => ?_)
  · obtain ⟨_, _, _, _, _, rfl, _⟩ := h
    rfl
  obtain ⟨l, m, ns, nm, args, rfl, hl, hm, ha, hn, hz, q⟩ := h
  refine ⟨_, (pss_cons (ps_if (pt_cmpR op_eq (pe_callB call_len_seq (by rfl) B.len PySem.boot_len (pa_cons (pv 1) pa_nil)) pe_int (nomark _)) (pss_one (ps_ret (pe_call G_insertion_of (hr.mono (by decide)) rfl d_insertion_of.m d_insertion_of.F.kp d_insertion_of.b .nil pass0 (pa_cons (pv 0) (pa_cons (pv 1) pa_nil))))) pss_nil)
 (pss_cons (ps_if (PW.pt (pw_or (pt_cmpR op_ne (pe_callB call_len_seq (by rfl) B.len PySem.boot_len (pa_cons (pv 1) pa_nil)) pe_int (nomark _)) (pw_or1 (pt_cmpR op_notInKD (pe_ix ix_tup (pv 1) pe_int (fun _ _ => rfl)) (pe_glob (v := .ref WD) rfl mW rfl) (by with_unfolding_all rfl))))) (pss_one (ps_ret pe_non)) pss_nil)
 (pss_cons (ps_asg (pv 1) (pg_tup (by rfl) (pgs_cons (pg_name (i := 2) sc_change_of.nd rfl (Or.inl rfl)) (pgs_cons (pg_name (i := 3) sc_change_of.nd rfl (Or.inl rfl)) pgs_nil))))
 (pss_cons (ps_set (i := 4) sc_change_of.nd rfl (Or.inl rfl) (pe_op op_add (pv 3) (pe_ix ix_kdict (pe_glob (v := .ref WD) rfl mW rfl) (pv 2) (fun _ _ => rfl))))
 (pss_cons (ps_if (PW.pt (pw_or (pt_cmpR op_lt (pv 3) pe_int (nomark _)) (pw_or1 (pt_cmpR op_gt (pv 4) (pe_callB call_len_seq (by rfl) B.len PySem.boot_len (pa_cons (pv 0) pa_nil)) (nomark _))))) (pss_one (ps_ret pe_non)) pss_nil)
 (pss_cons (ps_set (i := 5) sc_change_of.nd rfl (Or.inl rfl) (pe_call G_replaced_by (hr.mono (by decide)) rfl d_replaced_by.m d_replaced_by.F.kp d_replaced_by.b .nil pass0 (pa_cons (pv 2) (pa_cons (pe_slice sl_list (pv 0) (po_some (pv 3)) (po_some (pv 4))) pa_nil))))
 (pss_one (ps_ret (pe_ifExp (pt_cmpR op_isN (pv 5) pe_non (nomark _)) pe_non (pe_tup (pa_cons (pv 3) (pa_cons (pv 4) (pa_cons (pv 5) pa_nil))))))))))))), ?_⟩
  have lnR : ((ns.map V.int).length : Int) = ns.length := by rw [List.length_map]
  match args, ha, hm, q with
  | [at_, k], _, hm, q =>
    have hm : SqT K H m [.str nm, .int at_, .int k] := hm
    refine ⟨_, rfl, m, _, rfl, .inr hm, rfl, _, rfl, ite_yes (by show decide (V.int 3 = V.int 3) = true; decide) ?_⟩
    exact ⟨_, rfl, _, rfl, l, m, ns, nm, at_, k, rfl, hl, hm, hn, q⟩
  | [], _, hm, q =>
    have hm : SqT K H m [.str nm] := hm
    refine ⟨_, rfl, m, _, rfl, .inr hm, rfl, _, rfl, ite_no (by show decide (V.int 1 = V.int 3) = false; decide) ?_⟩
    refine ⟨_, rfl, m, _, rfl, .inr hm, rfl, _, rfl, ite_yes (by show (!decide (V.int 1 = V.int 2)) = true; decide) (iteT ?_)⟩
    exact q .non H (Same.refl _) rfl
  | [at_], _, hm, q =>
    have hm : SqT K H m [.str nm, .int at_] := hm
    refine ⟨_, rfl, m, _, rfl, .inr hm, rfl, _, rfl, ite_no (by show decide (V.int 2 = V.int 3) = false; decide) ?_⟩
    refine ⟨_, rfl, m, _, rfl, .inr hm, rfl, _, rfl, ite_no (by show (!decide (V.int 2 = V.int 2)) = false; decide) ?_⟩
    obtain ⟨r0, hk, k1, k2⟩ := kW nm
    refine ⟨_, rfl, m, _, _, _, rfl, rfl, hm, rfl, nm, WD, r0, rfl, rfl, hk, _, rfl, ?_⟩
    cases hc : cdW nm with
    | none =>
      rw [k1 hc]
      refine iteT ?_
      refine q .non H (Same.refl _) ?_
      unfold chX
      dsimp only
      rw [hc]
      by_cases z : 0 ≤ at_
      · rw [if_pos z]; rfl
      · rw [if_neg z]; rfl
    | some u =>
      obtain ⟨tk, rfl⟩ := k2 u hc
      obtain ⟨hnm, hu⟩ := cdW_mw hc
      have ec : chX nm [at_] ns = if 0 ≤ at_ then ((mvK u ns at_.toNat).map fun m => (at_.toNat, at_.toNat + mvN u, m)) else none := by
        unfold chX
        dsimp only
        rw [hc]
      refine iteF ?_
      refine ⟨_, rfl, m, _, rfl, hm, rfl, _, _, rfl, _, _, rfl, rfl, ?_⟩
      obtain ⟨es, n0, hl1, hl2, hl3, hl4⟩ := hk
      refine ⟨_, rfl, _, rfl, WD, nm, .int (mvN u : Nat), rfl, rfl, ⟨es, n0, _, hl1, hl2, hl3, ⟨_, rfl⟩⟩, _, _, rfl, rfl, ?_⟩
      by_cases c0 : at_ < 0
      · refine ⟨_, rfl, _, _, rfl, rfl, _, rfl, ite_yes (decide_eq_true c0) (iteT ?_)⟩
        exact q .non H (Same.refl _) (by rw [ec, if_neg (by omega)]; rfl)
      obtain ⟨i, rfl⟩ := Int.eq_ofNat_of_zero_le (show 0 ≤ at_ by omega)
      rw [if_pos (by omega), Int.toNat_natCast] at ec
      by_cases c1 : ns.length < i + mvN u
      · refine ⟨_, rfl, _, _, rfl, rfl, _, rfl, ite_no (decide_eq_false c0) ⟨_, rfl, _, rfl, l, _, rfl, .inl (SqL.here hl), _, _, rfl, rfl, _, rfl, ?_⟩⟩
        rw [lnR]
        rw [decide_eq_true (show (ns.length : Int) < (i : Int) + (mvN u : Nat) by omega)]
        refine iteT ?_
        have := mvF_out hu c1
        exact q .non H (Same.refl _) (by rw [ec, Option.map_eq_none_iff.mp this]; rfl)
      refine ⟨_, rfl, _, _, rfl, rfl, _, rfl, ite_no (decide_eq_false c0) ⟨_, rfl, _, rfl, l, _, rfl, .inl (SqL.here hl), _, _, rfl, rfl, _, rfl, ?_⟩⟩
      rw [lnR]
      rw [decide_eq_false (show ¬ (ns.length : Int) < (i : Int) + (mvN u : Nat) by omega)]
      refine iteF ?_
      refine ⟨_, rfl, _, rfl, _, rfl, (i : Int), rfl, _, rfl, (i : Int) + (mvN u : Nat), rfl, l, _, rfl, SqL.here hl, fun c nc => ?_⟩
      have ecut : cutV (ns.map V.int) (some (i : Int)) (some ((i : Int) + (mvN u : Nat))) = ((ns.drop i).take (mvN u)).map V.int := by
        rw [show (i : Int) + (mvN u : Nat) = ((i + mvN u : Nat) : Int) by omega]
        unfold cutV
        rw [HT.sIx_nat, HT.sIx_nat, List.length_map, Nat.min_eq_left (by omega), Nat.min_eq_left (by omega), Nat.add_sub_cancel_left, List.map_take, List.map_drop]
      rw [ecut]
      have s1 := Same.new nc (.lst (((ns.drop i).take (mvN u)).map V.int))
      refine ⟨c, (ns.drop i).take (mvN u), u, by rw [hnm]; rfl, hu, upd_same, by rw [List.length_take, List.length_drop]; omega, fun x hx => hz x (List.mem_of_mem_drop (List.mem_of_mem_take hx)), fun v H2 s2 o2 => ?_⟩
      rw [← mvK_cut hu (by omega)] at o2
      refine ⟨_, rfl, rfl, _, rfl, ?_⟩
      cases hkk : mvK u ns i with
      | none =>
        rw [hkk] at o2 ec
        have o2 : v = .non := o2
        subst o2
        refine ite_yes (decide_eq_true rfl) ?_
        exact q .non H2 (s1.trans s2) (by rw [ec]; rfl)
      | some mm =>
        rw [hkk] at o2 ec
        obtain ⟨p, rfl, np, hp⟩ := o2
        refine ite_no (decide_eq_false (fun z => by cases z)) ⟨_, rfl, _, rfl, _, rfl, three_le, fun t nt => ?_⟩
        have s3 := Same.new nt (.tup [.int (i : Int), .int ((i : Int) + (mvN u : Nat)), .ref p])
        refine q _ _ ((s1.trans s2).trans s3) ?_
        rw [ec]
        refine ⟨t, p, rfl, SqT.here upd_same, s1.free np, ?_⟩
        exact s3 _ _ hp
  | _ :: _ :: _ :: _, h, _, _ => rw [List.length_cons, List.length_cons, List.length_cons] at h; omega

abbrev s_apply_moves : Stmt := top 30
theorem sc_apply_moves : FnScope ["word", "moves", "letters", "position", "move", "change", "start", "end", "replaced"] ["word", "moves"] (defScope s_apply_moves) := ⟨rfl, rfl, rfl, by decide +kernel, rfl, by decide +kernel, by decide +kernel⟩
theorem ok_apply_moves {CWd CX fL WD : Addr} {fdL : FuncData} {f1 f2 f3 f4 f5 f6 f7 f8 : Addr} {e1 e2 e3 e4 e5 e6 e7 e8 : FuncData} (d : D K mg "apply_moves" s_apply_moves ["word", "moves"] f fd) (B : Blt mg) (BW : BltW mg) (CW : CstW mg) (EC : ErrC K mg "InvalidWord" CWd) (FL : FunS P K mg "InvalidStep" "InvalidStep.__init__" s_ISInit ["self", "position"] CX fL fdL) (nL : PySem.W.findIn K (.ref CX) "position" = some none) (mW : mg "WIDTHS" = some (.ref WD))
    (kW : ∀ nm : Str, ∃ r, KDin K w WD nm r ∧ (cdW nm = none → r = none) ∧ ∀ u, cdW nm = some u → ∃ t, r = some (.int (mvN u : Nat) t)) (d_is_letter : D K mg "is_letter" s_is_letter ["number"] f1 e1) (d_are_letters : D K mg "are_letters" s_are_letters ["numbers"] f6 e6) (d_check_word : D K mg "check_word" s_check_word ["word"] f7 e7) (d_with_sign : D K mg "with_sign" s_with_sign ["magnitude", "letter"] f2 e2) (d_change_of : D K mg "change_of" s_change_of ["letters", "move"] f8 e8) (d_insertion_of : D K mg "insertion_of" s_insertion_of ["letters", "move"] f3 e3) (d_replaced_by : D K mg "replaced_by" s_replaced_by ["name", "letters"] f4 e4) (d_braided : D K mg "braided" s_braided ["letters"] f5 e5) : FnOk P w K mg base (L2N.CX P w) 5 f fd ["word", "moves"] (spApply K CWd CX) := by
  have GL : FnOk P w K mg base CX0 1 fL fdL ["self", "position"] (spS CX "position" okInt) := ok_ISInit FL nL
  have G_check_word : FnOk P w K mg base (L2N.CX P w) 3 f7 e7 ["word"] (spChkW K CWd) := ok_check_word d_check_word B BW CW EC d_is_letter d_are_letters
  have G_change_of : FnOk P w K mg base CX0 4 f8 e8 ["letters", "move"] (spChange K) := ok_change_of d_change_of B BW CW mW kW d_is_letter d_with_sign d_insertion_of d_replaced_by d_braided
  refine Fun.okN d.F sc_apply_moves (fun vs H Q E h => ?_) (fun cdv A outer s H vs Q E hr h => ?_)
  · obtain ⟨_, _, _, _, _, rfl, _⟩ := h
    rfl
  obtain ⟨a, b, ns, us, ms, rfl, ha, hn, hb, hM, hu, hA, q, qE, qW⟩ := h
  rcases hb with hb | hb
  · refine ⟨_, (pss_cons (ps_expr (pe_call G_check_word (hr.mono (by decide)) rfl d_check_word.m d_check_word.F.kp d_check_word.b .nil passD (pa_cons (pv 0) pa_nil)))
 (pss_cons (ps_set (i := 2) sc_apply_moves.nd rfl (Or.inl rfl) (pe_callTy call_list_of (by rfl) B.list (by decide +kernel) (pa_cons (pv 0) pa_nil)))
 (pss_cons (ps_for (passes_of rfl) rfl (pi_enum (by rfl) B.enumerate (pa_cons (pv 1) pa_nil)) (pg_tup (by rfl) (pgs_cons (pg_name (i := 3) sc_apply_moves.nd rfl (Or.inl rfl)) (pgs_cons (pg_name (i := 4) sc_apply_moves.nd rfl (Or.inl rfl)) pgs_nil)))
  (pss_cons (ps_set (i := 5) sc_apply_moves.nd rfl (Or.inl rfl) (pe_call G_change_of (hr.mono (by decide)) rfl d_change_of.m d_change_of.F.kp d_change_of.b .nil pass0 (pa_cons (pv 2) (pa_cons (pv 4) pa_nil))))
 (pss_cons (ps_if (pt_cmpR op_isN (pv 5) pe_non (nomark _)) (pss_one (L2N.ps_raise rfl (L2N.takes_of rfl rfl rfl rfl) (pmkN_oex FL.T FL.iC FL.tI GL (hr.mono (by decide)) FL.b (fun _ _ _ _ _ _ _ h => h.elim) (by exact rfl) FL.m (pa_cons (pv 3) pa_nil)))) pss_nil)
 (pss_cons (ps_asg (pv 5) (pg_tup (by rfl) (pgs_cons (pg_name (i := 6) sc_apply_moves.nd rfl (Or.inl rfl)) (pgs_cons (pg_name (i := 7) sc_apply_moves.nd rfl (Or.inl rfl)) (pgs_cons (pg_name (i := 8) sc_apply_moves.nd rfl (Or.inl rfl)) pgs_nil)))))
 (pss_one (ps_asg (pv 8) (pg_slc (pv 2) (pv 6) (pv 7))))))))
 (pss_one (ps_ret (pe_callTy call_tuple_of (by rfl) B.tuple (by decide +kernel) (pa_cons (pv 2) pa_nil))))))), ?_⟩
    refine ⟨_, rfl, a, ns, rfl, ha, by omega, fun ok H1 s1 => ?_, fun no H1 s1 => qW no H1 s1⟩
    have hA := hA ok
    have q := q ok
    have qE := qE ok
    have hL : Lets 40 ns := fun n hn => by
      have h1 := (Bool.and_eq_true_iff.mp ok).2
      have h2 := List.all_eq_true.mp h1 n hn
      have h3 := Bool.and_eq_true_iff.mp h2
      exact ⟨of_decide_eq_true h3.1, of_decide_eq_true h3.2⟩
    refine ⟨_, rfl, a, _, rfl, .inr ((Tp.same s1).sqT ha), fun D nD => ?_⟩
    have s2 := s1.trans (Same.new nD (.lst (ns.map V.int)))
    have hD0 : H D = none := s1.free nD
    have hD2 : upd H1 D (.lst (ns.map V.int)) D = some (.lst (ns.map V.int)) := upd_same
    generalize upd H1 D (.lst (ns.map V.int)) = H2 at *
    refine ⟨_, rfl, b, us, rfl, s2.seq hb, for_EL (xs := us) (fun j σ G => ∃ (x3 x4 x5 x6 x7 x8 : Option V) (cur : List Int), σ = [some (.ref a), some (.ref b), some (.ref D), x3, x4, x5, x6, x7, x8] ∧ Same H G ∧ G D = some (.lst (cur.map V.int)) ∧ runX (ms.drop j) j cur = runX ms 0 ns ∧ runA (ms.drop j) cur ∧ Lets 40 cur) ⟨none, none, none, none, none, none, ns, rfl, s2, hD2, rfl, hA, hL⟩ (fun j σ G z => ?_) ?_ ?_⟩
    · obtain ⟨_, _, _, _, _, _, _, _, sm, _⟩ := z
      exact sm.seq hb
    · rintro j v σ G hv ⟨x3, x4, x5, x6, x7, x8, cur, rfl, sm, hD, hrun, hrA, hLc⟩ t nt
      have hj : j < us.length := (List.getElem?_eq_some_iff.mp hv).1
      have hjm : j < ms.length := by rw [← hM.1]; exact hj
      have em : ms[j]? = some ms[j] := List.getElem?_eq_getElem hjm
      obtain ⟨p, rfl, hp⟩ := hM.2 j v _ hv em
      have st := Same.new nt (.tup [.int (j : Nat), .ref p])
      have sm2 := sm.trans st
      have hD2 := st _ _ hD
      rw [List.drop_eq_getElem_cons hjm] at hrun hrA
      generalize ms[j] = mj at *
      obtain ⟨nm, args⟩ := mj
      have hrA : cur.length ≤ 900 ∧ args.length ≤ 2 ∧ ∀ r, mvX nm args cur = some r → runA (ms.drop (j + 1)) r := hrA
      have hrun : (match mvX nm args cur with | none => Except.error j | some r => runX (ms.drop (j + 1)) (j + 1) r) = runX ms 0 ns := hrun
      refine ⟨t, _, rfl, SqT.here upd_same, rfl, _, _, rfl, _, _, rfl, rfl, ?_⟩
      refine ⟨_, rfl, _, rfl, D, p, cur, nm, args, rfl, hD2, (Tp.same sm2).sqT hp, hrA.2.1, by omega, fun x hx => (hLc x hx).1, fun v H3 s3 o3 => ?_⟩
      have sm3 := sm2.trans s3
      have hD3 := s3 _ _ hD2
      refine ⟨_, rfl, rfl, _, rfl, ?_⟩
      cases hc : chX nm args cur with
      | none =>
        rw [hc] at o3
        have o3 : v = .non := o3
        subst o3
        have e0 : mvX nm args cur = none := by unfold mvX; rw [hc]; rfl
        rw [e0] at hrun
        refine ite_yes (decide_eq_true rfl) ?_
        refine ⟨_, rfl, (by show 1 ≤ 1000; omega), fun b1 nb1 => ⟨b1, _, rfl, upd_same, ⟨_, rfl, by omega, by omega⟩, fun dx ndx ne => ?_⟩⟩
        rw [upd_ne ne] at ndx
        refine ⟨rfl, dx, _, upd_same, (upd_ne ne).trans upd_same, ndx, ?_⟩
        refine qE j hrun.symm dx _ (fun b' o hb' => ?_) (sm3.free ndx) upd_same
        have h2 := sm3 _ _ hb'
        have ba : b' ≠ b1 := ne_of_none h2 nb1
        have bd : b' ≠ dx := ne_of_none h2 ndx
        rw [upd_ne bd, del_ne ba, upd_ne ba, upd_ne bd, upd_ne ba]
        exact h2
      | some c =>
        obtain ⟨s0, e0, mm⟩ := c
        rw [hc] at o3
        obtain ⟨u, pr, rfl, hu3, npr, hpr⟩ := o3
        have em2 : mvX nm args cur = some (cur.take s0 ++ mm ++ cur.drop e0) := by unfold mvX; rw [hc]; rfl
        have hcb := chX_b hc
        refine ite_no (decide_eq_false (fun z => by cases z)) ?_
        refine ⟨_, rfl, u, _, rfl, hu3, rfl, _, _, rfl, _, _, rfl, _, _, rfl, rfl, ?_⟩
        have nDp : D ≠ pr := fun z => by rw [← z, hD2] at npr; cases npr
        have lc : (cur.map V.int).length = cur.length := by rw [List.length_map]
        refine ⟨_, rfl, _, rfl, _, rfl, (s0 : Int), rfl, _, rfl, (e0 : Int), rfl, D, pr, _, _, (s0 : Int), (e0 : Int), rfl, rfl, rfl, rfl, hD3, hpr, nDp, by omega, by have := hcb.1; omega, by rw [lc]; have := hcb.2.1; omega, ?_, ?_⟩
        · rw [lc, List.length_map]
          exact Nat.le_trans (show cur.length + mm.length ≤ 2000 by have := hcb.2.2; omega) (by decide)
        rw [em2] at hrun
        refine ⟨_, _, _, _, _, _, cur.take s0 ++ mm ++ cur.drop e0, rfl, fun b' o' e' => ?_, ?_, hrun, hrA.2.2 _ em2, mvX_lets hLc em2⟩
        · rw [upd_ne (ne_of_none e' hD0)]
          exact sm3 _ _ e'
        · rw [upd_same, Int.toNat_natCast, Int.toNat_natCast, List.map_append, List.map_append, List.map_take, List.map_drop]
    · rintro σ G ⟨x3, x4, x5, x6, x7, x8, cur, rfl, sm, hD, hrun, hrA, hLc⟩
      rw [hM.1, List.drop_length] at hrun
      have hrun : Except.ok cur = runX ms 0 ns := hrun
      refine ⟨_, rfl, D, _, rfl, .inl ⟨SqL.here hD, fun p np => ?_⟩⟩
      exact q cur hrun.symm p _ (SqT.here upd_same) (sm.trans (Same.new np _))
  · refine ⟨_, (pss_cons (ps_expr (pe_call G_check_word (hr.mono (by decide)) rfl d_check_word.m d_check_word.F.kp d_check_word.b .nil passD (pa_cons (pv 0) pa_nil)))
 (pss_cons (ps_set (i := 2) sc_apply_moves.nd rfl (Or.inl rfl) (pe_callTy call_list_of (by rfl) B.list (by decide +kernel) (pa_cons (pv 0) pa_nil)))
 (pss_cons (ps_for (passes_of rfl) rfl (pi_ET (by rfl) B.enumerate (pa_cons (pv 1) pa_nil)) (pg_tup (by rfl) (pgs_cons (pg_name (i := 3) sc_apply_moves.nd rfl (Or.inl rfl)) (pgs_cons (pg_name (i := 4) sc_apply_moves.nd rfl (Or.inl rfl)) pgs_nil)))
  (pss_cons (ps_set (i := 5) sc_apply_moves.nd rfl (Or.inl rfl) (pe_call G_change_of (hr.mono (by decide)) rfl d_change_of.m d_change_of.F.kp d_change_of.b .nil pass0 (pa_cons (pv 2) (pa_cons (pv 4) pa_nil))))
 (pss_cons (ps_if (pt_cmpR op_isN (pv 5) pe_non (nomark _)) (pss_one (L2N.ps_raise rfl (L2N.takes_of rfl rfl rfl rfl) (pmkN_oex FL.T FL.iC FL.tI GL (hr.mono (by decide)) FL.b (fun _ _ _ _ _ _ _ h => h.elim) (by exact rfl) FL.m (pa_cons (pv 3) pa_nil)))) pss_nil)
 (pss_cons (ps_asg (pv 5) (pg_tup (by rfl) (pgs_cons (pg_name (i := 6) sc_apply_moves.nd rfl (Or.inl rfl)) (pgs_cons (pg_name (i := 7) sc_apply_moves.nd rfl (Or.inl rfl)) (pgs_cons (pg_name (i := 8) sc_apply_moves.nd rfl (Or.inl rfl)) pgs_nil)))))
 (pss_one (ps_asg (pv 8) (pg_slc (pv 2) (pv 6) (pv 7))))))))
 (pss_one (ps_ret (pe_callTy call_tuple_of (by rfl) B.tuple (by decide +kernel) (pa_cons (pv 2) pa_nil))))))), ?_⟩
    refine ⟨_, rfl, a, ns, rfl, ha, by omega, fun ok H1 s1 => ?_, fun no H1 s1 => qW no H1 s1⟩
    have hA := hA ok
    have q := q ok
    have qE := qE ok
    have hL : Lets 40 ns := fun n hn => by
      have h1 := (Bool.and_eq_true_iff.mp ok).2
      have h2 := List.all_eq_true.mp h1 n hn
      have h3 := Bool.and_eq_true_iff.mp h2
      exact ⟨of_decide_eq_true h3.1, of_decide_eq_true h3.2⟩
    refine ⟨_, rfl, a, _, rfl, .inr ((Tp.same s1).sqT ha), fun D nD => ?_⟩
    have s2 := s1.trans (Same.new nD (.lst (ns.map V.int)))
    have hD0 : H D = none := s1.free nD
    have hD2 : upd H1 D (.lst (ns.map V.int)) D = some (.lst (ns.map V.int)) := upd_same
    generalize upd H1 D (.lst (ns.map V.int)) = H2 at *
    refine ⟨_, rfl, b, us, rfl, (Tp.same s2).sqT hb, for_ET (xs := us) (fun j σ G => ∃ (x3 x4 x5 x6 x7 x8 : Option V) (cur : List Int), σ = [some (.ref a), some (.ref b), some (.ref D), x3, x4, x5, x6, x7, x8] ∧ Same H G ∧ G D = some (.lst (cur.map V.int)) ∧ runX (ms.drop j) j cur = runX ms 0 ns ∧ runA (ms.drop j) cur ∧ Lets 40 cur) ⟨none, none, none, none, none, none, ns, rfl, s2, hD2, rfl, hA, hL⟩ (fun j σ G z => ?_) ?_ ?_⟩
    · obtain ⟨_, _, _, _, _, _, _, _, sm, _⟩ := z
      exact (Tp.same sm).sqT hb
    · rintro j v σ G hv ⟨x3, x4, x5, x6, x7, x8, cur, rfl, sm, hD, hrun, hrA, hLc⟩ t nt
      have hj : j < us.length := (List.getElem?_eq_some_iff.mp hv).1
      have hjm : j < ms.length := by rw [← hM.1]; exact hj
      have em : ms[j]? = some ms[j] := List.getElem?_eq_getElem hjm
      obtain ⟨p, rfl, hp⟩ := hM.2 j v _ hv em
      have st := Same.new nt (.tup [.int (j : Nat), .ref p])
      have sm2 := sm.trans st
      have hD2 := st _ _ hD
      rw [List.drop_eq_getElem_cons hjm] at hrun hrA
      generalize ms[j] = mj at *
      obtain ⟨nm, args⟩ := mj
      have hrA : cur.length ≤ 900 ∧ args.length ≤ 2 ∧ ∀ r, mvX nm args cur = some r → runA (ms.drop (j + 1)) r := hrA
      have hrun : (match mvX nm args cur with | none => Except.error j | some r => runX (ms.drop (j + 1)) (j + 1) r) = runX ms 0 ns := hrun
      refine ⟨t, _, rfl, SqT.here upd_same, rfl, _, _, rfl, _, _, rfl, rfl, ?_⟩
      refine ⟨_, rfl, _, rfl, D, p, cur, nm, args, rfl, hD2, (Tp.same sm2).sqT hp, hrA.2.1, by omega, fun x hx => (hLc x hx).1, fun v H3 s3 o3 => ?_⟩
      have sm3 := sm2.trans s3
      have hD3 := s3 _ _ hD2
      refine ⟨_, rfl, rfl, _, rfl, ?_⟩
      cases hc : chX nm args cur with
      | none =>
        rw [hc] at o3
        have o3 : v = .non := o3
        subst o3
        have e0 : mvX nm args cur = none := by unfold mvX; rw [hc]; rfl
        rw [e0] at hrun
        refine ite_yes (decide_eq_true rfl) ?_
        refine ⟨_, rfl, (by show 1 ≤ 1000; omega), fun b1 nb1 => ⟨b1, _, rfl, upd_same, ⟨_, rfl, by omega, by omega⟩, fun dx ndx ne => ?_⟩⟩
        rw [upd_ne ne] at ndx
        refine ⟨rfl, dx, _, upd_same, (upd_ne ne).trans upd_same, ndx, ?_⟩
        refine qE j hrun.symm dx _ (fun b' o hb' => ?_) (sm3.free ndx) upd_same
        have h2 := sm3 _ _ hb'
        have ba : b' ≠ b1 := ne_of_none h2 nb1
        have bd : b' ≠ dx := ne_of_none h2 ndx
        rw [upd_ne bd, del_ne ba, upd_ne ba, upd_ne bd, upd_ne ba]
        exact h2
      | some c =>
        obtain ⟨s0, e0, mm⟩ := c
        rw [hc] at o3
        obtain ⟨u, pr, rfl, hu3, npr, hpr⟩ := o3
        have em2 : mvX nm args cur = some (cur.take s0 ++ mm ++ cur.drop e0) := by unfold mvX; rw [hc]; rfl
        have hcb := chX_b hc
        refine ite_no (decide_eq_false (fun z => by cases z)) ?_
        refine ⟨_, rfl, u, _, rfl, hu3, rfl, _, _, rfl, _, _, rfl, _, _, rfl, rfl, ?_⟩
        have nDp : D ≠ pr := fun z => by rw [← z, hD2] at npr; cases npr
        have lc : (cur.map V.int).length = cur.length := by rw [List.length_map]
        refine ⟨_, rfl, _, rfl, _, rfl, (s0 : Int), rfl, _, rfl, (e0 : Int), rfl, D, pr, _, _, (s0 : Int), (e0 : Int), rfl, rfl, rfl, rfl, hD3, hpr, nDp, by omega, by have := hcb.1; omega, by rw [lc]; have := hcb.2.1; omega, ?_, ?_⟩
        · rw [lc, List.length_map]
          exact Nat.le_trans (show cur.length + mm.length ≤ 2000 by have := hcb.2.2; omega) (by decide)
        rw [em2] at hrun
        refine ⟨_, _, _, _, _, _, cur.take s0 ++ mm ++ cur.drop e0, rfl, fun b' o' e' => ?_, ?_, hrun, hrA.2.2 _ em2, mvX_lets hLc em2⟩
        · rw [upd_ne (ne_of_none e' hD0)]
          exact sm3 _ _ e'
        · rw [upd_same, Int.toNat_natCast, Int.toNat_natCast, List.map_append, List.map_append, List.map_take, List.map_drop]
    · rintro σ G ⟨x3, x4, x5, x6, x7, x8, cur, rfl, sm, hD, hrun, hrA, hLc⟩
      rw [hM.1, List.drop_length] at hrun
      have hrun : Except.ok cur = runX ms 0 ns := hrun
      refine ⟨_, rfl, D, _, rfl, .inl ⟨SqL.here hD, fun p np => ?_⟩⟩
      exact q cur hrun.symm p _ (SqT.here upd_same) (sm.trans (Same.new np _))

abbrev s__law_long_word : Stmt := top 49
theorem sc__law_long_word : FnScope ["_law_rng", "_law_k"] ["_law_rng"] (defScope s__law_long_word) := ⟨rfl, rfl, rfl, by decide +kernel, rfl, by decide +kernel, by decide +kernel⟩
theorem ok__law_long_word {f1 : Addr} {e1 : FuncData} (d : D K mg "_law_long_word" s__law_long_word ["_law_rng"] f fd) (B : Blt mg) (d__law_draw : D K mg "_law_draw" s__law_draw ["_law_rng", "_law_amount"] f1 e1) : FnOk P w K mg base CX0 2 f fd ["_law_rng"] (spLong K) := by
  have G__law_draw : FnOk P w K mg base CX0 1 f1 e1 ["_law_rng", "_law_amount"] spDrawC := ok__law_drawC d__law_draw B
  refine d.F.ok sc__law_long_word (fun vs H Q E h => ?_) (fun cdv A outer s H vs Q E hr h => ?_)
  · obtain ⟨_, _, rfl, _⟩ := h
    rfl
  obtain ⟨r, c, rfl, hR, q⟩ := h
  refine ⟨_, (pss_one (ps_ret (pe_callTy call_tuple_of (by rfl) B.tuple (by decide +kernel) (pa_cons (pe_lc (own := [("_law_k", 1)]) (g := gName 1) (tt := tYes) (by rfl) sc__law_long_word.nd (pi_range1 (by rfl) B.range (pa_cons (pe_op op_add pe_int (pe_call G__law_draw (hr.mono (by decide)) rfl d__law_draw.m d__law_draw.F.kp d__law_draw.b .nil pass0 (pa_cons (pv 0) (pa_cons pe_int pa_nil)))) pa_nil)) (blkOk_by (own := [("_law_k", 1)]) (N := ["_law_rng", "_law_k"]) (sc := defScope s__law_long_word) (by decide +kernel)) (fun _ _ _ _ _ => (pg_name (i := 1) sc__law_long_word.nd rfl (Or.inl rfl))) (fun _ _ _ _ _ => pts_nil) (fun _ _ _ _ _ => (pe_op op_add pe_int (pe_call G__law_draw (hr.mono (by decide)) rfl d__law_draw.m d__law_draw.F.kp d__law_draw.b .nil pass0 (pa_cons (pv 0) (pa_cons pe_int pa_nil)))))) pa_nil)))), ?_⟩
  refine ⟨_, rfl, r, _, c, rfl, hR, by decide, by decide, fun n H1 n0 n1 R1 b1 => ?_⟩
  refine ⟨_, _, rfl, rfl, 31 + n, rfl, by omega, by omega, fun D hD => ?_⟩
  have nDr := R1.ne hD
  refine lc_range (lo := 0) (n := (31 + n).toNat) (fun i G => RngC G r c ∧ But r H1 G ∧ ∃ ns : List Int, G D = some (.lst (ns.map V.int)) ∧ ns.length = i ∧ Lets 4 ns) ⟨R1.same (Same.new hD _), But.same (Same.new hD _), [], upd_same, rfl, fun _ hn => nomatch hn⟩ ?_ ?_
  · rintro i G hi ⟨RG, bG, ns, hl, hlen, hL⟩
    refine ⟨rfl, ?_⟩
    refine ⟨_, rfl, r, 4, c, rfl, RG, by decide, by decide, fun m G2 m0 m1 R2 b2 => ?_⟩
    have hl3 := b2 _ _ nDr.1 hl
    refine ⟨_, _, rfl, rfl, _, hl3, by rw [List.length_map, hlen]; exact small1000 (by omega), ?_⟩
    have bd : But r H1 (upd G2 D (.lst (ns.map V.int ++ [.int (1 + m)]))) := fun b o nb z => by
      rw [upd_ne (ne_of_none z hD)]
      exact b2 _ _ nb (bG _ _ nb z)
    refine ⟨R2.set nDr, bd, ns ++ [1 + m], by rw [upd_same, List.map_append]; rfl, by rw [List.length_append, hlen]; rfl, hL.app ?_⟩
    intro x hx
    rw [List.mem_singleton.mp hx, ab_pos (by omega)]
    omega
  · rintro G ⟨RG, bG, ns, hl, hlen, hL⟩
    refine ⟨D, _, rfl, .inl ⟨SqL.here hl, fun p np => ?_⟩⟩
    exact q p ns _ (SqT.here upd_same) (by omega) hL (RG.same (Same.new np _)) ((b1.trans bG).trans (But.same (Same.new np _)))

abbrev s__law_expected : Stmt := top 50
theorem sc__law_expected : FnScope ["_law_row", "_law_moves_here", "_law_current", "_law_at"] ["_law_row", "_law_moves_here"] (defScope s__law_expected) := ⟨rfl, rfl, rfl, by decide +kernel, rfl, by decide +kernel, by decide +kernel⟩
theorem ok__law_expected {f1 f2 f3 : Addr} {e1 e2 e3 : FuncData} (d : D K mg "_law_expected" s__law_expected ["_law_row", "_law_moves_here"] f fd) (B : Blt mg) (BW : BltW mg) (d__law_sign : D K mg "_law_sign" s__law_sign ["_law_number"] f1 e1) (d__law_braided : D K mg "_law_braided" s__law_braided ["_law_first", "_law_second", "_law_third"] f2 e2) (d__law_move : D K mg "_law_move" s__law_move ["_law_row", "_law_move_here"] f3 e3) : FnOk P w K mg base CX0 4 f fd ["_law_row", "_law_moves_here"] (spExp K) := by
  have G__law_move : FnOk P w K mg base CX0 3 f3 e3 ["_law_row", "_law_move_here"] (spMoveX K) := ok__law_moveX d__law_move B BW d__law_sign d__law_braided
  refine d.F.ok sc__law_expected (fun vs H Q E h => ?_) (fun cdv A outer s H vs Q E hr h => ?_)
  · obtain ⟨_, _, _, _, _, rfl, _⟩ := h
    rfl
  obtain ⟨a, b, ns, us, ms, rfl, ha, hb, hM, hu, hA, hlen, q, qE⟩ := h
  refine ⟨_, (pss_cons (ps_set (i := 2) sc__law_expected.nd rfl (Or.inl rfl) (pe_callTy call_list_of (by rfl) B.list (by decide +kernel) (pa_cons (pv 0) pa_nil)))
 (pss_cons (ps_for PassesOwn.never rfl (pi_range1 (by rfl) B.range (pa_cons (pe_callB call_len_seq (by rfl) B.len PySem.boot_len (pa_cons (pv 1) pa_nil)) pa_nil)) (pg_name (i := 3) sc__law_expected.nd rfl (Or.inl rfl))
  (C8.pss_cut (ps_set (i := 2) sc__law_expected.nd rfl (Or.inl rfl) (pe_ifExp (pt_cmpR op_gt (pe_callB call_len_seq (by rfl) B.len PySem.boot_len (pa_cons (pe_ix ix_list (pv 1) (pv 3) (fun _ _ => rfl)) pa_nil)) pe_int (nomark _)) (pe_call G__law_move (hr.mono (by decide)) rfl d__law_move.m d__law_move.F.kp d__law_move.b .nil pass0 (pa_cons (pv 2) (pa_cons (pe_ix ix_list (pv 1) (pv 3) (fun _ _ => rfl)) pa_nil))) pe_non))
 (pss_one (ps_if (pt_cmpR op_isN (pv 2) pe_non (nomark _)) (pss_one (ps_ret (pe_tup (pa_cons pe_str (pa_cons (pv 3) pa_nil))))) pss_nil))))
 (pss_one (ps_ret (pe_tup (pa_cons pe_str (pa_cons (pe_callTy call_tuple_of (by rfl) B.tuple (by decide +kernel) (pa_cons (pv 2) pa_nil)) pa_nil))))))), ?_⟩
  refine ⟨_, rfl, a, _, rfl, ha, fun D nD => ?_⟩
  have s1 := Same.new nD (.lst (ns.map V.int))
  have h1 : upd H D (.lst (ns.map V.int)) D = some (.lst (ns.map V.int)) := upd_same
  generalize upd H D (.lst (ns.map V.int)) = H1 at *
  refine ⟨_, rfl, b, _, rfl, .inl (s1.seq hb), _, rfl, by omega, by omega, ?_⟩
  refine for_range (lo := 0) (n := us.length) (fun j σ G => ∃ (x3 : Option V) (c : Addr) (cur : List Int), σ = [some (.ref a), some (.ref b), some (.ref c), x3] ∧ Same H G ∧ G c = some (.lst (cur.map V.int)) ∧ runX (ms.drop j) j cur = runX ms 0 ns ∧ cur.length + 2 * (ms.length - j) ≤ 900) ⟨none, D, ns, rfl, s1, h1, rfl, hlen⟩ ?_ ?_
  · rintro j σ G hj ⟨x3, c, cur, rfl, sm, hc, hrun, hl⟩
    have hjm : j < ms.length := by rw [← hM.1]; exact hj
    have em : ms[j]? = some ms[j] := List.getElem?_eq_getElem hjm
    have eu : us[j]? = some us[j] := List.getElem?_eq_getElem hj
    obtain ⟨p, ep, hp⟩ := hM.2 j _ _ eu em
    have hA2 := hA _ (List.getElem_mem hjm)
    rw [List.drop_eq_getElem_cons hjm] at hrun
    generalize ms[j] = mj at *
    obtain ⟨nm, args⟩ := mj
    have hp : SqT K H p (.str nm :: args.map V.int) := hp
    have hA2 : args.length ≤ 2 := hA2
    have hrun : (match mvX nm args cur with | none => Except.error j | some r => runX (ms.drop (j + 1)) (j + 1) r) = runX ms 0 ns := hrun
    have ix : atI us (0 + (j : Int)) = some (.ref p) := by
      rw [show (0 + (j : Int)) = (j : Int) by omega, ← ep]
      exact atI_nat eu
    have hpG := (Tp.same sm).sqT hp
    have lp : (.str nm :: args.map V.int : List V).length = args.length + 1 := by rw [List.length_cons, List.length_map]
    refine ⟨fun σ2 G2 => ∃ v, σ2 = [some (.ref a), some (.ref b), some v, some (.int (0 + (j : Int)))] ∧ Same G G2 ∧ OL G G2 (mvX nm args cur) v, ?_, ?_⟩
    · refine ⟨_, rfl, _, rfl, b, _, _, _, rfl, rfl, sm.seq hb, ix, p, _, rfl, .inr hpG, _, _, rfl, rfl, _, rfl, ?_⟩
      rw [lp]
      by_cases h1 : args.length = 0
      · rw [h1]
        refine iteF ?_
        have : args = [] := List.length_eq_zero_iff.mp h1
        subst this
        exact ⟨_, rfl, Same.refl _, rfl⟩
      · rw [decide_eq_true (show ((args.length + 1 : Nat) : Int) > 1 by omega)]
        refine iteT ?_
        exact ⟨_, rfl, _, rfl, _, rfl, b, _, _, _, rfl, rfl, sm.seq hb, ix, c, p, cur, nm, args, rfl, hc, by omega, hpG, by omega, fun v G2 s2 o2 => ⟨v, rfl, s2, o2⟩⟩
    · rintro σ2 G2 ⟨v, rfl, s2, o2⟩
      refine ⟨_, rfl, rfl, _, rfl, ?_⟩
      cases hm : mvX nm args cur with
      | none =>
        rw [hm] at o2 hrun
        have o2 : v = .non := o2
        subst o2
        refine ite_yes (decide_eq_true rfl) ⟨_, rfl, two_le, fun t nt => ?_⟩
        exact qE j hrun.symm t _ (SqT.here (by rw [upd_same, show (0 + (j : Int)) = (j : Int) by omega])) ((sm.trans s2).trans (Same.new nt _))
      | some r =>
        rw [hm] at o2 hrun
        obtain ⟨c2, rfl, nc2, hc2⟩ := o2
        refine ite_no (decide_eq_false (fun z => by cases z)) ?_
        refine ⟨_, c2, r, rfl, sm.trans s2, hc2, hrun, ?_⟩
        have := mvX_len hm
        omega
  · rintro σ G ⟨x3, c, cur, rfl, sm, hc, hrun, hl⟩
    rw [hM.1, List.drop_length] at hrun
    have hrun : Except.ok cur = runX ms 0 ns := hrun
    refine ⟨_, rfl, c, _, rfl, .inl ⟨SqL.here hc, fun p np => ⟨two_le, fun t nt => ?_⟩⟩⟩
    have s1 := Same.new np (.tup (cur.map V.int))
    have s2 := Same.new nt (.tup [.str "value", .ref p])
    exact q cur hrun.symm t p _ (SqT.here upd_same) ((Tp.same s2).sqT (SqT.here upd_same)) (sm.trans (s1.trans s2))

abbrev s__law_invalid_move : Stmt := top 51
theorem sc__law_invalid_move : FnScope ["_law_rng", "_law_row", "_law_at", "_law_invalid"] ["_law_rng", "_law_row"] (defScope s__law_invalid_move) := ⟨rfl, rfl, rfl, by decide +kernel, rfl, by decide +kernel, by decide +kernel⟩
theorem ok__law_invalid_move {f1 f2 : Addr} {e1 e2 : FuncData} (d : D K mg "_law_invalid_move" s__law_invalid_move ["_law_rng", "_law_row"] f fd) (B : Blt mg) (d__law_draw : D K mg "_law_draw" s__law_draw ["_law_rng", "_law_amount"] f1 e1) (d__law_pick : D K mg "_law_pick" s__law_pick ["_law_rng", "_law_terms"] f2 e2) : FnOk P w K mg base CX0 3 f fd ["_law_rng", "_law_row"] (spInvM K) := by
  have G__law_draw : FnOk P w K mg base CX0 1 f1 e1 ["_law_rng", "_law_amount"] spDrawC := ok__law_drawC d__law_draw B
  have G__law_pick : FnOk P w K mg base CX0 2 f2 e2 ["_law_rng", "_law_terms"] (spPickC K) := ok__law_pickC d__law_pick B d__law_draw
  refine d.F.ok sc__law_invalid_move (fun vs H Q E h => ?_) (fun cdv A outer s H vs Q E hr h => ?_)
  · obtain ⟨_, _, _, _, rfl, _⟩ := h
    rfl
  obtain ⟨r, l, c, xs, rfl, hR, hl, nlr, hxl, q⟩ := h
  refine ⟨_, (pss_cons (ps_set (i := 2) sc__law_invalid_move.nd rfl (Or.inl rfl) (pe_op op_sub (pe_call G__law_draw (hr.mono (by decide)) rfl d__law_draw.m d__law_draw.F.kp d__law_draw.b .nil pass0 (pa_cons (pv 0) (pa_cons (pe_op op_add (pe_callB call_len_seq (by rfl) B.len PySem.boot_len (pa_cons (pv 1) pa_nil)) pe_int) pa_nil))) pe_int))
 (pss_cons (ps_set (i := 3) sc__law_invalid_move.nd rfl (Or.inl rfl) (pe_lst (pa_cons (pe_tup (pa_cons pe_str (pa_cons (pv 2) pa_nil))) (pa_cons (pe_tup (pa_cons pe_str (pa_cons (pv 2) pa_nil))) (pa_cons (pe_tup (pa_cons pe_str (pa_cons (pv 2) pa_nil))) (pa_cons (pe_tup (pa_cons pe_str (pa_cons (pv 2) (pa_cons (pe_op op_add pe_int (pe_call G__law_draw (hr.mono (by decide)) rfl d__law_draw.m d__law_draw.F.kp d__law_draw.b .nil pass0 (pa_cons (pv 0) (pa_cons pe_int pa_nil)))) pa_nil)))) (pa_cons (pe_tup (pa_cons pe_str (pa_cons (pv 2) (pa_cons pe_int pa_nil)))) pa_nil)))))))
 (pss_cons (ps_set (i := 3) sc__law_invalid_move.nd rfl (Or.inl rfl) (pe_op op_cat (pv 3) (pe_lst (pa_cons (pe_tup (pa_cons pe_str (pa_cons (pv 2) pa_nil))) (pa_cons (pe_tup (pa_cons pe_str (pa_cons (pv 2) (pa_cons pe_int pa_nil)))) (pa_cons (pe_tup (pa_cons pe_str (pa_cons (pv 2) pa_nil))) (pa_cons (pe_tup (pa_cons pe_str (pa_cons (pv 2) pa_nil))) (pa_cons (pe_tup (pa_cons pe_str pa_nil)) (pa_cons (pe_tup (pa_cons pe_str (pa_cons pe_int (pa_cons pe_int pa_nil)))) (pa_cons (pe_tup (pa_cons pe_str (pa_cons (pe_op op_pow pe_int pe_int) pa_nil))) pa_nil))))))))))
 (pss_one (ps_ret (pe_call G__law_pick (hr.mono (by decide)) rfl d__law_pick.m d__law_pick.F.kp d__law_pick.b .nil pass0 (pa_cons (pv 0) (pa_cons (pv 3) pa_nil)))))))), ?_⟩
  refine ⟨_, rfl, _, rfl, l, _, rfl, .inl (SqL.here hl), _, _, rfl, rfl, r, _, c, rfl, hR, by omega, by omega, fun a H1 a0 a1 R1 b1 => ?_⟩
  refine ⟨_, _, rfl, rfl, ?_⟩
  show gName 2 (.int (a - 1)) _ _ _
  generalize a - 1 = at_
  refine ⟨_, rfl, two_le, fun p1 n1 => ?_⟩
  have s1 := Same.new n1 (.tup [V.str "cancel", .int at_])
  have m1 : MvTs K (upd H1 p1 (.tup [V.str "cancel", .int at_])) [.ref p1] [("cancel", [at_])] := .one ⟨p1, rfl, SqT.here upd_same⟩
  have R2 := R1.same s1
  have b2 := b1.trans (But.same s1)
  generalize upd H1 p1 (.tup [V.str "cancel", .int at_]) = H2 at *
  refine ⟨_, rfl, two_le, fun p2 n2 => ?_⟩
  have s2 := Same.new n2 (.tup [V.str "swap", .int at_])
  have m2 := (m1.tp (Tp.same s2)).snoc (v := .ref p2) (m := ("swap", [at_])) ⟨p2, rfl, SqT.here upd_same⟩
  have R3 := R2.same s2
  have b3 := b2.trans (But.same s2)
  generalize upd H2 p2 (.tup [V.str "swap", .int at_]) = H3 at *
  refine ⟨_, rfl, two_le, fun p3 n3 => ?_⟩
  have s3 := Same.new n3 (.tup [V.str "braid", .int at_])
  have m3 := (m2.tp (Tp.same s3)).snoc (v := .ref p3) (m := ("braid", [at_])) ⟨p3, rfl, SqT.here upd_same⟩
  have R4 := R3.same s3
  have b4 := b3.trans (But.same s3)
  generalize upd H3 p3 (.tup [V.str "braid", .int at_]) = H4 at *
  clear m1 m2 s1 s2 s3 R1 R2 R3 b1 b2 b3 n1 n2 n3
  refine ⟨_, rfl, _, rfl, r, 40, c, rfl, R4, by decide, by decide, fun k H5 k0 k1 R5 b5 => ?_⟩
  have m4 := m3.tp (R4.tp b5)
  have b5 := b4.trans b5
  refine ⟨_, _, rfl, rfl, three_le, fun p4 n4 => ?_⟩
  have s4 := Same.new n4 (.tup [V.str "insert", .int at_, .int (1 + k)])
  have m5 := (m4.tp (Tp.same s4)).snoc (v := .ref p4) (m := ("insert", [at_, 1 + k])) ⟨p4, rfl, SqT.here upd_same⟩
  have R6 := R5.same s4
  have b6 := b5.trans (But.same s4)
  generalize upd H5 p4 (.tup [V.str "insert", .int at_, .int (1 + k)]) = H6 at *
  refine ⟨_, rfl, three_le, fun p5 n5 => ?_⟩
  have s5 := Same.new n5 (.tup [V.str "insert", .int at_, .int 0])
  have m6 := (m5.tp (Tp.same s5)).snoc (v := .ref p5) (m := ("insert", [at_, 0])) ⟨p5, rfl, SqT.here upd_same⟩
  have R7 := R6.same s5
  have b7 := b6.trans (But.same s5)
  generalize upd H6 p5 (.tup [V.str "insert", .int at_, .int 0]) = H7 at *
  refine ⟨(by show 5 ≤ sizeLine; decide), fun l1 nl1 => ?_⟩
  have s6 := Same.new nl1 (.lst [.ref p1, .ref p2, .ref p3, .ref p4, .ref p5])
  have m7 := m6.tp (Tp.same s6)
  have R8 := R7.same s6
  have b8 := b7.trans (But.same s6)
  have k8 : upd H7 l1 (.lst [V.ref p1, .ref p2, .ref p3, .ref p4, .ref p5]) l1 = some (.lst [V.ref p1, .ref p2, .ref p3, .ref p4, .ref p5]) := upd_same
  generalize upd H7 l1 (.lst [V.ref p1, .ref p2, .ref p3, .ref p4, .ref p5]) = H8 at *
  clear m3 m4 m5 m6 s4 s5 s6 R4 R5 R6 R7 b4 b5 b6 b7 n4 n5 nl1
  refine ⟨_, rfl, _, rfl, two_le, fun q0 nq0 => ?_⟩
  have s18 := Same.new nq0 (.tup [V.str "insert", .int at_])
  have m8 := (m7.tp (Tp.same s18)).snoc (v := .ref q0) (m := ("insert", [at_])) ⟨q0, rfl, SqT.here upd_same⟩
  have k9 := s18 _ _ k8
  have R9 := R8.same s18
  have b9 := b8.trans (But.same s18)
  generalize upd H8 q0 (.tup [V.str "insert", .int at_]) = H9 at *
  clear m7 k8 R8 b8 nq0 s18
  refine ⟨_, rfl, three_le, fun q1 nq1 => ?_⟩
  have s19 := Same.new nq1 (.tup [V.str "cancel", .int at_, .int 1])
  have m9 := (m8.tp (Tp.same s19)).snoc (v := .ref q1) (m := ("cancel", [at_, 1])) ⟨q1, rfl, SqT.here upd_same⟩
  have k10 := s19 _ _ k9
  have R10 := R9.same s19
  have b10 := b9.trans (But.same s19)
  generalize upd H9 q1 (.tup [V.str "cancel", .int at_, .int 1]) = H10 at *
  clear m8 k9 R9 b9 nq1 s19
  refine ⟨_, rfl, two_le, fun q2 nq2 => ?_⟩
  have s20 := Same.new nq2 (.tup [V.str "move", .int at_])
  have m10 := (m9.tp (Tp.same s20)).snoc (v := .ref q2) (m := ("move", [at_])) ⟨q2, rfl, SqT.here upd_same⟩
  have k11 := s20 _ _ k10
  have R11 := R10.same s20
  have b11 := b10.trans (But.same s20)
  generalize upd H10 q2 (.tup [V.str "move", .int at_]) = H11 at *
  clear m9 k10 R10 b10 nq2 s20
  refine ⟨_, rfl, two_le, fun q3 nq3 => ?_⟩
  have s21 := Same.new nq3 (.tup [V.str "", .int at_])
  have m11 := (m10.tp (Tp.same s21)).snoc (v := .ref q3) (m := ("", [at_])) ⟨q3, rfl, SqT.here upd_same⟩
  have k12 := s21 _ _ k11
  have R12 := R11.same s21
  have b12 := b11.trans (But.same s21)
  generalize upd H11 q3 (.tup [V.str "", .int at_]) = H12 at *
  clear m10 k11 R11 b11 nq3 s21
  refine ⟨one_le, fun q4 nq4 => ?_⟩
  have s22 := Same.new nq4 (.tup [V.str "braid"])
  have m12 := (m11.tp (Tp.same s22)).snoc (v := .ref q4) (m := ("braid", [])) ⟨q4, rfl, SqT.here upd_same⟩
  have k13 := s22 _ _ k12
  have R13 := R12.same s22
  have b13 := b12.trans (But.same s22)
  generalize upd H12 q4 (.tup [V.str "braid"]) = H13 at *
  clear m11 k12 R12 b12 nq4 s22
  refine ⟨three_le, fun q5 nq5 => ?_⟩
  have s23 := Same.new nq5 (.tup [V.str "insert", .int 0, .int 41])
  have m13 := (m12.tp (Tp.same s23)).snoc (v := .ref q5) (m := ("insert", [0, 41])) ⟨q5, rfl, SqT.here upd_same⟩
  have k14 := s23 _ _ k13
  have R14 := R13.same s23
  have b14 := b13.trans (But.same s23)
  generalize upd H13 q5 (.tup [V.str "insert", .int 0, .int 41]) = H14 at *
  clear m12 k13 R13 b13 nq5 s23
  refine ⟨_, _, rfl, rfl, ⟨by decide, by decide, by decide⟩, two_le, fun q6 nq6 => ?_⟩
  have s24 := Same.new nq6 (.tup [V.str "swap", .int (10 ^ Int.toNat 9)])
  have m14 := (m13.tp (Tp.same s24)).snoc (v := .ref q6) (m := ("swap", [10 ^ Int.toNat 9])) ⟨q6, rfl, SqT.here upd_same⟩
  have k15 := s24 _ _ k14
  have R15 := R14.same s24
  have b15 := b14.trans (But.same s24)
  generalize upd H14 q6 (.tup [V.str "swap", .int (10 ^ Int.toNat 9)]) = H15 at *
  clear m13 k14 R14 b14 nq6 s24
  refine ⟨(by show 7 ≤ sizeLine; decide), fun l2 nl2 => ?_⟩
  have z2 := Same.new nl2 (.lst [V.ref q0, .ref q1, .ref q2, .ref q3, .ref q4, .ref q5, .ref q6])
  have kk2 : upd H15 l2 (.lst [V.ref q0, .ref q1, .ref q2, .ref q3, .ref q4, .ref q5, .ref q6]) l2 = some (.lst [.ref q0, .ref q1, .ref q2, .ref q3, .ref q4, .ref q5, .ref q6]) := upd_same
  refine ⟨l1, l2, _, _, rfl, rfl, z2 _ _ k15, kk2, (by show 5 + 7 ≤ sizeLine; decide), fun l3 nl3 => ?_⟩
  have z3 := Same.new nl3 (.lst ([V.ref p1, .ref p2, .ref p3, .ref p4, .ref p5] ++ [.ref q0, .ref q1, .ref q2, .ref q3, .ref q4, .ref q5, .ref q6]))
  have zz := z2.trans z3
  have mm := m14.tp (Tp.same zz)
  have RR := R15.same zz
  have bb := b15.trans (But.same zz)
  have nl := (R15.same z2).ne nl3
  refine ⟨_, rfl, _, rfl, r, l3, c, [.ref p1, .ref p2, .ref p3, .ref p4, .ref p5] ++ [.ref q0, .ref q1, .ref q2, .ref q3, .ref q4, .ref q5, .ref q6], rfl, RR, .inl (SqL.here upd_same), (by show 0 < 12; decide), (by show 12 ≤ 10000; decide), nl.1, fun v HZ hv RZ bZ => ?_⟩
  obtain ⟨mz, hmz, hmv⟩ := mm.mem hv
  have ok : MvOk mz := by
    simp only [List.mem_append, List.mem_cons, List.not_mem_nil, or_false, or_assoc] at hmz
    rcases hmz with rfl | rfl | rfl | rfl | rfl | rfl | rfl | rfl | rfl | rfl | rfl | rfl
    · exact ⟨by show 1 ≤ 2; decide, strOk_cancel⟩
    · exact ⟨by show 1 ≤ 2; decide, strOk_swap⟩
    · exact ⟨by show 1 ≤ 2; decide, strOk_braid⟩
    · exact ⟨by show 2 ≤ 2; decide, strOk_insert⟩
    · exact ⟨by show 2 ≤ 2; decide, strOk_insert⟩
    · exact ⟨by show 1 ≤ 2; decide, strOk_insert⟩
    · exact ⟨by show 2 ≤ 2; decide, strOk_cancel⟩
    · exact ⟨by show 1 ≤ 2; decide, strOk_move⟩
    · exact ⟨by show 1 ≤ 2; decide, strOk_nil⟩
    · exact ⟨by show 0 ≤ 2; decide, strOk_braid⟩
    · exact ⟨by show 2 ≤ 2; decide, strOk_insert⟩
    · exact ⟨by show 1 ≤ 2; decide, strOk_swap⟩
  exact q v mz HZ (hmv.tp (RR.tp bZ)) ok RZ (bb.trans bZ)

abbrev s_law : Stmt := top 52
theorem sc_law : FnScope ["_law_script", "_law_rng", "_law_turn", "_law_wide", "_law_current", "_law_moves_here", "_law_step", "_law_some", "_law_move_here", "_law_later", "_law_expected_here", "_law_copied", "_law_long", "_law_words", "_law_argument", "_law_bad", "_law_row"] ["_law_script"] (defScope s_law) := ⟨rfl, rfl, rfl, by decide +kernel, rfl, by decide +kernel, by decide +kernel⟩
abbrev s__law_try : Stmt := top 42
theorem sc__law_try : FnScope ["_law_ask", "_law_e", "_law_word"] ["_law_ask"] (defScope s__law_try) := ⟨rfl, rfl, rfl, by decide +kernel, rfl, by decide +kernel, by decide +kernel⟩
def lamQ : Str := (PyProof.Rows.envOfC "law" (defScope s_law) 0 0 .none).qual ++ "<lambda>"
theorem canLay_ints : ∀ is : List Int, PyData.canLayAll0 (is.map PyData.int) = true
  | [] => rfl
  | i :: is => by
    show (PyData.canLay0 (.int i) && PyData.canLayAll0 (is.map PyData.int)) = true
    rw [canLay_ints is]
    rfl
theorem depth_intsX : ∀ is : List Int, PyData.depthAll (is.map PyData.int) ≤ 1
  | [] => Nat.zero_le _
  | i :: is => by
    have h := depth_intsX is
    have h2 : (PyData.int i).depth ≤ 1 := by first | exact Nat.le_refl _ | exact Nat.zero_le _
    show max (PyData.int i).depth (PyData.depthAll (is.map PyData.int)) ≤ 1
    omega
theorem mD_lay {m : Str × List Int} (h : MvOk m) : (mD m).canLay0 = true := by
  show (PyData.canLay0 (.str m.1) && PyData.canLayAll0 (m.2.map PyData.int)) = true
  rw [canLay_ints, show PyData.canLay0 (.str m.1) = PyData.strOk m.1 from rfl, h.2]
  rfl
theorem mD_depth (m : Str × List Int) : (mD m).depth ≤ 2 := by
  have h := depth_intsX m.2
  have h2 : (PyData.str m.1).depth ≤ 1 := by first | exact Nat.le_refl _ | exact Nat.zero_le _
  show max (PyData.str m.1).depth (PyData.depthAll (m.2.map PyData.int)) + 1 ≤ 2
  omega
def msD (ms : List (Str × List Int)) : PyData := .list (ms.map mD)
theorem msD_lay : ∀ {ms : List (Str × List Int)}, (∀ m ∈ ms, MvOk m) → PyData.canLayAll0 (ms.map mD) = true
  | [], _ => rfl
  | m :: ms, h => by
    show (PyData.canLay0 (mD m) && PyData.canLayAll0 (ms.map mD)) = true
    rw [mD_lay (h m List.mem_cons_self), msD_lay fun x hx => h x (List.mem_cons_of_mem _ hx)]
    rfl
theorem msD_dep : ∀ ms : List (Str × List Int), PyData.depthAll (ms.map mD) ≤ 2
  | [] => Nat.zero_le _
  | m :: ms => by
    have h := msD_dep ms
    have h2 := mD_depth m
    show max (mD m).depth (PyData.depthAll (ms.map mD)) ≤ 2
    omega
theorem msD_shaped {ms : List (Str × List Int)} (h : ∀ m ∈ ms, MvOk m) : SeqAt.shaped (msD ms) = true := by
  have e1 : (msD ms).canLay0 = PyData.canLayAll0 (ms.map mD) := rfl
  have e2 : (msD ms).depth = PyData.depthAll (ms.map mD) + 1 := rfl
  have e3 := msD_dep ms
  unfold SeqAt.shaped
  rw [e1, msD_lay h, decide_eq_true (by omega)]
  rfl
/-- what is expected: the value, or the place of the first wrong move -/
def rD : Except Nat (List Int) → PyData
  | .ok r => .tuple [.str "value", wD r]
  | .error j => .tuple [.str (en 9), .int (j : Nat)]
theorem rD_shaped (x : Except Nat (List Int)) : SeqAt.shaped (rD x) = true := by
  cases x with
  | ok r =>
    have e1 : (rD (.ok r)).canLay0 = (PyData.canLay0 (.str "value") && (PyData.canLay0 (wD r) && true)) := rfl
    have e2 : (rD (.ok r)).depth = max (PyData.depth (.str "value")) (max (wD r).depth 0) + 1 := rfl
    have e3 : PyData.depth (.str "value") ≤ 1 := by first | exact Nat.le_refl _ | exact Nat.zero_le _
    have e4 := wD_depth r
    have e5 : (wD r).canLay0 = true := SeqAt.canLay_of_shaped (wD_shaped r)
    unfold SeqAt.shaped
    rw [e1, e5, decide_eq_true (by omega)]
    decide +kernel
  | error j =>
    have e1 : (rD (.error j)).canLay0 = (PyData.canLay0 (.str (en 9)) && (PyData.canLay0 (.int (j : Nat)) && true)) := rfl
    have e2 : (rD (.error j)).depth = max (PyData.depth (.str (en 9))) (max (PyData.depth (.int (j : Nat))) 0) + 1 := rfl
    have e3 : PyData.depth (.str (en 9)) ≤ 1 := by first | exact Nat.le_refl _ | exact Nat.zero_le _
    have e4 : PyData.depth (.int (j : Nat)) ≤ 1 := by first | exact Nat.le_refl _ | exact Nat.zero_le _
    unfold SeqAt.shaped
    rw [e1, show PyData.canLay0 (.int (j : Nat)) = true from rfl, decide_eq_true (by omega)]
    decide +kernel
theorem rD_depth (x : Except Nat (List Int)) : (rD x).depth ≤ 3 := by
  cases x with
  | ok r =>
    have e2 : (rD (.ok r)).depth = max (PyData.depth (.str "value")) (max (wD r).depth 0) + 1 := rfl
    have e3 : PyData.depth (.str "value") ≤ 1 := by first | exact Nat.le_refl _ | exact Nat.zero_le _
    have e4 := wD_depth r
    omega
  | error j =>
    have e2 : (rD (.error j)).depth = max (PyData.depth (.str (en 9))) (max (PyData.depth (.int (j : Nat))) 0) + 1 := rfl
    have e3 : PyData.depth (.str (en 9)) ≤ 1 := by first | exact Nat.le_refl _ | exact Nat.zero_le _
    have e4 : PyData.depth (.int (j : Nat)) ≤ 1 := by first | exact Nat.le_refl _ | exact Nat.zero_le _
    omega
theorem rD_wide {x : Except Nat (List Int)} (h : ∀ r, x = .ok r → r.length ≤ 1000) : wide (rD x) = true := by
  cases x with
  | ok r =>
    show (decide (2 ≤ 1000) && (true && (wide (wD r) && true))) = true
    rw [wD_wide (h r rfl)]
    decide
  | error j => rfl
theorem run_len : ∀ {ms : List (Str × List Int)} {j : Nat} {ns r : List Int}, runX ms j ns = .ok r → r.length ≤ ns.length + 2 * ms.length
  | [], _, ns, r, h => by
    have h : Except.ok ns = Except.ok r := h
    cases h
    omega
  | m :: ms, j, ns, r, h => by
    have h : (match mvX m.1 m.2 ns with | none => Except.error j | some r => runX ms (j + 1) r) = .ok r := h
    cases e : mvX m.1 m.2 ns with
    | none => rw [e] at h; cases h
    | some r1 =>
      rw [e] at h
      have h1 := run_len (j := j + 1) (ns := r1) h
      have h2 := mvX_len e
      rw [List.length_cons]
      omega
/-- what stands in the law's inner loop -/
structure In18 (K : PySem.W.Frag) (Pa : Addr) (G : Hp) (r cc rw_ c mv : Addr) (ns cur : List Int) (vs : List V) (ms : List (Str × List Int)) : Prop where
  R : RngC G r cc
  T : LamX.Tabs [(Pa, lamQ)] G
  w : WT K G rw_ ns
  hc : G c = some (.lst (cur.map V.int))
  cr : c ≠ r
  hm : G mv = some (.lst vs)
  mr : mv ≠ r ∧ mv ≠ cc
  cm : c ≠ mv
  M : MvTs K G vs ms
  ok : ∀ m ∈ ms, MvOk m
theorem In18.same {G G' : Hp} {Pa r cc rw_ c mv : Addr} {ns cur : List Int} {vs : List V} {ms : List (Str × List Int)} (I : In18 K Pa G r cc rw_ c mv ns cur vs ms) (e : Same G G') : In18 K Pa G' r cc rw_ c mv ns cur vs ms :=
  ⟨I.R.same e, tabs_same e I.T, (Tp.same e).sqT I.w, e _ _ I.hc, I.cr, e _ _ I.hm, I.mr, I.cm, I.M.tp (Tp.same e), I.ok⟩
theorem In18.but {G G' : Hp} {Pa r cc rw_ c mv : Addr} {ns cur : List Int} {vs : List V} {ms : List (Str × List Int)} (I : In18 K Pa G r cc rw_ c mv ns cur vs ms) (e : But r G G') (R : RngC G' r cc) : In18 K Pa G' r cc rw_ c mv ns cur vs ms :=
  ⟨R, I.R.tabs e I.T, (I.R.tp e).sqT I.w, e _ _ I.cr I.hc, I.cr, e _ _ I.mr.1 I.hm, I.mr, I.cm, I.M.tp (I.R.tp e), I.ok⟩
def lgM (n : Nat) : List (Str × List Int) := [("insert", [(n : Int), 4]), ("insert", [0, -5]), ("cancel", [0])]
theorem lgM_ok {n : Nat} : ∀ m ∈ lgM n, m.2.length ≤ 2 := fun m hm => by
  simp only [lgM, List.mem_cons, List.not_mem_nil, or_false] at hm
  rcases hm with rfl | rfl | rfl
  · exact Nat.le_refl 2
  · exact Nat.le_refl 2
  · exact Nat.le_succ 1
theorem run_long (ns : List Int) : runX (lgM ns.length) 0 ns = .ok (ns ++ [4, -4]) := by
  unfold lgM
  have e1 : mvX "insert" [(ns.length : Int), 4] ns = some (ns ++ [4, -4]) := by
    rw [mvX_ins (by omega) (Int.le_refl _) (by decide) (by decide), Int.toNat_natCast, List.take_length, List.drop_length, List.append_nil]
    rfl
  have e2 : mvX "insert" [0, -5] (ns ++ [4, -4]) = some (-5 :: 5 :: (ns ++ [4, -4])) := by
    rw [mvX_ins (Int.le_refl _) (by omega) (by decide) (by decide)]
    rfl
  have e3 : mvX "cancel" [0] (-5 :: 5 :: (ns ++ [4, -4])) = some (ns ++ [4, -4]) := by
    rw [mvX_two (w := 0) (by decide +kernel) (Int.le_refl _)]
    show (mvC (-5 :: 5 :: (ns ++ [4, -4])) 0).map _ = _
    unfold mvC
    show (if (-5 : Int) = 0 - 5 then some [] else none).map (fun m => List.take 0 (-5 :: 5 :: (ns ++ [4, -4])) ++ m ++ List.drop (0 + mvN 0) (-5 :: 5 :: (ns ++ [4, -4]))) = _
    rw [if_pos (by decide)]
    rfl
  unfold runX
  rw [e1]
  show runX _ 1 _ = _
  unfold runX
  rw [e2]
  show runX _ 2 _ = _
  unfold runX
  rw [e3]
  rfl
theorem In18.app {G : Hp} {Pa r cc rw_ c mv : Addr} {ns cur : List Int} {vs : List V} {ms : List (Str × List Int)} {v : V} {m : Str × List Int} (I : In18 K Pa G r cc rw_ c mv ns cur vs ms) (hv : MvT K G v m) (ho : MvOk m) : In18 K Pa (upd G mv (.lst (vs ++ [v]))) r cc rw_ c mv ns cur (vs ++ [v]) (ms ++ [m]) := by
  have tp : Tp G (upd G mv (.lst (vs ++ [v]))) := Tp.but I.hm But.set
  refine ⟨I.R.set I.mr, tabs_set I.T I.hm But.set, tp.sqT I.w, (upd_ne I.cm).trans I.hc, I.cr, upd_same, I.mr, I.cm, (I.M.tp tp).snoc (hv.tp tp), fun x hx => ?_⟩
  rcases List.mem_append.mp hx with hx | hx
  · exact I.ok x hx
  · rw [List.mem_singleton.mp hx]
    exact ho
theorem In18.cur' {G : Hp} {Pa r cc rw_ c mv c' : Addr} {ns cur cur' : List Int} {vs : List V} {ms : List (Str × List Int)} (I : In18 K Pa G r cc rw_ c mv ns cur vs ms) (n : G c' = none) : In18 K Pa (upd G c' (.lst (cur'.map V.int))) r cc rw_ c' mv ns cur' vs ms := by
  have J := I.same (Same.new n (.lst (cur'.map V.int)))
  exact ⟨J.R, J.T, J.w, upd_same, (I.R.ne n).1, J.hm, J.mr, fun z => (by rw [z, I.hm] at n; cases n), J.M, J.ok⟩
theorem strOk_mw {u : Nat} (hu : u ≤ 2) : PyData.strOk (mw u) = true := by
  match u, hu with
  | 0, _ => decide +kernel
  | 1, _ => decide +kernel
  | 2, _ => decide +kernel
theorem dpAll_intsT {H H' : Hp} : ∀ {is : List Int} {ws : List V}, DpAll K H ws (is.map PyData.int) → DpAll K H' ws (is.map PyData.int)
  | [], _, h => by
    cases h
    exact .nil
  | i :: is, _, h => by
    cases h with
    | cons h1 h2 =>
      cases h1
      exact .cons (.int _) (dpAll_intsT h2)
theorem dp_rD {H H' : Hp} (e : Tp H H') {v : V} : ∀ {x : Except Nat (List Int)}, Dp K H v (rD x) → Dp K H' v (rD x)
  | .ok r, h => by
    have h : Dp K H v (.tuple [.str "value", .tuple (r.map PyData.int)]) := h
    cases h with
    | tup hs ha =>
      cases ha with
      | cons h1 h2 =>
        cases h2 with
        | cons h3 h4 =>
          cases h1
          cases h4
          cases h3 with
          | tup hs2 ha2 => exact Dp.tup (e.sqT hs) (.cons (.str _) (.cons (Dp.tup (e.sqT hs2) (dpAll_intsT ha2)) .nil))
  | .error j, h => by
    have h : Dp K H v (.tuple [.str (en 9), .int (j : Nat)]) := h
    cases h with
    | tup hs ha =>
      cases ha with
      | cons h1 h2 =>
        cases h2 with
        | cons h3 h4 =>
          cases h1
          cases h4
          cases h3
          exact Dp.tup (e.sqT hs) (.cons (.str _) (.cons (.int _) .nil))
theorem run_bad : runX [("insert", [2, 3]), ("cancel", [9])] 0 [1, 2] = .error 1 := by
  have e1 : mvX "insert" [2, 3] [1, 2] = some [1, 2, 3, -3] := by
    rw [mvX_ins (by decide) (by decide) (by decide) (by decide)]
    rfl
  have e2 : mvX "cancel" [9] [1, 2, 3, -3] = none := by
    rw [mvX_two (w := 0) (by decide +kernel) (by decide)]
    exact mvF_out (by decide) (by decide)
  unfold runX
  rw [e1]
  show runX _ 1 _ = _
  unfold runX
  rw [e2]
theorem run_brd : runX [("braid", [0])] 0 [1, 2, 1] = .ok [2, 1, 2] := by
  have e1 : mvX "braid" [0] [1, 2, 1] = some [2, 1, 2] := by
    rw [mvX_two (w := 2) (by decide +kernel) (by decide)]
    decide +kernel
  unfold runX
  rw [e1]
  rfl
def stD : PyData := .tuple [.str (en 9), .int 1]
theorem ok_law {g0 g1 g2 g3 g4 g5 g6 g7 g8 g9 g10 g11 g12 g13 g14 g15 g16 g17 g18 g19 g20 g21 g22 g23 g24 : Addr} {h0 h1 h2 h3 h4 h5 h6 h7 h8 h9 h10 h11 h12 h13 h14 h15 h16 h17 h18 h19 h20 h21 h22 h23 h24 : FuncData} {fL : Addr} {fdL : FuncData} {c Pt CT CWd CX WD : Addr} {cl : Nat → Addr} {word : Addr → Option Str} {fld : Addr → Option Addr → Hp → V → Prop} {oc dV kV doc pm ct : Value} {od an : Option Addr} {osl : Array (Option Value)}
    (lk : K.lookup f = some ⟨oc, od, .func (PySem.W.fnOf "law" "law" (defArgs s_law) (defBody s_law) (defScope s_law) dV kV doc pm an (.ref c) ct), osl⟩) (hcd : PySem.W.codeIn K (.ref c) "law" = true) (TB : LamX.TabB base mg c Pt) (B : Blt mg) (BW : BltW mg) (CW : CstW mg)
    (hwd : ∀ D nm, word D = some nm → ∃ j, Isw K cl D j ∧ nm = en j) (w8 : word CWd = some (en 8)) (w9 : word CX = some (en 9))
    (hfld : fld = fun D dd H v => (D = CWd ∧ v = .non) ∨ (D = CX ∧ ∃ (e : Addr) (fs : List (Str × V)), dd = some e ∧ H e = some (.xd fs) ∧ fs.lookup ("position" : Str) = some v))
    (hx : ∀ D nm, word D = some nm → XfC K D ∧ PySem.W.findIn K (.ref D) "position" = some none ∧ PySem.W.findIn K (.ref D) "name" = some none ∧ PySem.W.findIn K (.ref D) "size" = some none ∧ PySem.W.findIn K (.ref D) "row" = some none)
    (M : Errs mg cl) (xc8 : ExcC K CWd) (xc9 : ExcC K CX) (xm8 : PySem.W.exmOne K (.ref CWd) (.ref CT) = some true) (xm9 : PySem.W.exmOne K (.ref CX) (.ref CT) = some true) (EW : ErrC K mg "InvalidWord" CWd) (FL : FunS P K mg "InvalidStep" "InvalidStep.__init__" s_ISInit ["self", "position"] CX fL fdL) (nL : PySem.W.findIn K (.ref CX) "position" = some none) (mT : mg "TermError" = some (.ref CT)) (mW : mg "WIDTHS" = some (.ref WD))
    (kW : ∀ nm : Str, ∃ r, KDin K w WD nm r ∧ (cdW nm = none → r = none) ∧ ∀ u, cdW nm = some u → ∃ t, r = some (.int (mvN u : Nat) t))
    (d__law_draws : D K mg "_law_draws" s__law_draws ["_law_script"] g0 h0) (d__law_draw : D K mg "_law_draw" s__law_draw ["_law_rng", "_law_amount"] g1 h1) (d__law_pick : D K mg "_law_pick" s__law_pick ["_law_rng", "_law_terms"] g2 h2) (d__law_same : D K mg "_law_same" s__law_same ["_law_result", "_law_expected_here"] g3 h3) (d__law_error_name : D K mg "_law_error_name" s__law_error_name ["_law_e"] g4 h4) (d__law_error_field : D K mg "_law_error_field" s__law_error_field ["_law_e", "_law_word"] g5 h5) (d__law_try : D K mg "_law_try" s__law_try ["_law_ask"] g6 h6) (d__law_sign : D K mg "_law_sign" s__law_sign ["_law_number"] g7 h7) (d__law_any_word : D K mg "_law_any_word" s__law_any_word ["_law_rng", "_law_top", "_law_wide"] g8 h8) (d__law_invalid_word : D K mg "_law_invalid_word" s__law_invalid_word ["_law_rng"] g9 h9) (d__law_braided : D K mg "_law_braided" s__law_braided ["_law_first", "_law_second", "_law_third"] g10 h10) (d__law_move : D K mg "_law_move" s__law_move ["_law_row", "_law_move_here"] g11 h11) (d__law_moves : D K mg "_law_moves" s__law_moves ["_law_row"] g12 h12) (d__law_long_word : D K mg "_law_long_word" s__law_long_word ["_law_rng"] g13 h13) (d__law_expected : D K mg "_law_expected" s__law_expected ["_law_row", "_law_moves_here"] g14 h14) (d__law_invalid_move : D K mg "_law_invalid_move" s__law_invalid_move ["_law_rng", "_law_row"] g15 h15) (d_is_letter : D K mg "is_letter" s_is_letter ["number"] g16 h16) (d_are_letters : D K mg "are_letters" s_are_letters ["numbers"] g17 h17) (d_check_word : D K mg "check_word" s_check_word ["word"] g18 h18) (d_with_sign : D K mg "with_sign" s_with_sign ["magnitude", "letter"] g19 h19) (d_braided : D K mg "braided" s_braided ["letters"] g20 h20) (d_replaced_by : D K mg "replaced_by" s_replaced_by ["name", "letters"] g21 h21) (d_insertion_of : D K mg "insertion_of" s_insertion_of ["letters", "move"] g22 h22) (d_change_of : D K mg "change_of" s_change_of ["letters", "move"] g23 h23) (d_apply_moves : D K mg "apply_moves" s_apply_moves ["word", "moves"] g24 h24) :
    FnOk P w K mg base CX0 64 f (PySem.W.fnOf "law" "law" (defArgs s_law) (defBody s_law) (defScope s_law) dV kV doc pm an (.ref c) ct) ["_law_script"] (spLawT K Pt) := by
  have G__law_draws : FnOk P w K mg base CX0 1 g0 h0 ["_law_script"] (spDraws K) := ok__law_draws d__law_draws B
  have G__law_draw : FnOk P w K mg base CX0 1 g1 h1 ["_law_rng", "_law_amount"] spDrawC := ok__law_drawC d__law_draw B
  have G__law_pick : FnOk P w K mg base CX0 2 g2 h2 ["_law_rng", "_law_terms"] (spPickC K) := ok__law_pickC d__law_pick B d__law_draw
  have G__law_same : FnOk P w K mg base CX0 12 g3 h3 ["_law_result", "_law_expected_here"] (spSame K 12) := ok__law_same d__law_same B 12
  have G__law_any_word : FnOk P w K mg base CX0 2 g8 h8 ["_law_rng", "_law_top", "_law_wide"] (spAnyW K) := ok__law_any_word d__law_any_word B d__law_draw
  have G__law_invalid_word : FnOk P w K mg base CX0 3 g9 h9 ["_law_rng"] (spBadW K) := ok__law_invalid_word d__law_invalid_word B d__law_draw d__law_pick d__law_any_word
  have G__law_moves : FnOk P w K mg base CX0 4 g12 h12 ["_law_row"] (spMoves K) := ok__law_moves d__law_moves B BW d__law_sign d__law_braided d__law_move
  have G__law_long_word : FnOk P w K mg base CX0 2 g13 h13 ["_law_rng"] (spLong K) := ok__law_long_word d__law_long_word B d__law_draw
  have G__law_expected : FnOk P w K mg base CX0 4 g14 h14 ["_law_row", "_law_moves_here"] (spExp K) := ok__law_expected d__law_expected B BW d__law_sign d__law_braided d__law_move
  have G__law_invalid_move : FnOk P w K mg base CX0 3 g15 h15 ["_law_rng", "_law_row"] (spInvM K) := ok__law_invalid_move d__law_invalid_move B d__law_draw d__law_pick
  have G_apply_moves : FnOk P w K mg base (L2N.CX P w) 5 g24 h24 ["word", "moves"] (spApply K CWd CX) := ok_apply_moves d_apply_moves B BW CW EW FL nL mW kW d_is_letter d_are_letters d_check_word d_with_sign d_change_of d_insertion_of d_replaced_by d_braided
  have GN : FnB P w K mg base 3 g4 h4 ["_law_e"] (spName2 K CT word) := (ok__law_error_name d__law_error_name B M hwd).mono (by decide)
  have GF : FnB P w K mg base 3 g5 h5 ["_law_e", "_law_word"] (spField word fld) := (ok__law_error_field d__law_error_field B hx fun D nm dd H v z y => by
    rw [hfld] at y
    rcases y with ⟨rfl, rfl⟩ | ⟨rfl, e, fs, h1, h2, h3⟩
    · exact ⟨8, by decide, Option.some.inj (z.symm.trans w8), .inl ⟨by decide, rfl⟩⟩
    · exact ⟨9, by decide, Option.some.inj (z.symm.trans w9), .inr ⟨e, fs, by decide, h1, h2, h3⟩⟩).mono (by decide)
  have hfs : ∀ D dd H H' v, Same H H' → fld D dd H v → fld D dd H' v := fun D dd H H' v sm y => by
    rw [hfld] at y ⊢
    exact y.imp id fun ⟨a, e, fs, h1, h2, h3⟩ => ⟨a, e, fs, h1, sm _ _ h2, h3⟩
  obtain ⟨ocT, odT, kVT, docT, pmT, anT, cdT, ctT, oslT, rfl, lkT, hcT⟩ := d__law_try.F.ex
  refine fn_of (k := 63) lk hcd sc_law (fun vs H Q E h => ?_) (fun A outer s H vs Q E hr h => ?_)
  · obtain ⟨_, _, rfl, _⟩ := h
    rfl
  obtain ⟨a, ns0, rfl, hS, hP, q⟩ := h
  suffices z : ∃ t, PSs (cxOf CX0 P w K mg base ["_law_script", "_law_rng", "_law_turn", "_law_wide", "_law_current", "_law_moves_here", "_law_step", "_law_some", "_law_move_here", "_law_later", "_law_expected_here", "_law_copied", "_law_long", "_law_words", "_law_argument", "_law_bad", "_law_row"] "law" (defScope s_law) f (.ref c) A outer s H E).nox (defBody s_law) t ∧ t { nx := fun _ H' => Q .non H', rt := Q } (L2.start ["_law_script", "_law_rng", "_law_turn", "_law_wide", "_law_current", "_law_moves_here", "_law_step", "_law_some", "_law_move_here", "_law_later", "_law_expected_here", "_law_copied", "_law_long", "_law_words", "_law_argument", "_law_bad", "_law_row"] [.ref a]) H from z.elim fun t y => ⟨t, y.1.nox, y.2⟩
  refine ⟨_, (pss_cons (ps_set (i := 1) sc_law.nd rfl (Or.inl rfl) (pe_call G__law_draws (hr.mono (by decide)) rfl d__law_draws.m d__law_draws.F.kp d__law_draws.b .nil pass0 (pa_cons (pv 0) pa_nil)))
 (pss_cons (ps_for PassesOwn.never rfl (pi_range1 (by rfl) B.range (pa_cons pe_int pa_nil)) (pg_name (i := 2) sc_law.nd rfl (Or.inl rfl))
  (pss_cons (ps_asg (pe_tup (pa_cons (pe_call G__law_any_word (hr.mono (by decide)) rfl d__law_any_word.m d__law_any_word.F.kp d__law_any_word.b .nil pass0 (pa_cons (pv 1) (pa_cons pe_int (pa_cons pe_int pa_nil)))) (pa_cons (pe_op op_add pe_int (pe_call G__law_draw (hr.mono (by decide)) rfl d__law_draw.m d__law_draw.F.kp d__law_draw.b .nil pass0 (pa_cons (pv 1) (pa_cons pe_int pa_nil)))) pa_nil))) (pg_tup (by rfl) (pgs_cons (pg_name (i := 16) sc_law.nd rfl (Or.inr rfl)) (pgs_cons (pg_name (i := 3) sc_law.nd rfl (Or.inl rfl)) pgs_nil))))
 (pss_cons (ps_par (i := 4) (j := 5) (by rfl) sc_law.nd rfl rfl (by decide) rfl rfl (pa_cons (pe_callTy call_list_of (by rfl) B.list (by decide +kernel) (pa_cons (pv 16) pa_nil)) (pa_cons (pe_lst pa_nil) pa_nil)) (by rfl))
 (pss_cons (ps_for PassesOwn.never rfl (pi_range1 (by rfl) B.range (pa_cons (pe_call G__law_draw (hr.mono (by decide)) rfl d__law_draw.m d__law_draw.F.kp d__law_draw.b .nil pass0 (pa_cons (pv 1) (pa_cons pe_int pa_nil))) pa_nil)) (pg_name (i := 6) sc_law.nd rfl (Or.inl rfl))
  (pss_cons (ps_set (i := 7) sc_law.nd rfl (Or.inl rfl) (pe_call G__law_moves (hr.mono (by decide)) rfl d__law_moves.m d__law_moves.F.kp d__law_moves.b .nil pass0 (pa_cons (pv 4) pa_nil)))
 (pss_cons (ps_set (i := 8) sc_law.nd rfl (Or.inl rfl) (pe_tup (pa_cons pe_str (pa_cons (pe_call G__law_draw (hr.mono (by decide)) rfl d__law_draw.m d__law_draw.F.kp d__law_draw.b .nil pass0 (pa_cons (pv 1) (pa_cons (pe_op op_add (pe_callB call_len_seq (by rfl) B.len PySem.boot_len (pa_cons (pv 4) pa_nil)) pe_int) pa_nil))) (pa_cons (pe_op op_mul (pe_op op_add pe_int (pe_call G__law_draw (hr.mono (by decide)) rfl d__law_draw.m d__law_draw.F.kp d__law_draw.b .nil pass0 (pa_cons (pv 1) (pa_cons (pv 3) pa_nil)))) (pe_op op_sub pe_int (pe_op op_mul pe_int (pe_call G__law_draw (hr.mono (by decide)) rfl d__law_draw.m d__law_draw.F.kp d__law_draw.b .nil pass0 (pa_cons (pv 1) (pa_cons pe_int pa_nil)))))) pa_nil)))))
 (C8.pss_cut (ps_if (PW.pt (pw_and (pt_cmpR op_gt (pe_callB call_len_seq (by rfl) B.len PySem.boot_len (pa_cons (pv 7) pa_nil)) pe_int (nomark _)) (pw_and1 (pt_cmpR op_gt (pe_call G__law_draw (hr.mono (by decide)) rfl d__law_draw.m d__law_draw.F.kp d__law_draw.b .nil pass0 (pa_cons (pv 1) (pa_cons pe_int pa_nil))) pe_int (nomark _))))) (pss_one (ps_set (i := 8) sc_law.nd rfl (Or.inl rfl) (pe_call G__law_pick (hr.mono (by decide)) rfl d__law_pick.m d__law_pick.F.kp d__law_pick.b .nil pass0 (pa_cons (pv 1) (pa_cons (pv 7) pa_nil))))) pss_nil)
 (C8.pss_cut (ps_if (pt_cmpR op_eq (pe_call G__law_draw (hr.mono (by decide)) rfl d__law_draw.m d__law_draw.F.kp d__law_draw.b .nil pass0 (pa_cons (pv 1) (pa_cons pe_int pa_nil))) pe_int (nomark _)) (pss_one (ps_set (i := 8) sc_law.nd rfl (Or.inl rfl) (pe_call G__law_invalid_move (hr.mono (by decide)) rfl d__law_invalid_move.m d__law_invalid_move.F.kp d__law_invalid_move.b .nil pass0 (pa_cons (pv 1) (pa_cons (pv 4) pa_nil))))) pss_nil)
 (C8.pss_cut (ps_set (i := 9) sc_law.nd rfl (Or.inl rfl) (pe_call G__law_expected (hr.mono (by decide)) rfl d__law_expected.m d__law_expected.F.kp d__law_expected.b .nil pass0 (pa_cons (pv 4) (pa_cons (pe_lst (pa_cons (pv 8) pa_nil)) pa_nil))))
 (C8.pss_cut (ps_set (i := 4) sc_law.nd rfl (Or.inl rfl) (pe_ifExp (pt_cmpR op_eq (pe_ix ix_tup (pv 9) pe_int (fun _ _ => rfl)) pe_str (nomark _)) (pe_callTy call_list_of (by rfl) B.list (by decide +kernel) (pa_cons (pe_ix ix_tup (pv 9) pe_int (fun _ _ => rfl)) pa_nil)) (pv 4)))
 (pss_one (ps_expr (pe_bm PySem.F.plainAttrs_list PySem.F.slot_list_append PySem.F.type_list_append mt_append (pv 5) (pa_cons (pv 8) pa_nil)))))))))))
 (C8.pss_cut (ps_par (i := 10) (j := 11) (by rfl) sc_law.nd rfl rfl (by decide) rfl rfl (pa_cons (pe_call G__law_expected (hr.mono (by decide)) rfl d__law_expected.m d__law_expected.F.kp d__law_expected.b .nil pass0 (pa_cons (pv 16) (pa_cons (pv 5) pa_nil))) (pa_cons (pe_callTy call_list_of (by rfl) B.list (by decide +kernel) (pa_cons (pv 5) pa_nil)) pa_nil)) (by rfl))
 (pss_cons (ps_set (i := 14) sc_law.nd rfl (Or.inr rfl) (pe_call G__law_pick (hr.mono (by decide)) rfl d__law_pick.m d__law_pick.F.kp d__law_pick.b .nil pass0 (pa_cons (pv 1) (pa_cons (pe_lst (pa_cons (pv 11) (pa_cons (pe_callTy call_tuple_of (by rfl) B.tuple (by decide +kernel) (pa_cons (pv 11) pa_nil)) pa_nil))) pa_nil))))
 (pss_one (ps_if (PW.pt (pw_or (pt_not (pt_val (pe_call G__law_same (hr.mono (by decide)) rfl d__law_same.m d__law_same.F.kp d__law_same.b .nil pass0 (pa_cons (pe_lamN (T := [(Pt, lamQ)]) (TT := TTry2 K CT word fld) (t := fun E => tCall (spApply K CWd CX) [] E (tCons (tVar 16) (tCons (tVar 14) tNil))) rfl d__law_try.m d__law_try.F.kp lkT hcT d__law_try.b sc__law_try rfl (.inl rfl)
  (try_gives2 rfl rfl rfl rfl rfl rfl mT d__law_error_name.m d__law_error_field.m d__law_error_name.F.kp d__law_error_field.F.kp d__law_error_name.b d__law_error_field.b GN GF) TB rfl (List.mem_singleton.mpr rfl) (fun p hp _ => by rw [List.mem_singleton.mp hp]; rfl) (hr.mono (by decide)) (by decide : 40 ≤ 55 + 1) (LamX.lamS_by (by rfl)) rfl (fun _ _ _ _ _ => rfl)
  (fun A2 outer2 s2 H2 E2 f2 c2 hr2 => (pe_call (E := E2) G_apply_moves (hr2.mono (by decide)) rfl d_apply_moves.m d_apply_moves.F.kp d_apply_moves.b .nil passL (pa_cons (pe_var (i := 16) rfl (.inr (.inr rfl))) (pa_cons (pe_var (i := 14) rfl (.inr (.inr rfl))) pa_nil))))) (pa_cons (pv 10) pa_nil))))) (pw_or1 (pt_cmpR (op_neD hr.units) (pv 11) (pv 5) (nomark _))))) (pss_one (ps_ret pe_bl)) pss_nil))))))))
 (pss_cons (ps_set (i := 12) sc_law.nd rfl (Or.inl rfl) (pe_call G__law_long_word (hr.mono (by decide)) rfl d__law_long_word.m d__law_long_word.F.kp d__law_long_word.b .nil pass0 (pa_cons (pv 1) pa_nil)))
 (pss_cons (ps_if (pt_cmpR (op_neD hr.units) (pe_call G_apply_moves (hr.mono (by decide)) rfl d_apply_moves.m d_apply_moves.F.kp d_apply_moves.b .nil passF (pa_cons (pv 12) (pa_cons (pe_lst (pa_cons (pe_tup (pa_cons pe_str (pa_cons (pe_callB call_len_seq (by rfl) B.len PySem.boot_len (pa_cons (pv 12) pa_nil)) (pa_cons pe_int pa_nil)))) (pa_cons (pe_tup (pa_cons pe_str (pa_cons pe_int (pa_cons (pe_un un_neg pe_int) pa_nil)))) (pa_cons (pe_tup (pa_cons pe_str (pa_cons pe_int pa_nil))) pa_nil)))) pa_nil))) (pe_op op_catA (pv 12) (pe_tup (pa_cons pe_int (pa_cons (pe_un un_neg pe_int) pa_nil)))) (nomark _)) (pss_one (ps_ret pe_bl)) pss_nil)
 (pss_cons (ps_set (i := 15) sc_law.nd rfl (Or.inr rfl) (pe_call G__law_invalid_word (hr.mono (by decide)) rfl d__law_invalid_word.m d__law_invalid_word.F.kp d__law_invalid_word.b .nil pass0 (pa_cons (pv 1) pa_nil)))
 (pss_cons (ps_set (i := 13) sc_law.nd rfl (Or.inl rfl) (pe_lst (pa_cons (pe_lamN (T := [(Pt, lamQ)]) (TT := TTry2 K CT word fld) (t := fun E => tCall (spApply K CWd CX) [] E (tCons (tVar 15) (tCons (tLst (tCons (tTup (tCons (tC (.str "no")) (tCons (tC (.int 0)) tNil))) tNil)) tNil))) rfl d__law_try.m d__law_try.F.kp lkT hcT d__law_try.b sc__law_try rfl (.inl rfl)
  (try_gives2 rfl rfl rfl rfl rfl rfl mT d__law_error_name.m d__law_error_field.m d__law_error_name.F.kp d__law_error_field.F.kp d__law_error_name.b d__law_error_field.b GN GF) TB rfl (List.mem_singleton.mpr rfl) (fun p hp _ => by rw [List.mem_singleton.mp hp]; rfl) (hr.mono (by decide)) (by decide : 40 ≤ 55 + 1) (LamX.lamS_by (by rfl)) rfl (fun _ _ _ _ _ => rfl)
  (fun A2 outer2 s2 H2 E2 f2 c2 hr2 => (pe_call (E := E2) G_apply_moves (hr2.mono (by decide)) rfl d_apply_moves.m d_apply_moves.F.kp d_apply_moves.b .nil passL (pa_cons (pe_var (i := 15) rfl (.inr (.inr rfl))) (pa_cons (pe_lst (pa_cons (pe_tup (pa_cons pe_str (pa_cons pe_int pa_nil))) pa_nil)) pa_nil))))) (pa_cons (pe_lamD (T := [(Pt, lamQ)]) (TT := TTry2 K CT word fld) (a0 := "_law_a") (t := fun E => tCall (spApply K CWd CX) [] E (tCons (tTup (tCons (tC (.int 1)) (tCons (tC (.int 2)) tNil))) (tCons (tLst (tCons (tTup (tCons (tC (.str "insert")) (tCons (tC (.int 2)) (tCons (tC (.int 3)) tNil)))) (tCons (tTup (tCons (tC (.str "cancel")) (tCons (tC (.int 9)) tNil))) tNil))) tNil))) rfl d__law_try.m d__law_try.F.kp lkT hcT d__law_try.b sc__law_try rfl (.inl rfl)
  (try_gives2 rfl rfl rfl rfl rfl rfl mT d__law_error_name.m d__law_error_field.m d__law_error_name.F.kp d__law_error_field.F.kp d__law_error_name.b d__law_error_field.b GN GF) TB rfl (List.mem_singleton.mpr rfl) (fun p hp _ => by rw [List.mem_singleton.mp hp]; rfl) (hr.mono (by decide)) (by decide : 40 ≤ 55 + 1) (lamSD_by (by rfl)) rfl rfl rfl (fun _ _ _ _ _ _ _ => ⟨_, rfl, fun _ => rfl⟩)
  (fun A2 outer2 s2 H2 E2 f2 c2 hr2 => (pe_call (E := E2) G_apply_moves (hr2.mono (by decide)) rfl d_apply_moves.m d_apply_moves.F.kp d_apply_moves.b .nil passL (pa_cons (pe_tup (pa_cons pe_int (pa_cons pe_int pa_nil))) (pa_cons (pe_lst (pa_cons (pe_tup (pa_cons pe_str (pa_cons pe_int (pa_cons pe_int pa_nil)))) (pa_cons (pe_tup (pa_cons pe_str (pa_cons pe_int pa_nil))) pa_nil))) pa_nil))))) pa_nil))))
 (pss_one (ps_ret (pe_and (pe_cmpR (op_eqD hr.units) (pv 13) (pe_lst (pa_cons (pe_tup (pa_cons pe_str (pa_cons pe_non pa_nil))) (pa_cons (pe_tup (pa_cons pe_str (pa_cons pe_int pa_nil))) pa_nil))) (nomark _)) (pe_one (pe_cmpR (op_eqD hr.units) (pe_call G_apply_moves (hr.mono (by decide)) rfl d_apply_moves.m d_apply_moves.F.kp d_apply_moves.b .nil passF (pa_cons (pe_tup (pa_cons pe_int (pa_cons pe_int (pa_cons pe_int pa_nil)))) (pa_cons (pe_lst (pa_cons (pe_tup (pa_cons pe_str (pa_cons pe_int pa_nil))) pa_nil)) pa_nil))) (pe_tup (pa_cons pe_int (pa_cons pe_int (pa_cons pe_int pa_nil)))) (nomark _)))))))))))), ?_⟩
  refine ⟨_, rfl, a, ns0, rfl, hS, fun r H1 s1 _ R1 => ?_⟩
  obtain ⟨cc, R1⟩ := R1.toC
  have T1 : LamX.Tabs [(Pt, lamQ)] H1 := tabs1 (s1 _ _ hP)
  refine ⟨5, rfl, by decide, by decide, for_range (lo := 0) (n := 5) (fun i σ H' => ∃ x2 x3 x4 x5 x6 x7 x8 x9 x10 x11 x14 x16 : Option V, σ = [some (.ref a), some (.ref r), x2, x3, x4, x5, x6, x7, x8, x9, x10, x11, none, none, x14, none, x16] ∧ RngC H' r cc ∧ LamX.Tabs [(Pt, lamQ)] H') ⟨none, none, none, none, none, none, none, none, none, none, none, none, rfl, R1, T1⟩ ?_ ?_⟩
  · rintro i0 σ H2 hi0 ⟨x2, x3, x4, x5, x6, x7, x8, x9, x10, x11, x14, x16, rfl, R2, T2⟩
    refine ⟨_, rfl, r, 12, 4, cc, rfl, by decide, by decide, by decide, by decide, R2, fun rw_ ns H3 w3 l3 L3 R3 b3 => ?_⟩
    have T3 := R2.tabs b3 T2
    refine ⟨_, rfl, r, 5, cc, rfl, R3, by decide, by decide, fun y H4 y0 y1 R4 b4 => ?_⟩
    have T4 := R3.tabs b4 T3
    have w4 := (R3.tp b4).sqT w3
    refine ⟨_, _, rfl, rfl, two_le, fun t nt => ⟨t, _, rfl, SqT.here upd_same, rfl, _, _, rfl, _, _, rfl, rfl, ?_⟩⟩
    have st := Same.new nt (.tup [V.ref rw_, V.int (1 + y)])
    have R5 := R4.same st
    have T5 := tabs_same st T4
    have w5 := (Tp.same st).sqT w4
    clear w3 w4 b3 b4 R2 R3 T2 T3
    refine ⟨_, rfl, rw_, _, rfl, .inr w5, fun c1 nc1 => ⟨zero_le', fun mv nmv => ⟨_, _, rfl, ?_⟩⟩⟩
    have s6 := Same.new nc1 (.lst (ns.map V.int))
    have s7 := Same.new nmv (.lst [])
    have ncm : c1 ≠ mv := fun z => by rw [← z, upd_same] at nmv; cases nmv
    have I0 : In18 K Pt _ r cc rw_ c1 mv ns ns [] [] := ⟨(R5.same s6).same s7, tabs_same s7 (tabs_same s6 T5), (Tp.same (s6.trans s7)).sqT w5, s7 _ _ upd_same, (R5.ne nc1).1, upd_same, (R5.same s6).ne nmv, ncm, .nil, fun _ h => nomatch h⟩
    clear R4 R5 T4 T5 w5 st s6 s7
    refine ⟨_, rfl, r, 16, cc, rfl, I0.R, by decide, by decide, fun n H8 n0 n1 R8 b8 => ?_⟩
    have I1 := I0.but b8 R8
    clear I0 b8 R8 nmv
    refine ⟨n, rfl, by omega, by omega, for_range (lo := 0) (n := n.toNat) (fun i σ G => ∃ (x6 x7 x8 x9 : Option V) (c0 : Addr) (cur : List Int) (vs : List V) (ms : List (Str × List Int)), σ = [some (.ref a), some (.ref r), some (.int (0 + (i0 : Int))), some (.int (1 + y)), some (.ref c0), some (.ref mv), x6, x7, x8, x9, x10, x11, none, none, x14, none, some (.ref rw_)] ∧ In18 K Pt G r cc rw_ c0 mv ns cur vs ms ∧ ms.length = i ∧ cur.length ≤ 12 + 2 * i) ⟨_, _, _, _, c1, ns, [], [], rfl, I1, rfl, by omega⟩ ?_ ?_⟩
    · rintro i σ G hi ⟨x6, x7, x8, x9, c0, cur, vs, ms, rfl, I, lm, lc⟩
      refine ⟨_, rfl, c0, cur, rfl, I.hc, by omega, fun p7 xs G2 s2 np7 hp7 lx hM => ?_⟩
      have n7 := I.R.ne np7
      have I2 := I.same s2
      clear I
      refine ⟨_, rfl, _, rfl, c0, _, rfl, .inl (SqL.here I2.hc), _, _, rfl, rfl, r, _, cc, rfl, I2.R, by omega, by rw [List.length_map]; omega, fun at_ G3 a0 a1 R3 b3 => ?_⟩
      have I3 := I2.but b3 R3
      have hp3 := b3 _ _ n7.1 hp7
      have hM3 := hM.mono (I2.R.tp b3)
      clear I2 b3 R3 hp7 hM
      refine ⟨_, rfl, _, rfl, r, 1 + y, cc, rfl, I3.R, by omega, by omega, fun m G4 m0 m1 R4 b4 => ?_⟩
      have I4 := I3.but b4 R4
      have hp4 := b4 _ _ n7.1 hp3
      have hM4 := hM3.mono (I3.R.tp b4)
      clear I3 b4 R4 hp3 hM3
      refine ⟨_, _, rfl, rfl, _, rfl, r, 2, cc, rfl, I4.R, by decide, by decide, fun k G5 k0 k1 R5 b5 => ?_⟩
      have I5 := I4.but b5 R5
      have hp5 := b5 _ _ n7.1 hp4
      have hM5 := hM4.mono (I4.R.tp b5)
      clear I4 b5 R5 hp4 hM4
      refine ⟨_, _, rfl, rfl, .inl ⟨by decide, by decide⟩, _, _, rfl, rfl, _, _, rfl, rfl, .inl ⟨by omega, by omega⟩, three_le, fun p8 np8 => ?_⟩
      have s8 := Same.new np8 (.tup [V.str "insert", .int at_, .int ((1 + m) * (1 - 2 * k))])
      have m8 : MvT K (upd G5 p8 (.tup [V.str "insert", .int at_, .int ((1 + m) * (1 - 2 * k))])) (.ref p8) ("insert", [at_, (1 + m) * (1 - 2 * k)]) := ⟨p8, rfl, SqT.here upd_same⟩
      have o8 : MvOk (("insert" : Str), [at_, (1 + m) * (1 - 2 * k)]) := ⟨by show 2 ≤ 2; decide, strOk_insert⟩
      have I6 := I5.same s8
      have hp6 := s8 _ _ hp5
      have hM6 := hM5.mono (Tp.same s8)
      clear I5 hp5 hM5
      generalize upd G5 p8 (.tup [V.str "insert", .int at_, .int ((1 + m) * (1 - 2 * k))]) = G6 at *
      refine ⟨fun σ2 G' => ∃ (v : V) (mo : Str × List Int), σ2 = [some (.ref a), some (.ref r), some (.int (0 + (i0 : Int))), some (.int (1 + y)), some (.ref c0), some (.ref mv), some (.int (0 + (i : Int))), some (.ref p7), some v, x9, x10, x11, none, none, x14, none, some (.ref rw_)] ∧ In18 K Pt G' r cc rw_ c0 mv ns cur vs ms ∧ MvT K G' v mo ∧ MvOk mo, ?_, ?_⟩
      · refine ⟨_, rfl, p7, _, rfl, .inl (SqL.here hp6), _, _, rfl, rfl, _, rfl, ?_⟩
        by_cases hx0 : 0 < xs.length
        · refine ite_yes (decide_eq_true (by omega)) ⟨_, rfl, r, 3, cc, rfl, I6.R, by decide, by decide, fun u G7 u0 u1 R7 b7 => ⟨_, _, rfl, rfl, _, rfl, ?_⟩⟩
          have I7 := I6.but b7 R7
          have hp7 := b7 _ _ n7.1 hp6
          have hM7 := hM6.mono (I6.R.tp b7)
          have m7 := m8.tp (I6.R.tp b7)
          refine ite2 (fun _ => ?_) (fun _ => ⟨_, _, rfl, I7, m7, o8⟩)
          refine ⟨_, rfl, _, rfl, r, p7, cc, xs, rfl, I7.R, .inl (SqL.here hp7), hx0, by omega, n7.1, fun v G9 hv R9 b9 => ?_⟩
          obtain ⟨mm, u, j, rfl, hu, hS, _⟩ := hM7 v hv
          refine ⟨_, (mw u, [(j : Int)]), rfl, I7.but b9 R9, ⟨mm, rfl, (I7.R.tp b9).sqT hS⟩, by show 1 ≤ 2; decide, strOk_mw hu⟩
        · exact ite_no (decide_eq_false (by omega)) (iteF ⟨_, _, rfl, I6, m8, o8⟩)
      clear I6 hp6 hM6 m8 o8 s8 np8 n7 s2 np7
      rintro σ2 G7 ⟨v, mo, rfl, I7, hv, ho⟩
      refine ⟨fun σ2 G' => ∃ (v : V) (mo : Str × List Int), σ2 = [some (.ref a), some (.ref r), some (.int (0 + (i0 : Int))), some (.int (1 + y)), some (.ref c0), some (.ref mv), some (.int (0 + (i : Int))), some (.ref p7), some v, x9, x10, x11, none, none, x14, none, some (.ref rw_)] ∧ In18 K Pt G' r cc rw_ c0 mv ns cur vs ms ∧ MvT K G' v mo ∧ MvOk mo, ?_, ?_⟩
      · refine ⟨_, rfl, r, 12, cc, rfl, I7.R, by decide, by decide, fun u G8 u0 u1 R8 b8 => ⟨rfl, _, rfl, ?_⟩⟩
        have I8 := I7.but b8 R8
        refine ite2 (fun _ => ?_) (fun _ => ⟨_, _, rfl, I8, hv.tp (I7.R.tp b8), ho⟩)
        refine ⟨_, rfl, _, rfl, r, c0, cc, _, rfl, I8.R, I8.hc, I8.cr, by rw [List.length_map]; omega, fun v2 m2 G9 hv2 ho2 R9 b9 => ?_⟩
        exact ⟨_, _, rfl, I8.but b9 R9, hv2, ho2⟩
      clear I7 hv ho
      rintro σ2 G8 ⟨v, mo, rfl, I8, hv, ho⟩
      refine ⟨fun σ2 G' => ∃ u : Addr, σ2 = [some (.ref a), some (.ref r), some (.int (0 + (i0 : Int))), some (.int (1 + y)), some (.ref c0), some (.ref mv), some (.int (0 + (i : Int))), some (.ref p7), some v, some (.ref u), x10, x11, none, none, x14, none, some (.ref rw_)] ∧ In18 K Pt G' r cc rw_ c0 mv ns cur vs ms ∧ MvT K G' v mo ∧ ((∃ p cur', SqT K G' u [.str "value", .ref p] ∧ WT K G' p cur' ∧ cur'.length ≤ cur.length + 2) ∨ ∃ x, SqT K G' u [.str "InvalidStep", x]), ?_, ?_⟩
      · refine ⟨_, rfl, _, rfl, one_le, fun b9 nb9 => ?_⟩
        have s9 := Same.new nb9 (.lst [v])
        refine ⟨c0, b9, cur, [v], [mo], rfl, .inl (SqL.here (s9 _ _ I8.hc)), SqL.here upd_same, .one (hv.tp (Tp.same s9)), (by show 1 ≤ 1000; decide), fun m' hm' => (by rw [List.mem_singleton.mp hm']; exact ho.1), (by show cur.length + 2 * 1 ≤ 900; omega), fun r' hr' u p G9 hu hp s10 => ?_, fun j hj u G9 hu s10 => ?_⟩
        · refine ⟨u, rfl, I8.same (s9.trans s10), hv.tp (Tp.same (s9.trans s10)), .inl ⟨p, r', hu, hp, ?_⟩⟩
          have := run_len hr'
          exact this
        · exact ⟨u, rfl, I8.same (s9.trans s10), hv.tp (Tp.same (s9.trans s10)), .inr ⟨_, hu⟩⟩
      clear I8 hv
      rintro σ2 G9 ⟨u, rfl, I9, hv, hu⟩
      refine ⟨fun σ2 G' => ∃ (c2 : Addr) (cur2 : List Int), σ2 = [some (.ref a), some (.ref r), some (.int (0 + (i0 : Int))), some (.int (1 + y)), some (.ref c2), some (.ref mv), some (.int (0 + (i : Int))), some (.ref p7), some v, some (.ref u), x10, x11, none, none, x14, none, some (.ref rw_)] ∧ In18 K Pt G' r cc rw_ c2 mv ns cur2 vs ms ∧ MvT K G' v mo ∧ cur2.length ≤ cur.length + 2, ?_, ?_⟩
      · rcases hu with ⟨p, cur', hu, hp, hl⟩ | ⟨x, hu⟩
        · refine ⟨_, rfl, u, _, _, _, rfl, rfl, hu, rfl, rfl, _, rfl, ite_yes (decide_eq_true rfl) ?_⟩
          refine ⟨_, rfl, u, _, _, _, rfl, rfl, hu, rfl, p, _, rfl, .inr hp, fun c2 nc2 => ?_⟩
          exact ⟨c2, cur', rfl, I9.cur' nc2, hv.tp (Tp.same (Same.new nc2 _)), hl⟩
        · refine ⟨_, rfl, u, _, _, _, rfl, rfl, hu, rfl, rfl, _, rfl, ite_no (by decide +kernel) ?_⟩
          exact ⟨_, rfl, c0, cur, rfl, I9, hv, by omega⟩
      clear I9 hv hu
      rintro σ2 G10 ⟨c2, cur2, rfl, I10, hv, hl⟩
      have lv : vs.length = ms.length := I10.M.1
      refine ⟨_, rfl, .inl ⟨rfl, _, SqL.here I10.hm⟩, _, rfl, mv, vs, _, rfl, rfl, I10.hm, small1000 (by omega), ?_⟩
      exact ⟨_, _, _, _, c2, cur2, vs ++ [v], ms ++ [mo], rfl, I10.app hv ho, by rw [List.length_append, lm]; rfl, by omega⟩
    · rintro σ G ⟨x6, x7, x8, x9, c0, cur, vs, ms, rfl, I, lm, lc⟩
      have lv : vs.length = ms.length := I.M.1
      refine ⟨fun σ2 G' => ∃ u cp : Addr, σ2 = [some (.ref a), some (.ref r), some (.int (0 + (i0 : Int))), some (.int (1 + y)), some (.ref c0), some (.ref mv), x6, x7, x8, x9, some (.ref u), some (.ref cp), none, none, x14, none, some (.ref rw_)] ∧ In18 K Pt G' r cc rw_ c0 mv ns cur vs ms ∧ Dp K G' (.ref u) (rD (runX ms 0 ns)) ∧ G' cp = some (.lst vs) ∧ cp ≠ r, ?_, ?_⟩
      · have fin : ∀ u G', Same G G' → Dp K G' (.ref u) (rD (runX ms 0 ns)) → ∀ cp, G' cp = none → (∃ u' cp' : Addr, [some (.ref a), some (.ref r), some (.int (0 + (i0 : Int))), some (.int (1 + y)), some (.ref c0), some (.ref mv), x6, x7, x8, x9, some (.ref u), some (.ref cp), none, none, x14, none, some (.ref rw_)] = [some (.ref a), some (.ref r), some (.int (0 + (i0 : Int))), some (.int (1 + y)), some (.ref c0), some (.ref mv), x6, x7, x8, x9, some (.ref u'), some (.ref cp'), none, none, x14, none, some (.ref rw_)] ∧ In18 K Pt (upd G' cp (.lst vs)) r cc rw_ c0 mv ns cur vs ms ∧ Dp K (upd G' cp (.lst vs)) (.ref u') (rD (runX ms 0 ns)) ∧ (upd G' cp (.lst vs)) cp' = some (.lst vs) ∧ cp' ≠ r) := fun u G' s hu cp ncp => by
          have sz := Same.new ncp (.lst vs)
          exact ⟨u, cp, rfl, I.same (s.trans sz), dp_same sz _ hu, upd_same, (I.R.ne (s.free ncp)).1⟩
        refine ⟨_, rfl, _, rfl, rw_, mv, ns, vs, ms, rfl, .inr I.w, SqL.here I.hm, I.M, by omega, fun m' hm' => (I.ok m' hm').1, by omega, fun r' hr' u p G9 hu hp s10 => ?_, fun j hj u G9 hu s10 => ?_⟩
        · refine ⟨_, rfl, mv, vs, rfl, .inl (SqL.here (s10 _ _ I.hm)), fun cp ncp => ⟨_, _, rfl, ?_⟩⟩
          exact fin u G9 s10 (by rw [hr']; exact Dp.tup hu (.cons (.str _) (.cons (dp_wt hp) .nil))) cp ncp
        · refine ⟨_, rfl, mv, vs, rfl, .inl (SqL.here (s10 _ _ I.hm)), fun cp ncp => ⟨_, _, rfl, ?_⟩⟩
          exact fin u G9 s10 (by rw [hj]; exact Dp.tup hu (.cons (.str _) (.cons (.int _) .nil))) cp ncp
      clear I
      rintro σ2 G2 ⟨u, cp, rfl, I2, hu, hcp, ncr⟩
      have okw : okW ns = true := okW_of (by decide) (L3.mono (show (4 : Int) ≤ 40 by decide)) (by omega)
      refine ⟨_, rfl, _, rfl, _, rfl, cp, _, rfl, .inl ⟨SqL.here hcp, fun tp ntp => ⟨two_le, fun lp nlp => ?_⟩⟩⟩
      have s3 := Same.new ntp (.tup vs)
      have s4 := Same.new nlp (.lst [.ref cp, .ref tp])
      have s34 := s3.trans s4
      have I4 := I2.same s34
      have hu4 := dp_rD (Tp.same s34) hu
      have hcp4 := s34 _ _ hcp
      have htp4 : SqT K _ tp vs := SqT.here (s4 _ _ upd_same)
      refine ⟨r, lp, cc, [.ref cp, .ref tp], rfl, I4.R, .inl (SqL.here upd_same), (by show 0 < 2; decide), (by show 2 ≤ 10000; decide), ((I2.R.same s3).ne nlp).1, fun v G5 hv R5 b5 => ?_⟩
      have I5 := I4.but b5 R5
      have hcp5 := b5 _ _ ncr hcp4
      have htp5 := (I4.R.tp b5).sqT htp4
      have hu5 := dp_rD (I4.R.tp b5) hu4
      clear I2 hu hcp s3 s4 s34 hu4 hcp4 htp4 I4 R5 b5 nlp ntp
      refine ⟨I5.T, fun G6 e6 t6 f6 => ?_⟩
      have exl : ∀ {b : Addr} {xs : List V}, G5 b = some (.lst xs) → G6 b = some (.lst xs) := fun h => e6 _ _ h (fun _ => by intro y; cases y)
      have tp6 := Tp.extN e6
      have w6 := tp6.sqT I5.w
      have M6 := I5.M.tp tp6
      have hcp6 := exl hcp5
      have hmv6 := exl I5.hm
      have R6 := I5.R.extN e6
      have hu6 := dp_rD tp6 hu5
      have mok := I5.ok
      obtain ⟨b, rfl, hb⟩ : ∃ b : Addr, v = .ref b ∧ (SqL K G6 b vs ∨ SqT K G6 b vs) := by
        simp only [List.mem_cons, List.not_mem_nil, or_false] at hv
        rcases hv with rfl | rfl
        · exact ⟨cp, rfl, .inl (SqL.here hcp6)⟩
        · exact ⟨tp, rfl, .inr (tp6.sqT htp5)⟩
      clear hv I5 hcp5 htp5 hu5 exl e6
      have wid : ∀ r', runX ms 0 ns = .ok r' → r'.length ≤ 1000 := fun r' hr' => by
        have := run_len hr'
        omega
      have d11 := rD_depth (runX ms 0 ns)
      refine ⟨_, rfl, _, rfl, rw_, b, ns, vs, ms, rfl, w6, by omega, hb, M6, by omega, fun _ => runA_of ms ns (fun m' hm' => (mok m' hm').1) (by omega), fun _ r' hr' p G7 hp s7 => ?_, fun _ j hj ea G7 s7 ne he => ?_, fun z => (by rw [okw] at z; cases z)⟩
      · refine ⟨two_le, fun p6 np6 => ?_⟩
        have s8 := Same.new np6 (.tup [.str ("value" : Str), .ref p])
        have sA := s7.trans s8
        have d1 : Dp K (upd G7 p6 (.tup [.str ("value" : Str), .ref p])) (.ref p6) (rD (runX ms 0 ns)) := by
          rw [hr']
          exact Dp.tup (SqT.here upd_same) (.cons (.str _) (.cons (dp_wt ((Tp.same s8).sqT hp)) .nil))
        refine ⟨_, rfl, .ref p6, .ref u, rD (runX ms 0 ns), rfl, d1, dp_rD (Tp.same sA) hu6, rD_shaped _, by omega, rD_wide wid, fun H9 s9 => ⟨true, rfl, iteF ?_⟩⟩
        have sB := sA.trans s9
        refine ⟨_, rfl, _, rfl, msD ms, msD ms, Dp.lst (SqL.here (sB _ _ hcp6)) (M6.tp (Tp.same sB)).dp, Dp.lst (SqL.here (sB _ _ hmv6)) (M6.tp (Tp.same sB)).dp, msD_shaped mok, msD_shaped mok, ?_⟩
        rw [SeqAt.eqv_refl _ (SeqAt.canLay_of_shaped (msD_shaped mok))]
        refine ⟨_, rfl, iteF ?_⟩
        exact ⟨_, _, _, _, _, _, _, _, _, _, _, _, rfl, R6.same sB, tabs_same sB t6⟩
      · refine wTry2 (D := CX) (nm := en 9) (v := .int (j : Int)) hfs rfl ⟨xc9, fun d ed => ⟨_, by cases ed; exact he⟩, xm9⟩ w9 (by rw [hfld]; exact .inr ⟨rfl, ea, _, rfl, he, rfl⟩) (fun p6 G8 sG8 np6 => ?_)
        have s8 := Same.new np6 (.tup [.str (en 9), .int (j : Int)])
        have sA := (s7.trans sG8).trans s8
        have d1 : Dp K (upd G8 p6 (.tup [.str (en 9), .int (j : Int)])) (.ref p6) (rD (runX ms 0 ns)) := by
          rw [hj]
          exact Dp.tup (SqT.here upd_same) (.cons (.str _) (.cons (.int _) .nil))
        refine ⟨_, rfl, .ref p6, .ref u, rD (runX ms 0 ns), rfl, d1, dp_rD (Tp.same sA) hu6, rD_shaped _, by omega, rD_wide wid, fun H9 s9 => ⟨true, rfl, iteF ?_⟩⟩
        have sB := sA.trans s9
        refine ⟨_, rfl, _, rfl, msD ms, msD ms, Dp.lst (SqL.here (sB _ _ hcp6)) (M6.tp (Tp.same sB)).dp, Dp.lst (SqL.here (sB _ _ hmv6)) (M6.tp (Tp.same sB)).dp, msD_shaped mok, msD_shaped mok, ?_⟩
        rw [SeqAt.eqv_refl _ (SeqAt.canLay_of_shaped (msD_shaped mok))]
        refine ⟨_, rfl, iteF ?_⟩
        exact ⟨_, _, _, _, _, _, _, _, _, _, _, _, rfl, R6.same sB, tabs_same sB t6⟩
  · rintro σ H2 ⟨x2, x3, x4, x5, x6, x7, x8, x9, x10, x11, x14, x16, rfl, R2, T2⟩
    refine ⟨_, rfl, r, cc, rfl, R2, fun pl ns H3 w3 l3 L3 R3 b3 => ?_⟩
    have T3 := R2.tabs b3 T2
    have okw : okW ns = true := okW_of (by decide) (L3.mono (show (4 : Int) ≤ 40 by decide)) l3.2
    clear R2 T2 b3
    refine ⟨_, rfl, _, rfl, pl, _, rfl, .inr w3, three_le, fun t1 n1 => ⟨_, rfl, three_le, fun t2 n2 => ⟨two_le, fun t3 n3 => ⟨three_le, fun lm nlm => ?_⟩⟩⟩⟩
    have ln : ((ns.map V.int).length : Int) = ns.length := by rw [List.length_map]
    have s1 := Same.new n1 (.tup [V.str "insert", .int ((ns.map V.int).length : Int), .int 4])
    have s2 := Same.new n2 (.tup [V.str "insert", .int 0, .int (-5)])
    have s3 := Same.new n3 (.tup [V.str "cancel", .int 0])
    have s4 := Same.new nlm (.lst [.ref t1, .ref t2, .ref t3])
    have m1 : MvT K _ (.ref t1) ("insert", [(ns.length : Int), 4]) := ⟨t1, rfl, (Tp.same (s2.trans (s3.trans s4))).sqT (SqT.here (by rw [upd_same, ln]; rfl))⟩
    have m2 : MvT K _ (.ref t2) ("insert", [0, -5]) := ⟨t2, rfl, (Tp.same (s3.trans s4)).sqT (SqT.here upd_same)⟩
    have m3 : MvT K _ (.ref t3) ("cancel", [0]) := ⟨t3, rfl, (Tp.same s4).sqT (SqT.here upd_same)⟩
    have M3 : MvTs K _ [.ref t1, .ref t2, .ref t3] (lgM ns.length) := ((MvTs.one m1).snoc m2).snoc m3
    have sA := s1.trans (s2.trans (s3.trans s4))
    have w4 := (Tp.same sA).sqT w3
    have R4 := R3.same sA
    have T4 := tabs_same sA T3
    clear m1 m2 m3 s1 s2 s3 sA R3 T3
    refine ⟨pl, lm, ns, _, _, rfl, w4, by omega, .inl (SqL.here upd_same), M3, (by show 3 ≤ 1000; decide), fun _ => runA_of _ _ lgM_ok (by show ns.length + 2 * 3 ≤ 900; omega), fun _ r' hr' p G hp sG => ?_, fun _ j hj => (by rw [run_long] at hj; cases hj), fun z => (by rw [okw] at z; cases z)⟩
    rw [run_long] at hr'
    cases hr'
    refine ⟨_, rfl, _, rfl, two_le, fun t5 n5 => ?_⟩
    have s5 := Same.new n5 (.tup [V.int 4, V.int (-4)])
    refine cat_ok ((Tp.same (sG.trans s5)).sqT w4) (SqT.here upd_same) (by rw [List.length_map]; exact Nat.le_trans (show ns.length + 2 ≤ 1000 by omega) (by decide)) fun p6 H6 s6 w6 => ?_
    have w6 : WT K H6 p6 (ns ++ [4, -4]) := by
      rw [WT, List.map_append]
      exact w6
    refine ne_w ((Tp.same (s5.trans s6)).sqT hp) w6 ⟨_, rfl, iteF ?_⟩
    have R6 := R4.same (sG.trans (s5.trans s6))
    have T6 := tabs_same (sG.trans (s5.trans s6)) T4
    clear R4 T4 w4 M3 s4 sG s5 s6 w6 hp w3
    refine ⟨_, rfl, r, cc, rfl, R6, fun pb bs H7 w7 hb lb R7 b7 => ?_⟩
    have T7 := R6.tabs b7 T6
    clear R6 T6 b7
    refine ⟨T7, fun G1 e1 tb1 f1' => ?_⟩
    have wb8 := (Tp.extN e1).sqT w7
    have R8 := R7.extN e1
    refine ⟨_, rfl, two_le, fun u1 m1 => ⟨one_le, fun l1 ml1 => ?_⟩⟩
    have s8 := Same.new m1 (.tup [V.str "no", .int 0])
    have s9 := Same.new ml1 (.lst [.ref u1])
    refine ⟨pb, l1, bs, _, [("no", [0])], rfl, (Tp.same (s8.trans s9)).sqT wb8, by omega, .inl (SqL.here upd_same), .one ⟨u1, rfl, (Tp.same s9).sqT (SqT.here upd_same)⟩, (by show 1 ≤ 1000; decide), fun z => (by rw [hb] at z; cases z), fun z => (by rw [hb] at z; cases z), fun z => (by rw [hb] at z; cases z), fun _ H9 s10 => ?_⟩
    refine wTry2 (D := CWd) (nm := en 8) (v := .non) hfs rfl ⟨xc8, fun d ed => (by cases ed), xm8⟩ w8 (by rw [hfld]; exact .inl ⟨rfl, rfl⟩) (fun q1 G2 sG2 nq1 => ?_)
    have sq1 := Same.new nq1 (.tup [.str (en 8), .non])
    have sB := (s8.trans s9).trans ((s10.trans sG2).trans sq1)
    have k1 : SqT K (upd G2 q1 (.tup [.str (en 8), .non])) q1 [.str (en 8), .non] := SqT.here upd_same
    have T9 := tabs_same sB tb1
    clear s8 s9 s10 sG2 sq1 w7 wb8 R7 T7 R8 e1 sB
    refine ⟨T9, fun G3 e3 tb3 f3' => ?_⟩
    have k3 := (Tp.extN e3).sqT k1
    refine ⟨two_le, fun v1 nv1 => ⟨three_le, fun v2 nv2 => ⟨two_le, fun v3 nv3 => ⟨two_le, fun v4 nv4 => ?_⟩⟩⟩⟩
    have z1 := Same.new nv1 (.tup [V.int 1, V.int 2])
    have z2 := Same.new nv2 (.tup [V.str "insert", .int 2, .int 3])
    have z3 := Same.new nv3 (.tup [V.str "cancel", .int 9])
    have z4 := Same.new nv4 (.lst [.ref v2, .ref v3])
    have y2 : MvT K _ (.ref v2) ("insert", [2, 3]) := ⟨v2, rfl, (Tp.same (z3.trans z4)).sqT (SqT.here upd_same)⟩
    have y3 : MvT K _ (.ref v3) ("cancel", [9]) := ⟨v3, rfl, (Tp.same z4).sqT (SqT.here upd_same)⟩
    have M4 : MvTs K _ [.ref v2, .ref v3] [("insert", [2, 3]), ("cancel", [9])] := (MvTs.one y2).snoc y3
    have wv : WT K _ v1 [1, 2] := (Tp.same (z2.trans (z3.trans z4))).sqT (SqT.here upd_same)
    have zA := z1.trans (z2.trans (z3.trans z4))
    have okv : okW [1, 2] = true := by decide +kernel
    refine ⟨v1, v4, [1, 2], _, _, rfl, wv, (by show 2 ≤ 1000; decide), .inl (SqL.here upd_same), M4, (by show 2 ≤ 1000; decide), fun _ => runA_of _ _ (fun m hm => by simp only [List.mem_cons, List.not_mem_nil, or_false] at hm; first | (rcases hm with rfl | rfl <;> decide) | (rcases hm with rfl; decide)) (by decide), fun _ r' hr' => (by rw [run_bad] at hr'; cases hr'), fun _ j hj ea G7 s7 ne he => ?_, fun z => (by rw [okv] at z; cases z)⟩
    rw [run_bad] at hj
    cases hj
    refine wTry2 (D := CX) (nm := en 9) (v := .int 1) hfs rfl ⟨xc9, fun d ed => ⟨_, by cases ed; exact he⟩, xm9⟩ w9 (by rw [hfld]; exact .inr ⟨rfl, ea, _, rfl, he, rfl⟩) (fun q2 G8 sG8 nq2 => ?_)
    have sq2 := Same.new nq2 (.tup [.str (en 9), .int 1])
    have sC := (zA.trans s7).trans (sG8.trans sq2)
    have k4 := (Tp.same sC).sqT k3
    have k5 : SqT K (upd G8 q2 (.tup [.str (en 9), .int 1])) q2 [.str (en 9), .int 1] := SqT.here upd_same
    clear z1 z2 z3 z4 y2 y3 M4 wv zA s7 sG8 sq2 sC k3 k1
    generalize upd G8 q2 (.tup [.str (en 9), .int 1]) = H10 at *
    refine ⟨two_le, fun lw nlw => ?_⟩
    have a1 := Same.new nlw (.lst [.ref q1, .ref q2])
    refine ⟨_, rfl, two_le, fun c1 nc1 => ⟨two_le, fun c2 nc2 => ⟨two_le, fun c3 nc3 => ?_⟩⟩⟩
    have a2 := Same.new nc1 (.tup [.str (en 8), .non])
    have a3 := Same.new nc2 (.tup [.str (en 9), .int 1])
    have a4 := Same.new nc3 (.lst [.ref c1, .ref c2])
    have aa := a2.trans (a3.trans a4)
    have g1 : SqT K _ c1 [.str (en 8), .non] := (Tp.same (a3.trans a4)).sqT (SqT.here upd_same)
    have g2 : SqT K _ c2 [.str (en 9), .int 1] := (Tp.same a4).sqT (SqT.here upd_same)
    have dst : ∀ {H : Hp} {q : Addr}, SqT K H q [.str (en 9), .int 1] → Dp K H (.ref q) stD := fun h => Dp.tup h (.cons (.str _) (.cons (.int _) .nil))
    have shp : SeqAt.shaped (.list [eD 8, stD]) = true := by decide +kernel
    refine ⟨.list [eD 8, stD], .list [eD 8, stD], Dp.lst (SqL.here (aa _ _ upd_same)) (.cons (dp_eD ((Tp.same (a1.trans aa)).sqT k4)) (.cons (dst ((Tp.same (a1.trans aa)).sqT k5)) .nil)), Dp.lst (SqL.here upd_same) (.cons (dp_eD g1) (.cons (dst g2) .nil)), shp, shp, ?_⟩
    rw [SeqAt.eqv_refl _ (SeqAt.canLay_of_shaped shp)]
    refine ⟨true, rfl, iteT ?_⟩
    generalize upd _ c3 (.lst [.ref c1, .ref c2]) = H11 at *
    clear a1 a2 a3 a4 aa g1 g2 k4 k5
    refine ⟨three_le, fun b1 nb1 => ⟨two_le, fun b2 nb2 => ⟨one_le, fun b3 nb3 => ?_⟩⟩⟩
    have f1 := Same.new nb1 (.tup [V.int 1, V.int 2, V.int 1])
    have f2 := Same.new nb2 (.tup [V.str "braid", .int 0])
    have f3 := Same.new nb3 (.lst [.ref b2])
    have okb : okW [1, 2, 1] = true := by decide +kernel
    refine ⟨b1, b3, [1, 2, 1], _, [("braid", [0])], rfl, (Tp.same (f2.trans f3)).sqT (SqT.here upd_same), (by show 3 ≤ 1000; decide), .inl (SqL.here upd_same), .one ⟨b2, rfl, (Tp.same f3).sqT (SqT.here upd_same)⟩, (by show 1 ≤ 1000; decide), fun _ => runA_of _ _ (fun m hm => by simp only [List.mem_cons, List.not_mem_nil, or_false] at hm; first | (rcases hm with rfl | rfl <;> decide) | (rcases hm with rfl; decide)) (by decide), fun _ r' hr' p G hp sG => ?_, fun _ j hj => (by rw [run_brd] at hj; cases hj), fun z => (by rw [okb] at z; cases z)⟩
    rw [run_brd] at hr'
    cases hr'
    refine ⟨three_le, fun b4 nb4 => ?_⟩
    exact eq_w (ns := [2, 1, 2]) ((Tp.same (Same.new nb4 _)).sqT hp) (SqT.here upd_same) (q _)

end
theorem kit_own {K : PySem.W.Frag} {C c : Addr} {b : Bool} (ne : (Value.ref C == Value.ref c) = false) (h1 : PySem.W.isClsIn K c = true) (h2 : PySem.W.typeIn K (.ref c) = some (.type "type")) (h3 : PySem.W.subIn K (.ref C) (.ref c) = some b) : PySem.W.kitOne K (.ref C) (.ref c) = some b := by
  have e2 : ((PySem.W.clsIn K c).isSome && PySem.W.typeIn K (.ref c) == some (.type "type")) = true := by
    have h1' : (PySem.W.clsIn K c).isSome = true := h1
    rw [h1', h2] <;> rfl
  unfold PySem.W.kitOne
  rw [ne, if_neg (by decide)]
  show (if ((PySem.W.clsIn K c).isSome && PySem.W.typeIn K (.ref c) == some (.type "type")) = true then PySem.W.subIn K (.ref C) (.ref c) else none) = some b
  rw [if_pos e2]
  exact h3
theorem codeHd_mk {K : PySem.W.Frag} {cL Pt : Addr} {edL : Option Addr} {vsL : Array Value} {slL : Array (Option Value)} {f18 : Str} {t18 t7 t10 : Tok} {i7 i10 : Int} {b9 : Bool} (lC : K.lookup cL = some ⟨.type "code", edL, .fields vsL, slL⟩) (h11 : vsL[11]? = some (.ref Pt)) (h18 : vsL.getD 18 .none = .str f18 t18)
    (h7 : vsL.getD 7 .none = .int i7 t7) (h9 : vsL.getD 9 .none = .bool b9) (h10 : vsL.getD 10 .none = .int i10 t10) (ne : (cL != Pt) = true) : PySem.W.codeHdIn K cL Pt = true := by
  unfold PySem.W.codeHdIn
  rw [lC]
  simp only [h11, h18, h7, h9, h10, ne, beq_self_eq_true, Bool.and_true, Bool.and_self]
theorem all_mk {l : PySem.W.OpenLaw} {w : World} {K : PySem.W.Frag} {h : Heap} {mg : Str → Option Value} {fa : Addr} (X : K.In h) (G : h.Ns mainGlobals mg) (hfa : mg "law" = some (.ref fa)) 
    {g0 g1 g2 g3 g4 g5 g6 g7 g8 g9 g10 g11 g12 g13 g14 g15 g16 g17 g18 g19 g20 g21 g22 g23 g24 g25 : Addr}
    {od0 an0 od1 an1 od2 an2 od3 an3 od4 an4 od5 an5 od6 an6 od7 an7 od8 an8 od9 an9 od10 an10 od11 an11 od12 an12 od13 an13 od14 an14 od15 an15 od16 an16 od17 an17 od18 an18 od19 an19 od20 an20 od21 an21 od22 an22 od23 an23 od24 an24 od25 an25 : Option Addr}
    {sl0 sl1 sl2 sl3 sl4 sl5 sl6 sl7 sl8 sl9 sl10 sl11 sl12 sl13 sl14 sl15 sl16 sl17 sl18 sl19 sl20 sl21 sl22 sl23 sl24 sl25 : Array (Option Value)}
    {oc0 kV0 dc0 pm0 cd0 ct0 oc1 kV1 dc1 pm1 cd1 ct1 oc2 kV2 dc2 pm2 cd2 ct2 oc3 kV3 dc3 pm3 cd3 ct3 oc4 kV4 dc4 pm4 cd4 ct4 oc5 kV5 dc5 pm5 cd5 ct5 oc6 kV6 dc6 pm6 cd6 ct6 oc7 kV7 dc7 pm7 cd7 ct7 oc8 kV8 dc8 pm8 cd8 ct8 oc9 kV9 dc9 pm9 cd9 ct9 oc10 kV10 dc10 pm10 cd10 ct10 oc11 kV11 dc11 pm11 cd11 ct11 oc12 kV12 dc12 pm12 cd12 ct12 oc13 kV13 dc13 pm13 cd13 ct13 oc14 kV14 dc14 pm14 cd14 ct14 oc15 kV15 dc15 pm15 cd15 ct15 oc16 kV16 dc16 pm16 cd16 ct16 oc17 kV17 dc17 pm17 cd17 ct17 oc18 kV18 dc18 pm18 cd18 ct18 oc19 kV19 dc19 pm19 cd19 ct19 oc20 kV20 dc20 pm20 cd20 ct20 oc21 kV21 dc21 pm21 cd21 ct21 oc22 kV22 dc22 pm22 cd22 ct22 oc23 kV23 dc23 pm23 cd23 ct23 oc24 kV24 dc24 pm24 cd24 ct24 oc25 kV25 dc25 pm25 ct25 : Value}
    {cL Pt CT : Addr} {f18 : Str} {t18 t7 t10 : Tok} {i7 i10 : Int} {b9 : Bool} {edL : Option Addr} {vsL : Array Value} {slL : Array (Option Value)}
    {tc_MAX_LETTER : Tok}
    {tc_MAX_LETTERS : Tok}
    {x0 x1 x2 x3 x4 x5 x6 x7 x8 x9 x10 x11 x12 x13 x14 x15 x16 x17 x18 x19 : Addr}
    {tf9 tcd9 tcc9 tN9 : Addr} {to9 tkV9 tdc9 tpm9 tct9 tcl9 tccl9 : Value} {td9 tan9 tcdd9 tccd9 tdd9 : Option Addr} {tsl9 tcs9 tccs9 : Array (Option Value)} {tcv9 : Array Value} {tfile9 tnm9 tq9 : Str} {tft9 : Tok} {tbs9 tbm9 tsub9 : List Value} {tsn9 : List Str} {tab9 : Bool} {tcol9 : Option Bool} {tk0_9 tk1_9 tk2_9 tk3_9 tk5_9 : Option Value}
    {WD : Addr} {ta0 ta1 ta2 tb0 tb1 tb2 : Tok} {hh0 hh1 hh2 : Int} {wn : Nat}
    (a0 : PySem.W.nsIn K mainGlobals "is_letter" = some (some (.ref g0)))
    (l0 : K.lookup g0 = some ⟨oc0, od0, .func (PySem.W.fnOf "is_letter" "is_letter" (defArgs s_is_letter) (defBody s_is_letter) (defScope s_is_letter) .none kV0 dc0 pm0 an0 cd0 ct0), sl0⟩)
    (c0 : PySem.W.codeIn K cd0 "is_letter" = true)
    (k0 : PySem.W.keepIn K (.ref g0) = true)
    (a1 : PySem.W.nsIn K mainGlobals "with_sign" = some (some (.ref g1)))
    (l1 : K.lookup g1 = some ⟨oc1, od1, .func (PySem.W.fnOf "with_sign" "with_sign" (defArgs s_with_sign) (defBody s_with_sign) (defScope s_with_sign) .none kV1 dc1 pm1 an1 cd1 ct1), sl1⟩)
    (c1 : PySem.W.codeIn K cd1 "with_sign" = true)
    (k1 : PySem.W.keepIn K (.ref g1) = true)
    (a2 : PySem.W.nsIn K mainGlobals "_law_sign" = some (some (.ref g2)))
    (l2 : K.lookup g2 = some ⟨oc2, od2, .func (PySem.W.fnOf "_law_sign" "_law_sign" (defArgs s__law_sign) (defBody s__law_sign) (defScope s__law_sign) .none kV2 dc2 pm2 an2 cd2 ct2), sl2⟩)
    (c2 : PySem.W.codeIn K cd2 "_law_sign" = true)
    (k2 : PySem.W.keepIn K (.ref g2) = true)
    (a3 : PySem.W.nsIn K mainGlobals "_law_braided" = some (some (.ref g3)))
    (l3 : K.lookup g3 = some ⟨oc3, od3, .func (PySem.W.fnOf "_law_braided" "_law_braided" (defArgs s__law_braided) (defBody s__law_braided) (defScope s__law_braided) .none kV3 dc3 pm3 an3 cd3 ct3), sl3⟩)
    (c3 : PySem.W.codeIn K cd3 "_law_braided" = true)
    (k3 : PySem.W.keepIn K (.ref g3) = true)
    (a4 : PySem.W.nsIn K mainGlobals "are_letters" = some (some (.ref g4)))
    (l4 : K.lookup g4 = some ⟨oc4, od4, .func (PySem.W.fnOf "are_letters" "are_letters" (defArgs s_are_letters) (defBody s_are_letters) (defScope s_are_letters) .none kV4 dc4 pm4 an4 cd4 ct4), sl4⟩)
    (c4 : PySem.W.codeIn K cd4 "are_letters" = true)
    (k4 : PySem.W.keepIn K (.ref g4) = true)
    (a5 : PySem.W.nsIn K mainGlobals "check_word" = some (some (.ref g5)))
    (l5 : K.lookup g5 = some ⟨oc5, od5, .func (PySem.W.fnOf "check_word" "check_word" (defArgs s_check_word) (defBody s_check_word) (defScope s_check_word) .none kV5 dc5 pm5 an5 cd5 ct5), sl5⟩)
    (c5 : PySem.W.codeIn K cd5 "check_word" = true)
    (k5 : PySem.W.keepIn K (.ref g5) = true)
    (a6 : PySem.W.nsIn K mainGlobals "_law_draws" = some (some (.ref g6)))
    (l6 : K.lookup g6 = some ⟨oc6, od6, .func (PySem.W.fnOf "_law_draws" "_law_draws" (defArgs s__law_draws) (defBody s__law_draws) (defScope s__law_draws) .none kV6 dc6 pm6 an6 cd6 ct6), sl6⟩)
    (c6 : PySem.W.codeIn K cd6 "_law_draws" = true)
    (k6 : PySem.W.keepIn K (.ref g6) = true)
    (a7 : PySem.W.nsIn K mainGlobals "_law_draw" = some (some (.ref g7)))
    (l7 : K.lookup g7 = some ⟨oc7, od7, .func (PySem.W.fnOf "_law_draw" "_law_draw" (defArgs s__law_draw) (defBody s__law_draw) (defScope s__law_draw) .none kV7 dc7 pm7 an7 cd7 ct7), sl7⟩)
    (c7 : PySem.W.codeIn K cd7 "_law_draw" = true)
    (k7 : PySem.W.keepIn K (.ref g7) = true)
    (a8 : PySem.W.nsIn K mainGlobals "_law_pick" = some (some (.ref g8)))
    (l8 : K.lookup g8 = some ⟨oc8, od8, .func (PySem.W.fnOf "_law_pick" "_law_pick" (defArgs s__law_pick) (defBody s__law_pick) (defScope s__law_pick) .none kV8 dc8 pm8 an8 cd8 ct8), sl8⟩)
    (c8 : PySem.W.codeIn K cd8 "_law_pick" = true)
    (k8 : PySem.W.keepIn K (.ref g8) = true)
    (a9 : PySem.W.nsIn K mainGlobals "_law_same" = some (some (.ref g9)))
    (l9 : K.lookup g9 = some ⟨oc9, od9, .func (PySem.W.fnOf "_law_same" "_law_same" (defArgs s__law_same) (defBody s__law_same) (defScope s__law_same) .none kV9 dc9 pm9 an9 cd9 ct9), sl9⟩)
    (c9 : PySem.W.codeIn K cd9 "_law_same" = true)
    (k9 : PySem.W.keepIn K (.ref g9) = true)
    (a10 : PySem.W.nsIn K mainGlobals "_law_error_name" = some (some (.ref g10)))
    (l10 : K.lookup g10 = some ⟨oc10, od10, .func (PySem.W.fnOf "_law_error_name" "_law_error_name" (defArgs s__law_error_name) (defBody s__law_error_name) (defScope s__law_error_name) .none kV10 dc10 pm10 an10 cd10 ct10), sl10⟩)
    (c10 : PySem.W.codeIn K cd10 "_law_error_name" = true)
    (k10 : PySem.W.keepIn K (.ref g10) = true)
    (a11 : PySem.W.nsIn K mainGlobals "_law_error_field" = some (some (.ref g11)))
    (l11 : K.lookup g11 = some ⟨oc11, od11, .func (PySem.W.fnOf "_law_error_field" "_law_error_field" (defArgs s__law_error_field) (defBody s__law_error_field) (defScope s__law_error_field) .none kV11 dc11 pm11 an11 cd11 ct11), sl11⟩)
    (c11 : PySem.W.codeIn K cd11 "_law_error_field" = true)
    (k11 : PySem.W.keepIn K (.ref g11) = true)
    (a12 : PySem.W.nsIn K mainGlobals "_law_any_word" = some (some (.ref g12)))
    (l12 : K.lookup g12 = some ⟨oc12, od12, .func (PySem.W.fnOf "_law_any_word" "_law_any_word" (defArgs s__law_any_word) (defBody s__law_any_word) (defScope s__law_any_word) .none kV12 dc12 pm12 an12 cd12 ct12), sl12⟩)
    (c12 : PySem.W.codeIn K cd12 "_law_any_word" = true)
    (k12 : PySem.W.keepIn K (.ref g12) = true)
    (a13 : PySem.W.nsIn K mainGlobals "_law_invalid_word" = some (some (.ref g13)))
    (l13 : K.lookup g13 = some ⟨oc13, od13, .func (PySem.W.fnOf "_law_invalid_word" "_law_invalid_word" (defArgs s__law_invalid_word) (defBody s__law_invalid_word) (defScope s__law_invalid_word) .none kV13 dc13 pm13 an13 cd13 ct13), sl13⟩)
    (c13 : PySem.W.codeIn K cd13 "_law_invalid_word" = true)
    (k13 : PySem.W.keepIn K (.ref g13) = true)
    (a14 : PySem.W.nsIn K mainGlobals "_law_move" = some (some (.ref g14)))
    (l14 : K.lookup g14 = some ⟨oc14, od14, .func (PySem.W.fnOf "_law_move" "_law_move" (defArgs s__law_move) (defBody s__law_move) (defScope s__law_move) .none kV14 dc14 pm14 an14 cd14 ct14), sl14⟩)
    (c14 : PySem.W.codeIn K cd14 "_law_move" = true)
    (k14 : PySem.W.keepIn K (.ref g14) = true)
    (a15 : PySem.W.nsIn K mainGlobals "_law_moves" = some (some (.ref g15)))
    (l15 : K.lookup g15 = some ⟨oc15, od15, .func (PySem.W.fnOf "_law_moves" "_law_moves" (defArgs s__law_moves) (defBody s__law_moves) (defScope s__law_moves) .none kV15 dc15 pm15 an15 cd15 ct15), sl15⟩)
    (c15 : PySem.W.codeIn K cd15 "_law_moves" = true)
    (k15 : PySem.W.keepIn K (.ref g15) = true)
    (a16 : PySem.W.nsIn K mainGlobals "braided" = some (some (.ref g16)))
    (l16 : K.lookup g16 = some ⟨oc16, od16, .func (PySem.W.fnOf "braided" "braided" (defArgs s_braided) (defBody s_braided) (defScope s_braided) .none kV16 dc16 pm16 an16 cd16 ct16), sl16⟩)
    (c16 : PySem.W.codeIn K cd16 "braided" = true)
    (k16 : PySem.W.keepIn K (.ref g16) = true)
    (a17 : PySem.W.nsIn K mainGlobals "replaced_by" = some (some (.ref g17)))
    (l17 : K.lookup g17 = some ⟨oc17, od17, .func (PySem.W.fnOf "replaced_by" "replaced_by" (defArgs s_replaced_by) (defBody s_replaced_by) (defScope s_replaced_by) .none kV17 dc17 pm17 an17 cd17 ct17), sl17⟩)
    (c17 : PySem.W.codeIn K cd17 "replaced_by" = true)
    (k17 : PySem.W.keepIn K (.ref g17) = true)
    (a18 : PySem.W.nsIn K mainGlobals "insertion_of" = some (some (.ref g18)))
    (l18 : K.lookup g18 = some ⟨oc18, od18, .func (PySem.W.fnOf "insertion_of" "insertion_of" (defArgs s_insertion_of) (defBody s_insertion_of) (defScope s_insertion_of) .none kV18 dc18 pm18 an18 cd18 ct18), sl18⟩)
    (c18 : PySem.W.codeIn K cd18 "insertion_of" = true)
    (k18 : PySem.W.keepIn K (.ref g18) = true)
    (a19 : PySem.W.nsIn K mainGlobals "change_of" = some (some (.ref g19)))
    (l19 : K.lookup g19 = some ⟨oc19, od19, .func (PySem.W.fnOf "change_of" "change_of" (defArgs s_change_of) (defBody s_change_of) (defScope s_change_of) .none kV19 dc19 pm19 an19 cd19 ct19), sl19⟩)
    (c19 : PySem.W.codeIn K cd19 "change_of" = true)
    (k19 : PySem.W.keepIn K (.ref g19) = true)
    (a20 : PySem.W.nsIn K mainGlobals "apply_moves" = some (some (.ref g20)))
    (l20 : K.lookup g20 = some ⟨oc20, od20, .func (PySem.W.fnOf "apply_moves" "apply_moves" (defArgs s_apply_moves) (defBody s_apply_moves) (defScope s_apply_moves) .none kV20 dc20 pm20 an20 cd20 ct20), sl20⟩)
    (c20 : PySem.W.codeIn K cd20 "apply_moves" = true)
    (k20 : PySem.W.keepIn K (.ref g20) = true)
    (a21 : PySem.W.nsIn K mainGlobals "_law_long_word" = some (some (.ref g21)))
    (l21 : K.lookup g21 = some ⟨oc21, od21, .func (PySem.W.fnOf "_law_long_word" "_law_long_word" (defArgs s__law_long_word) (defBody s__law_long_word) (defScope s__law_long_word) .none kV21 dc21 pm21 an21 cd21 ct21), sl21⟩)
    (c21 : PySem.W.codeIn K cd21 "_law_long_word" = true)
    (k21 : PySem.W.keepIn K (.ref g21) = true)
    (a22 : PySem.W.nsIn K mainGlobals "_law_expected" = some (some (.ref g22)))
    (l22 : K.lookup g22 = some ⟨oc22, od22, .func (PySem.W.fnOf "_law_expected" "_law_expected" (defArgs s__law_expected) (defBody s__law_expected) (defScope s__law_expected) .none kV22 dc22 pm22 an22 cd22 ct22), sl22⟩)
    (c22 : PySem.W.codeIn K cd22 "_law_expected" = true)
    (k22 : PySem.W.keepIn K (.ref g22) = true)
    (a23 : PySem.W.nsIn K mainGlobals "_law_invalid_move" = some (some (.ref g23)))
    (l23 : K.lookup g23 = some ⟨oc23, od23, .func (PySem.W.fnOf "_law_invalid_move" "_law_invalid_move" (defArgs s__law_invalid_move) (defBody s__law_invalid_move) (defScope s__law_invalid_move) .none kV23 dc23 pm23 an23 cd23 ct23), sl23⟩)
    (c23 : PySem.W.codeIn K cd23 "_law_invalid_move" = true)
    (k23 : PySem.W.keepIn K (.ref g23) = true)
    (a24 : PySem.W.nsIn K mainGlobals "_law_try" = some (some (.ref g24)))
    (l24 : K.lookup g24 = some ⟨oc24, od24, .func (PySem.W.fnOf "_law_try" "_law_try" (defArgs s__law_try) (defBody s__law_try) (defScope s__law_try) .none kV24 dc24 pm24 an24 cd24 ct24), sl24⟩)
    (c24 : PySem.W.codeIn K cd24 "_law_try" = true)
    (k24 : PySem.W.keepIn K (.ref g24) = true)
    (a25 : PySem.W.nsIn K mainGlobals "law" = some (some (.ref g25)))
    (l25 : K.lookup g25 = some ⟨oc25, od25, .func (PySem.W.fnOf "law" "law" (defArgs s_law) (defBody s_law) (defScope s_law) .none kV25 dc25 pm25 an25 (.ref cL) ct25), sl25⟩)
    (c25 : PySem.W.codeIn K (.ref cL) "law" = true)
    (k25 : PySem.W.keepIn K (.ref g25) = true)
    (z_len : PySem.W.nsIn K mainGlobals "len" = some none)
    (z_list : PySem.W.nsIn K mainGlobals "list" = some none)
    (z_tuple : PySem.W.nsIn K mainGlobals "tuple" = some none)
    (z_dict : PySem.W.nsIn K mainGlobals "dict" = some none)
    (z_bool : PySem.W.nsIn K mainGlobals "bool" = some none)
    (z_isinstance : PySem.W.nsIn K mainGlobals "isinstance" = some none)
    (z_max : PySem.W.nsIn K mainGlobals "max" = some none)
    (z_min : PySem.W.nsIn K mainGlobals "min" = some none)
    (z_range : PySem.W.nsIn K mainGlobals "range" = some none)
    (z_all : PySem.W.nsIn K mainGlobals "all" = some none)
    (z_sorted : PySem.W.nsIn K mainGlobals "sorted" = some none)
    (z_enumerate : PySem.W.nsIn K mainGlobals "enumerate" = some none)
    (z_sum : PySem.W.nsIn K mainGlobals "sum" = some none)
    (z_str : PySem.W.nsIn K mainGlobals "str" = some none)
    (z_int : PySem.W.nsIn K mainGlobals "int" = some none)
    (z_abs : PySem.W.nsIn K mainGlobals "abs" = some none)
    (z_reversed : PySem.W.nsIn K mainGlobals "reversed" = some none)
    (z_any : PySem.W.nsIn K mainGlobals "any" = some none)
    (q_MAX_LETTER : PySem.W.nsIn K mainGlobals "MAX_LETTER" = some (some (.int 40 tc_MAX_LETTER)))
    (q_MAX_LETTERS : PySem.W.nsIn K mainGlobals "MAX_LETTERS" = some (some (.int 300 tc_MAX_LETTERS)))
    (lC : K.lookup cL = some ⟨.type "code", edL, .fields vsL, slL⟩)
    (lP11 : vsL[11]? = some (.ref Pt))
    (nP : K.lookup Pt = none)
    (v18 : vsL.getD 18 .none = .str f18 t18)
    (v7 : vsL.getD 7 .none = .int i7 t7)
    (v9 : vsL.getD 9 .none = .bool b9)
    (v10 : vsL.getD 10 .none = .int i10 t10)
    (vne : (cL != Pt) = true)
    (aT : PySem.W.nsIn K mainGlobals "TermError" = some (some (.ref CT)))
    (ax0 : PySem.W.nsIn K mainGlobals "InvalidTerm" = some (some (.ref x0)))
    (ax1 : PySem.W.nsIn K mainGlobals "InvalidText" = some (some (.ref x1)))
    (ax2 : PySem.W.nsIn K mainGlobals "InvalidPath" = some (some (.ref x2)))
    (ax3 : PySem.W.nsIn K mainGlobals "PathNotFound" = some (some (.ref x3)))
    (ax4 : PySem.W.nsIn K mainGlobals "NotRewritable" = some (some (.ref x4)))
    (ax5 : PySem.W.nsIn K mainGlobals "TooLarge" = some (some (.ref x5)))
    (ax6 : PySem.W.nsIn K mainGlobals "InvalidSize" = some (some (.ref x6)))
    (ax7 : PySem.W.nsIn K mainGlobals "InvalidIndex" = some (some (.ref x7)))
    (ax8 : PySem.W.nsIn K mainGlobals "InvalidWord" = some (some (.ref x8)))
    (ax9 : PySem.W.nsIn K mainGlobals "InvalidStep" = some (some (.ref x9)))
    (ax10 : PySem.W.nsIn K mainGlobals "InvalidElement" = some (some (.ref x10)))
    (ax11 : PySem.W.nsIn K mainGlobals "InvalidModel" = some (some (.ref x11)))
    (ax12 : PySem.W.nsIn K mainGlobals "NestingTooDeep" = some (some (.ref x12)))
    (ax13 : PySem.W.nsIn K mainGlobals "InvalidLabel" = some (some (.ref x13)))
    (ax14 : PySem.W.nsIn K mainGlobals "DuplicateName" = some (some (.ref x14)))
    (ax15 : PySem.W.nsIn K mainGlobals "UnknownName" = some (some (.ref x15)))
    (ax16 : PySem.W.nsIn K mainGlobals "LimitReached" = some (some (.ref x16)))
    (ax17 : PySem.W.nsIn K mainGlobals "InvalidCommand" = some (some (.ref x17)))
    (ax18 : PySem.W.nsIn K mainGlobals "EmptyHistory" = some (some (.ref x18)))
    (ax19 : PySem.W.nsIn K mainGlobals "InvalidSnapshot" = some (some (.ref x19)))
    (ki0 : PySem.W.isClsIn K x0 = true)
    (ky0 : PySem.W.typeIn K (.ref x0) = some (.type "type"))
    (ki1 : PySem.W.isClsIn K x1 = true)
    (ky1 : PySem.W.typeIn K (.ref x1) = some (.type "type"))
    (ki2 : PySem.W.isClsIn K x2 = true)
    (ky2 : PySem.W.typeIn K (.ref x2) = some (.type "type"))
    (ki3 : PySem.W.isClsIn K x3 = true)
    (ky3 : PySem.W.typeIn K (.ref x3) = some (.type "type"))
    (ki4 : PySem.W.isClsIn K x4 = true)
    (ky4 : PySem.W.typeIn K (.ref x4) = some (.type "type"))
    (ki5 : PySem.W.isClsIn K x5 = true)
    (ky5 : PySem.W.typeIn K (.ref x5) = some (.type "type"))
    (ki6 : PySem.W.isClsIn K x6 = true)
    (ky6 : PySem.W.typeIn K (.ref x6) = some (.type "type"))
    (ki7 : PySem.W.isClsIn K x7 = true)
    (ky7 : PySem.W.typeIn K (.ref x7) = some (.type "type"))
    (ki8 : PySem.W.isClsIn K x8 = true)
    (ky8 : PySem.W.typeIn K (.ref x8) = some (.type "type"))
    (ki9 : PySem.W.isClsIn K x9 = true)
    (ky9 : PySem.W.typeIn K (.ref x9) = some (.type "type"))
    (ki10 : PySem.W.isClsIn K x10 = true)
    (ky10 : PySem.W.typeIn K (.ref x10) = some (.type "type"))
    (ki11 : PySem.W.isClsIn K x11 = true)
    (ky11 : PySem.W.typeIn K (.ref x11) = some (.type "type"))
    (ki12 : PySem.W.isClsIn K x12 = true)
    (ky12 : PySem.W.typeIn K (.ref x12) = some (.type "type"))
    (ki13 : PySem.W.isClsIn K x13 = true)
    (ky13 : PySem.W.typeIn K (.ref x13) = some (.type "type"))
    (ki14 : PySem.W.isClsIn K x14 = true)
    (ky14 : PySem.W.typeIn K (.ref x14) = some (.type "type"))
    (ki15 : PySem.W.isClsIn K x15 = true)
    (ky15 : PySem.W.typeIn K (.ref x15) = some (.type "type"))
    (ki16 : PySem.W.isClsIn K x16 = true)
    (ky16 : PySem.W.typeIn K (.ref x16) = some (.type "type"))
    (ki17 : PySem.W.isClsIn K x17 = true)
    (ky17 : PySem.W.typeIn K (.ref x17) = some (.type "type"))
    (ki18 : PySem.W.isClsIn K x18 = true)
    (ky18 : PySem.W.typeIn K (.ref x18) = some (.type "type"))
    (ki19 : PySem.W.isClsIn K x19 = true)
    (ky19 : PySem.W.typeIn K (.ref x19) = some (.type "type"))
    (xn : PySem.W.specialIn K (.builtin "object.__class__") "__get__" = some (some (.builtin "getset_descriptor.__get__")))
    (xt : PySem.W.takesIn K (.builtin "object.__class__") = some true)
    (ye : PySem.W.subIn K (.ref CT) (.type "BaseException") = some true)
    (yd : PySem.W.hasDictIn K CT = true)
    (yt : PySem.W.typeIn K (.ref CT) = some (.type "type"))
    (kn8_0 : (Value.ref x8 == Value.ref x0) = false)
    (ks8_0 : PySem.W.subIn K (.ref x8) (.ref x0) = some false)
    (kn8_1 : (Value.ref x8 == Value.ref x1) = false)
    (ks8_1 : PySem.W.subIn K (.ref x8) (.ref x1) = some false)
    (kn8_2 : (Value.ref x8 == Value.ref x2) = false)
    (ks8_2 : PySem.W.subIn K (.ref x8) (.ref x2) = some false)
    (kn8_3 : (Value.ref x8 == Value.ref x3) = false)
    (ks8_3 : PySem.W.subIn K (.ref x8) (.ref x3) = some false)
    (kn8_4 : (Value.ref x8 == Value.ref x4) = false)
    (ks8_4 : PySem.W.subIn K (.ref x8) (.ref x4) = some false)
    (kn8_5 : (Value.ref x8 == Value.ref x5) = false)
    (ks8_5 : PySem.W.subIn K (.ref x8) (.ref x5) = some false)
    (kn8_6 : (Value.ref x8 == Value.ref x6) = false)
    (ks8_6 : PySem.W.subIn K (.ref x8) (.ref x6) = some false)
    (kn8_7 : (Value.ref x8 == Value.ref x7) = false)
    (ks8_7 : PySem.W.subIn K (.ref x8) (.ref x7) = some false)
    (kn8_9 : (Value.ref x8 == Value.ref x9) = false)
    (ks8_9 : PySem.W.subIn K (.ref x8) (.ref x9) = some false)
    (kn8_10 : (Value.ref x8 == Value.ref x10) = false)
    (ks8_10 : PySem.W.subIn K (.ref x8) (.ref x10) = some false)
    (kn8_11 : (Value.ref x8 == Value.ref x11) = false)
    (ks8_11 : PySem.W.subIn K (.ref x8) (.ref x11) = some false)
    (kn8_12 : (Value.ref x8 == Value.ref x12) = false)
    (ks8_12 : PySem.W.subIn K (.ref x8) (.ref x12) = some false)
    (kn8_13 : (Value.ref x8 == Value.ref x13) = false)
    (ks8_13 : PySem.W.subIn K (.ref x8) (.ref x13) = some false)
    (kn8_14 : (Value.ref x8 == Value.ref x14) = false)
    (ks8_14 : PySem.W.subIn K (.ref x8) (.ref x14) = some false)
    (kn8_15 : (Value.ref x8 == Value.ref x15) = false)
    (ks8_15 : PySem.W.subIn K (.ref x8) (.ref x15) = some false)
    (kn8_16 : (Value.ref x8 == Value.ref x16) = false)
    (ks8_16 : PySem.W.subIn K (.ref x8) (.ref x16) = some false)
    (kn8_17 : (Value.ref x8 == Value.ref x17) = false)
    (ks8_17 : PySem.W.subIn K (.ref x8) (.ref x17) = some false)
    (kn8_18 : (Value.ref x8 == Value.ref x18) = false)
    (ks8_18 : PySem.W.subIn K (.ref x8) (.ref x18) = some false)
    (kn8_19 : (Value.ref x8 == Value.ref x19) = false)
    (ks8_19 : PySem.W.subIn K (.ref x8) (.ref x19) = some false)
    (xg8 : PySem.W.findIn K (.ref x8) "__getattribute__" = some (some (.builtin "BaseException.__getattribute__")))
    (xk8 : PySem.W.findIn K (.ref x8) "__getattr__" = some none)
    (xd8 : PySem.W.hasDictIn K x8 = true)
    (xa8 : PySem.W.findIn K (.ref x8) "__class__" = some (some (.builtin "object.__class__")))
    (xm8 : PySem.W.mroIn K x8 (.type "object") = some true)
    (ys8 : PySem.W.subIn K (.ref x8) (.ref CT) = some true)
    (kn9_0 : (Value.ref x9 == Value.ref x0) = false)
    (ks9_0 : PySem.W.subIn K (.ref x9) (.ref x0) = some false)
    (kn9_1 : (Value.ref x9 == Value.ref x1) = false)
    (ks9_1 : PySem.W.subIn K (.ref x9) (.ref x1) = some false)
    (kn9_2 : (Value.ref x9 == Value.ref x2) = false)
    (ks9_2 : PySem.W.subIn K (.ref x9) (.ref x2) = some false)
    (kn9_3 : (Value.ref x9 == Value.ref x3) = false)
    (ks9_3 : PySem.W.subIn K (.ref x9) (.ref x3) = some false)
    (kn9_4 : (Value.ref x9 == Value.ref x4) = false)
    (ks9_4 : PySem.W.subIn K (.ref x9) (.ref x4) = some false)
    (kn9_5 : (Value.ref x9 == Value.ref x5) = false)
    (ks9_5 : PySem.W.subIn K (.ref x9) (.ref x5) = some false)
    (kn9_6 : (Value.ref x9 == Value.ref x6) = false)
    (ks9_6 : PySem.W.subIn K (.ref x9) (.ref x6) = some false)
    (kn9_7 : (Value.ref x9 == Value.ref x7) = false)
    (ks9_7 : PySem.W.subIn K (.ref x9) (.ref x7) = some false)
    (kn9_8 : (Value.ref x9 == Value.ref x8) = false)
    (ks9_8 : PySem.W.subIn K (.ref x9) (.ref x8) = some false)
    (kn9_10 : (Value.ref x9 == Value.ref x10) = false)
    (ks9_10 : PySem.W.subIn K (.ref x9) (.ref x10) = some false)
    (kn9_11 : (Value.ref x9 == Value.ref x11) = false)
    (ks9_11 : PySem.W.subIn K (.ref x9) (.ref x11) = some false)
    (kn9_12 : (Value.ref x9 == Value.ref x12) = false)
    (ks9_12 : PySem.W.subIn K (.ref x9) (.ref x12) = some false)
    (kn9_13 : (Value.ref x9 == Value.ref x13) = false)
    (ks9_13 : PySem.W.subIn K (.ref x9) (.ref x13) = some false)
    (kn9_14 : (Value.ref x9 == Value.ref x14) = false)
    (ks9_14 : PySem.W.subIn K (.ref x9) (.ref x14) = some false)
    (kn9_15 : (Value.ref x9 == Value.ref x15) = false)
    (ks9_15 : PySem.W.subIn K (.ref x9) (.ref x15) = some false)
    (kn9_16 : (Value.ref x9 == Value.ref x16) = false)
    (ks9_16 : PySem.W.subIn K (.ref x9) (.ref x16) = some false)
    (kn9_17 : (Value.ref x9 == Value.ref x17) = false)
    (ks9_17 : PySem.W.subIn K (.ref x9) (.ref x17) = some false)
    (kn9_18 : (Value.ref x9 == Value.ref x18) = false)
    (ks9_18 : PySem.W.subIn K (.ref x9) (.ref x18) = some false)
    (kn9_19 : (Value.ref x9 == Value.ref x19) = false)
    (ks9_19 : PySem.W.subIn K (.ref x9) (.ref x19) = some false)
    (xg9 : PySem.W.findIn K (.ref x9) "__getattribute__" = some (some (.builtin "BaseException.__getattribute__")))
    (xk9 : PySem.W.findIn K (.ref x9) "__getattr__" = some none)
    (xd9 : PySem.W.hasDictIn K x9 = true)
    (xa9 : PySem.W.findIn K (.ref x9) "__class__" = some (some (.builtin "object.__class__")))
    (xm9 : PySem.W.mroIn K x9 (.type "object") = some true)
    (ys9 : PySem.W.subIn K (.ref x9) (.ref CT) = some true)
    (xs8 : PySem.W.subIn K (.ref x8) (.type "BaseException") = some true)
    (xs9 : PySem.W.subIn K (.ref x9) (.type "BaseException") = some true)
    (xq8 : PySem.W.excIn K x8 [.type "ValueError", .type "Exception", .type "BaseException", .type "object"] "ValueError.__new__" = true)
    (xkp8 : PySem.W.keepIn K (.ref x8) = true)
    (xf8_position : PySem.W.findIn K (.ref x8) "position" = some none)
    (xf8_name : PySem.W.findIn K (.ref x8) "name" = some none)
    (xf8_size : PySem.W.findIn K (.ref x8) "size" = some none)
    (xf8_row : PySem.W.findIn K (.ref x8) "row" = some none)
    (xf9_position : PySem.W.findIn K (.ref x9) "position" = some none)
    (xf9_name : PySem.W.findIn K (.ref x9) "name" = some none)
    (xf9_size : PySem.W.findIn K (.ref x9) "size" = some none)
    (xf9_row : PySem.W.findIn K (.ref x9) "row" = some none)
    (z_super : PySem.W.nsIn K mainGlobals "super" = some none)
    (tany : PySem.W.nsIn K cStatics "thirdparty.any" = some none)
    (ttop : (l.prog.main.scope.names.lookup ("super" : Str)).isSome = false)
    (ti9 : PySem.W.findIn K (.ref x9) "__init__" = some (some (.ref tf9)))
    (tt9 : PySem.W.typeIn K (.ref tf9) = some (.type "function"))
    (tl9 : K.lookup tf9 = some ⟨to9, td9, .func (PySem.W.ksFn "__init__" "InvalidStep.__init__" (defArgs s_ISInit) (defBody s_ISInit) (defScope s_ISInit) .none tkV9 tdc9 tpm9 tan9 (.ref tcd9) tct9 tcc9), tsl9⟩)
    (tci9 : PySem.W.codeIn K (.ref tcd9) "InvalidStep.__init__" = true)
    (tco9 : K.lookup tcd9 = some ⟨tcl9, tcdd9, .fields tcv9, tcs9⟩)
    (tcf9 : tcv9[2]? = some (.str tfile9 tft9))
    (tpf9 : ((l.prog.main.file : Str) == tfile9) = true)
    (tce9 : K.lookup tcc9 = some ⟨tccl9, tccd9, .cell (some (.ref x9)), tccs9⟩)
    (tlk9 : K.lookup x9 = some (excClassObj tnm9 tq9 x9 tN9 tbs9 tbm9 true tsn9 tsub9 tab9 tcol9 tdd9 tk0_9 tk1_9 tk2_9 tk3_9 tk5_9 "ValueError.__new__"))
    (tre9 : PySem.HandSPX.refsVE tbm9 = true)
    (tsa9 : PySem.W.findIn K (.ref x9) "__setattr__" = some (some (.builtin "object.__setattr__")))
    (tkp9 : PySem.W.keepIn K (.ref x9) = true)
    (tmr9 : PySem.W.mroIn K x9 (.ref x9) = some true)
    (tks9 : PySem.W.ks_superIn K x9 x9 "__init__" = some (some (.builtin "ValueError.__init__")))
    (tva9 : PySem.W.subIn K (.ref x9) (.type "ValueError") = some true)
    (aW : PySem.W.nsIn K mainGlobals "WIDTHS" = some (some (.ref WD)))
    (lW : K.lookup WD = some ⟨.type "dict", none, .dict #[⟨hh0, .str "cancel" ta0, .int 2 tb0⟩, ⟨hh1, .str "swap" ta1, .int 2 tb1⟩, ⟨hh2, .str "braid" ta2, .int 3 tb2⟩] wn, #[]⟩)
    (hb0 : hh0 = PyData.keyHash w.params "cancel")
    (hb1 : hh1 = PyData.keyHash w.params "swap")
    (hb2 : hh2 = PyData.keyHash w.params "braid")
    (hWs : (WD == sysModules) = false) (own : LamX.OwnTab K fa h) :
    LamX.LawAtS l w K CX0 64 63 "_law_script" mg fa h := by
  have e := hfa.symm.trans (PySem.W.mg_of X G a25)
  cases e
  have F0 := fun_mk (st := s_is_letter) l0 c0 k0
  have d_is_letter : D K mg "is_letter" s_is_letter ["number"] _ _ := ⟨F0, F0.binds (ps := ["number"]) fun _ _ _ _ _ _ us hl => match us, hl with | [_], _ => rfl, PySem.W.mg_of X G a0⟩
  have F1 := fun_mk (st := s_with_sign) l1 c1 k1
  have d_with_sign : D K mg "with_sign" s_with_sign ["magnitude", "letter"] _ _ := ⟨F1, F1.binds (ps := ["magnitude", "letter"]) fun _ _ _ _ _ _ us hl => match us, hl with | [_, _], _ => rfl, PySem.W.mg_of X G a1⟩
  have F2 := fun_mk (st := s__law_sign) l2 c2 k2
  have d__law_sign : D K mg "_law_sign" s__law_sign ["_law_number"] _ _ := ⟨F2, F2.binds (ps := ["_law_number"]) fun _ _ _ _ _ _ us hl => match us, hl with | [_], _ => rfl, PySem.W.mg_of X G a2⟩
  have F3 := fun_mk (st := s__law_braided) l3 c3 k3
  have d__law_braided : D K mg "_law_braided" s__law_braided ["_law_first", "_law_second", "_law_third"] _ _ := ⟨F3, F3.binds (ps := ["_law_first", "_law_second", "_law_third"]) fun _ _ _ _ _ _ us hl => match us, hl with | [_, _, _], _ => rfl, PySem.W.mg_of X G a3⟩
  have F4 := fun_mk (st := s_are_letters) l4 c4 k4
  have d_are_letters : D K mg "are_letters" s_are_letters ["numbers"] _ _ := ⟨F4, F4.binds (ps := ["numbers"]) fun _ _ _ _ _ _ us hl => match us, hl with | [_], _ => rfl, PySem.W.mg_of X G a4⟩
  have F5 := fun_mk (st := s_check_word) l5 c5 k5
  have d_check_word : D K mg "check_word" s_check_word ["word"] _ _ := ⟨F5, F5.binds (ps := ["word"]) fun _ _ _ _ _ _ us hl => match us, hl with | [_], _ => rfl, PySem.W.mg_of X G a5⟩
  have F6 := fun_mk (st := s__law_draws) l6 c6 k6
  have d__law_draws : D K mg "_law_draws" s__law_draws ["_law_script"] _ _ := ⟨F6, F6.binds (ps := ["_law_script"]) fun _ _ _ _ _ _ us hl => match us, hl with | [_], _ => rfl, PySem.W.mg_of X G a6⟩
  have F7 := fun_mk (st := s__law_draw) l7 c7 k7
  have d__law_draw : D K mg "_law_draw" s__law_draw ["_law_rng", "_law_amount"] _ _ := ⟨F7, F7.binds (ps := ["_law_rng", "_law_amount"]) fun _ _ _ _ _ _ us hl => match us, hl with | [_, _], _ => rfl, PySem.W.mg_of X G a7⟩
  have F8 := fun_mk (st := s__law_pick) l8 c8 k8
  have d__law_pick : D K mg "_law_pick" s__law_pick ["_law_rng", "_law_terms"] _ _ := ⟨F8, F8.binds (ps := ["_law_rng", "_law_terms"]) fun _ _ _ _ _ _ us hl => match us, hl with | [_, _], _ => rfl, PySem.W.mg_of X G a8⟩
  have F9 := fun_mk (st := s__law_same) l9 c9 k9
  have d__law_same : D K mg "_law_same" s__law_same ["_law_result", "_law_expected_here"] _ _ := ⟨F9, F9.binds (ps := ["_law_result", "_law_expected_here"]) fun _ _ _ _ _ _ us hl => match us, hl with | [_, _], _ => rfl, PySem.W.mg_of X G a9⟩
  have F10 := fun_mk (st := s__law_error_name) l10 c10 k10
  have d__law_error_name : D K mg "_law_error_name" s__law_error_name ["_law_e"] _ _ := ⟨F10, F10.binds (ps := ["_law_e"]) fun _ _ _ _ _ _ us hl => match us, hl with | [_], _ => rfl, PySem.W.mg_of X G a10⟩
  have F11 := fun_mk (st := s__law_error_field) l11 c11 k11
  have d__law_error_field : D K mg "_law_error_field" s__law_error_field ["_law_e", "_law_word"] _ _ := ⟨F11, F11.binds (ps := ["_law_e", "_law_word"]) fun _ _ _ _ _ _ us hl => match us, hl with | [_, _], _ => rfl, PySem.W.mg_of X G a11⟩
  have F12 := fun_mk (st := s__law_any_word) l12 c12 k12
  have d__law_any_word : D K mg "_law_any_word" s__law_any_word ["_law_rng", "_law_top", "_law_wide"] _ _ := ⟨F12, F12.binds (ps := ["_law_rng", "_law_top", "_law_wide"]) fun _ _ _ _ _ _ us hl => match us, hl with | [_, _, _], _ => rfl, PySem.W.mg_of X G a12⟩
  have F13 := fun_mk (st := s__law_invalid_word) l13 c13 k13
  have d__law_invalid_word : D K mg "_law_invalid_word" s__law_invalid_word ["_law_rng"] _ _ := ⟨F13, F13.binds (ps := ["_law_rng"]) fun _ _ _ _ _ _ us hl => match us, hl with | [_], _ => rfl, PySem.W.mg_of X G a13⟩
  have F14 := fun_mk (st := s__law_move) l14 c14 k14
  have d__law_move : D K mg "_law_move" s__law_move ["_law_row", "_law_move_here"] _ _ := ⟨F14, F14.binds (ps := ["_law_row", "_law_move_here"]) fun _ _ _ _ _ _ us hl => match us, hl with | [_, _], _ => rfl, PySem.W.mg_of X G a14⟩
  have F15 := fun_mk (st := s__law_moves) l15 c15 k15
  have d__law_moves : D K mg "_law_moves" s__law_moves ["_law_row"] _ _ := ⟨F15, F15.binds (ps := ["_law_row"]) fun _ _ _ _ _ _ us hl => match us, hl with | [_], _ => rfl, PySem.W.mg_of X G a15⟩
  have F16 := fun_mk (st := s_braided) l16 c16 k16
  have d_braided : D K mg "braided" s_braided ["letters"] _ _ := ⟨F16, F16.binds (ps := ["letters"]) fun _ _ _ _ _ _ us hl => match us, hl with | [_], _ => rfl, PySem.W.mg_of X G a16⟩
  have F17 := fun_mk (st := s_replaced_by) l17 c17 k17
  have d_replaced_by : D K mg "replaced_by" s_replaced_by ["name", "letters"] _ _ := ⟨F17, F17.binds (ps := ["name", "letters"]) fun _ _ _ _ _ _ us hl => match us, hl with | [_, _], _ => rfl, PySem.W.mg_of X G a17⟩
  have F18 := fun_mk (st := s_insertion_of) l18 c18 k18
  have d_insertion_of : D K mg "insertion_of" s_insertion_of ["letters", "move"] _ _ := ⟨F18, F18.binds (ps := ["letters", "move"]) fun _ _ _ _ _ _ us hl => match us, hl with | [_, _], _ => rfl, PySem.W.mg_of X G a18⟩
  have F19 := fun_mk (st := s_change_of) l19 c19 k19
  have d_change_of : D K mg "change_of" s_change_of ["letters", "move"] _ _ := ⟨F19, F19.binds (ps := ["letters", "move"]) fun _ _ _ _ _ _ us hl => match us, hl with | [_, _], _ => rfl, PySem.W.mg_of X G a19⟩
  have F20 := fun_mk (st := s_apply_moves) l20 c20 k20
  have d_apply_moves : D K mg "apply_moves" s_apply_moves ["word", "moves"] _ _ := ⟨F20, F20.binds (ps := ["word", "moves"]) fun _ _ _ _ _ _ us hl => match us, hl with | [_, _], _ => rfl, PySem.W.mg_of X G a20⟩
  have F21 := fun_mk (st := s__law_long_word) l21 c21 k21
  have d__law_long_word : D K mg "_law_long_word" s__law_long_word ["_law_rng"] _ _ := ⟨F21, F21.binds (ps := ["_law_rng"]) fun _ _ _ _ _ _ us hl => match us, hl with | [_], _ => rfl, PySem.W.mg_of X G a21⟩
  have F22 := fun_mk (st := s__law_expected) l22 c22 k22
  have d__law_expected : D K mg "_law_expected" s__law_expected ["_law_row", "_law_moves_here"] _ _ := ⟨F22, F22.binds (ps := ["_law_row", "_law_moves_here"]) fun _ _ _ _ _ _ us hl => match us, hl with | [_, _], _ => rfl, PySem.W.mg_of X G a22⟩
  have F23 := fun_mk (st := s__law_invalid_move) l23 c23 k23
  have d__law_invalid_move : D K mg "_law_invalid_move" s__law_invalid_move ["_law_rng", "_law_row"] _ _ := ⟨F23, F23.binds (ps := ["_law_rng", "_law_row"]) fun _ _ _ _ _ _ us hl => match us, hl with | [_, _], _ => rfl, PySem.W.mg_of X G a23⟩
  have F24 := fun_mk (st := s__law_try) l24 c24 k24
  have d__law_try : D K mg "_law_try" s__law_try ["_law_ask"] _ _ := ⟨F24, F24.binds (ps := ["_law_ask"]) fun _ _ _ _ _ _ us hl => match us, hl with | [_], _ => rfl, PySem.W.mg_of X G a24⟩
  have B : Blt mg := ⟨PySem.W.mg_none_of X G z_len, PySem.W.mg_none_of X G z_list, PySem.W.mg_none_of X G z_tuple, PySem.W.mg_none_of X G z_dict, PySem.W.mg_none_of X G z_bool, PySem.W.mg_none_of X G z_isinstance, PySem.W.mg_none_of X G z_max, PySem.W.mg_none_of X G z_min, PySem.W.mg_none_of X G z_range, PySem.W.mg_none_of X G z_all, PySem.W.mg_none_of X G z_sorted, PySem.W.mg_none_of X G z_enumerate, PySem.W.mg_none_of X G z_sum, PySem.W.mg_none_of X G z_str, PySem.W.mg_none_of X G z_int⟩
  have M : Errs mg (fun i => [x0, x1, x2, x3, x4, x5, x6, x7, x8, x9, x10, x11, x12, x13, x14, x15, x16, x17, x18, x19].getD i 0) := fun i hi => by
    match i, hi with
    | 0, _ => exact PySem.W.mg_of X G ax0
    | 1, _ => exact PySem.W.mg_of X G ax1
    | 2, _ => exact PySem.W.mg_of X G ax2
    | 3, _ => exact PySem.W.mg_of X G ax3
    | 4, _ => exact PySem.W.mg_of X G ax4
    | 5, _ => exact PySem.W.mg_of X G ax5
    | 6, _ => exact PySem.W.mg_of X G ax6
    | 7, _ => exact PySem.W.mg_of X G ax7
    | 8, _ => exact PySem.W.mg_of X G ax8
    | 9, _ => exact PySem.W.mg_of X G ax9
    | 10, _ => exact PySem.W.mg_of X G ax10
    | 11, _ => exact PySem.W.mg_of X G ax11
    | 12, _ => exact PySem.W.mg_of X G ax12
    | 13, _ => exact PySem.W.mg_of X G ax13
    | 14, _ => exact PySem.W.mg_of X G ax14
    | 15, _ => exact PySem.W.mg_of X G ax15
    | 16, _ => exact PySem.W.mg_of X G ax16
    | 17, _ => exact PySem.W.mg_of X G ax17
    | 18, _ => exact PySem.W.mg_of X G ax18
    | 19, _ => exact PySem.W.mg_of X G ax19
    | (k + 20), hi => exact absurd hi (by omega)
  have hI8 : Isw K (fun i => [x0, x1, x2, x3, x4, x5, x6, x7, x8, x9, x10, x11, x12, x13, x14, x15, x16, x17, x18, x19].getD i 0) x8 8 := ⟨by decide, fun i hi => by
    match i, hi with
    | 0, _ => exact kit_own kn8_0 ki0 ky0 ks8_0
    | 1, _ => exact kit_own kn8_1 ki1 ky1 ks8_1
    | 2, _ => exact kit_own kn8_2 ki2 ky2 ks8_2
    | 3, _ => exact kit_own kn8_3 ki3 ky3 ks8_3
    | 4, _ => exact kit_own kn8_4 ki4 ky4 ks8_4
    | 5, _ => exact kit_own kn8_5 ki5 ky5 ks8_5
    | 6, _ => exact kit_own kn8_6 ki6 ky6 ks8_6
    | 7, _ => exact kit_own kn8_7 ki7 ky7 ks8_7
    | 8, _ => exact if_pos (beq_self_eq_true _)
    | 9, _ => exact kit_own kn8_9 ki9 ky9 ks8_9
    | 10, _ => exact kit_own kn8_10 ki10 ky10 ks8_10
    | 11, _ => exact kit_own kn8_11 ki11 ky11 ks8_11
    | 12, _ => exact kit_own kn8_12 ki12 ky12 ks8_12
    | 13, _ => exact kit_own kn8_13 ki13 ky13 ks8_13
    | 14, _ => exact kit_own kn8_14 ki14 ky14 ks8_14
    | 15, _ => exact kit_own kn8_15 ki15 ky15 ks8_15
    | 16, _ => exact kit_own kn8_16 ki16 ky16 ks8_16
    | 17, _ => exact kit_own kn8_17 ki17 ky17 ks8_17
    | 18, _ => exact kit_own kn8_18 ki18 ky18 ks8_18
    | 19, _ => exact kit_own kn8_19 ki19 ky19 ks8_19
    | (k + 20), hi => exact absurd hi (by omega)⟩
  have hI9 : Isw K (fun i => [x0, x1, x2, x3, x4, x5, x6, x7, x8, x9, x10, x11, x12, x13, x14, x15, x16, x17, x18, x19].getD i 0) x9 9 := ⟨by decide, fun i hi => by
    match i, hi with
    | 0, _ => exact kit_own kn9_0 ki0 ky0 ks9_0
    | 1, _ => exact kit_own kn9_1 ki1 ky1 ks9_1
    | 2, _ => exact kit_own kn9_2 ki2 ky2 ks9_2
    | 3, _ => exact kit_own kn9_3 ki3 ky3 ks9_3
    | 4, _ => exact kit_own kn9_4 ki4 ky4 ks9_4
    | 5, _ => exact kit_own kn9_5 ki5 ky5 ks9_5
    | 6, _ => exact kit_own kn9_6 ki6 ky6 ks9_6
    | 7, _ => exact kit_own kn9_7 ki7 ky7 ks9_7
    | 8, _ => exact kit_own kn9_8 ki8 ky8 ks9_8
    | 9, _ => exact if_pos (beq_self_eq_true _)
    | 10, _ => exact kit_own kn9_10 ki10 ky10 ks9_10
    | 11, _ => exact kit_own kn9_11 ki11 ky11 ks9_11
    | 12, _ => exact kit_own kn9_12 ki12 ky12 ks9_12
    | 13, _ => exact kit_own kn9_13 ki13 ky13 ks9_13
    | 14, _ => exact kit_own kn9_14 ki14 ky14 ks9_14
    | 15, _ => exact kit_own kn9_15 ki15 ky15 ks9_15
    | 16, _ => exact kit_own kn9_16 ki16 ky16 ks9_16
    | 17, _ => exact kit_own kn9_17 ki17 ky17 ks9_17
    | 18, _ => exact kit_own kn9_18 ki18 ky18 ks9_18
    | 19, _ => exact kit_own kn9_19 ki19 ky19 ks9_19
    | (k + 20), hi => exact absurd hi (by omega)⟩
  have EC8 : ErrC K mg "InvalidWord" x8 := ⟨xq8, PySem.W.mg_of X G ax8, xkp8, xs8, ky8⟩
  have hwd : ∀ (D : Addr) (nm : Str), (if D = x8 then some (en 8) else if D = x9 then some (en 9) else none) = some nm → ∃ j, Isw K (fun i => [x0, x1, x2, x3, x4, x5, x6, x7, x8, x9, x10, x11, x12, x13, x14, x15, x16, x17, x18, x19].getD i 0) D j ∧ nm = en j := by
    intro D nm z
    by_cases e8 : D = x8
    · rw [if_pos e8] at z
      exact ⟨8, e8 ▸ hI8, (Option.some.inj z).symm⟩
    rw [if_neg e8] at z
    by_cases e9 : D = x9
    · rw [if_pos e9] at z
      exact ⟨9, e9 ▸ hI9, (Option.some.inj z).symm⟩
    rw [if_neg e9] at z
    cases z
  have ww8 : (if x8 = x8 then some (en 8) else if x8 = x9 then some (en 9) else none) = some (en 8) := by
    exact if_pos rfl
  have ww9 : (if x9 = x8 then some (en 8) else if x9 = x9 then some (en 9) else none) = some (en 9) := by
    rw [if_neg (fun z => by rw [z, beq_self_eq_true] at kn9_8; cases kn9_8)]
    exact if_pos rfl
  have xc8 : ExcC K x8 := ⟨xg8, xk8, xs8, xd8, xa8, xn, xt, xm8⟩
  have xe8 : PySem.W.exmOne K (.ref x8) (.ref CT) = some true := PySem.W.exm_ref ye yd yt ys8
  have xc9 : ExcC K x9 := ⟨xg9, xk9, xs9, xd9, xa9, xn, xt, xm9⟩
  have xe9 : PySem.W.exmOne K (.ref x9) (.ref CT) = some true := PySem.W.exm_ref ye yd yt ys9
  have hxf : ∀ (D : Addr) (nm : Str), (if D = x8 then some (en 8) else if D = x9 then some (en 9) else none) = some nm → XfC K D ∧ PySem.W.findIn K (.ref D) "position" = some none ∧ PySem.W.findIn K (.ref D) "name" = some none ∧ PySem.W.findIn K (.ref D) "size" = some none ∧ PySem.W.findIn K (.ref D) "row" = some none := by
    intro D nm z
    by_cases e8 : D = x8
    · subst e8
      exact ⟨⟨xg8, xk8, xs8, xd8⟩, xf8_position, xf8_name, xf8_size, xf8_row⟩
    rw [if_neg e8] at z
    by_cases e9 : D = x9
    · subst e9
      exact ⟨⟨xg9, xk9, xs9, xd9⟩, xf9_position, xf9_name, xf9_size, xf9_row⟩
    rw [if_neg e9] at z
    cases z
  have hdom : ∀ (D : Addr) (nm : Str), (if D = x8 then some (en 8) else if D = x9 then some (en 9) else none) = some nm → D = x8 ∨ D = x9 := by
    intro D nm z
    by_cases e8 : D = x8
    · exact .inl e8
    rw [if_neg e8] at z
    by_cases e9 : D = x9
    · exact .inr (e9)
    rw [if_neg e9] at z
    cases z
  have hne8_9 : x8 ≠ x9 := fun z => by
    rw [z, beq_self_eq_true] at kn8_9
    cases kn8_9
  have hne9_8 : x9 ≠ x8 := fun z => by
    rw [z, beq_self_eq_true] at kn9_8
    cases kn9_8
  have FL9 : FunS l.prog K mg "InvalidStep" "InvalidStep.__init__" s_ISInit ["self", "position"] x9 tf9 _ := ⟨⟨_, _, _, _, _, _, _, _, _, _, _, _, _, _, _, _, _, _, _, _, rfl, tl9, tci9, tco9, tcf9, tpf9, tce9⟩, ttop, ⟨⟨_, _, _, _, _, _, _, _, _, _, _, _, _, _, _, tlk9, tre9⟩, tsa9, xs9, ky9, tkp9⟩, tmr9, PySem.W.mg_none_of X G z_super, tany, tks9, tva9, ti9, tt9, Binds.all fun us hl => match us, hl with | [_, _], _ => rfl, PySem.W.mg_of X G ax9⟩
  have hT := own cL Pt _ _ _ _ _ _ l25 rfl rfl lC lP11
  refine ⟨PySem.W.fnOf "law" "law" (defArgs s_law) (defBody s_law) (defScope s_law) .none kV25 dc25 pm25 an25 (.ref cL) ct25, [(cL, Pt)], spLawT K Pt, ?_, ?_, ?_, fun s v => .of_eq rfl, fun H a ns hl hb hH hS => ⟨a, ns, rfl, hS, hH _ (List.mem_singleton.mpr rfl), fun _ => rfl⟩, fun base _ _ hTB => ?_⟩
  · intro p hp
    rw [List.mem_singleton.mp hp]
    exact hT
  · intro p hp
    rw [List.mem_singleton.mp hp]
    exact nP
  · intro p hp
    rw [List.mem_singleton.mp hp]
    exact PySem.W.codeHd_of_K X (codeHd_mk lC lP11 v18 v7 v9 v10 vne)
  · exact ok_law (word := (fun D => if D = x8 then some (en 8) else if D = x9 then some (en 9) else none)) l25 c25 (hTB _ (List.mem_singleton.mpr rfl)) B ⟨PySem.W.mg_none_of X G z_abs, PySem.W.mg_none_of X G z_reversed, PySem.W.mg_none_of X G z_any⟩ ⟨⟨_, PySem.W.mg_of X G q_MAX_LETTER⟩, ⟨_, PySem.W.mg_of X G q_MAX_LETTERS⟩⟩ hwd ww8 ww9 rfl hxf M xc8 xc9 xe8 xe9 EC8 FL9 xf9_position (PySem.W.mg_of X G aT) (PySem.W.mg_of X G aW) (kW_of lW hb0 hb1 hb2 hWs) d__law_draws d__law_draw d__law_pick d__law_same d__law_error_name d__law_error_field d__law_try d__law_sign d__law_any_word d__law_invalid_word d__law_braided d__law_move d__law_moves d__law_long_word d__law_expected d__law_invalid_move d_is_letter d_are_letters d_check_word d_with_sign d_braided d_replaced_by d_insertion_of d_change_of d_apply_moves
theorem walk {l : PySem.W.OpenLaw} {q : Program} {loose : List Str} {XP : (Str → Option Value) → Heap → Prop} {YP : World → Heap → Prop} {d : DefRec} {K : Params → PySem.W.Frag} (hn : l.most = some 63) (hdf : d.params.defaults = []) (hrec : ((recsOf q).any fun e => e.name == d.name) = true)
    (hY : ∀ (w : World) (h : Heap), YP w h → (K w.params).In h)
    (F : ∀ (w : World) (mg : Str → Option Value) (fa : Addr) (h : Heap), YP w h → (K w.params).In h → h.Ns mainGlobals mg → mg d.name = some (.ref fa) → LamX.OwnTab (K w.params) fa h → LamX.LawAtS l w (K w.params) CX0 64 63 "_law_script" mg fa h) :
    PySem.W.WalkO q loose XP YP l.row.toRowW d [] (fun f vs => PySem.call f vs) :=
  LamX.walk_ofOwn (n := 63) (k := 64) (x := "_law_script") (CX := fun _ => CX0) hn (by decide) hdf ⟨rfl, by decide, by decide⟩ hrec hY F fun _ _ _ _ _ z => z
end U
open PySem PySem.W PyProof.Rows
set_option maxRecDepth 100000 in
set_option maxHeartbeats 0 in
theorem PySem.Challenge.cw_uponboth_k18_moves_holds : PySem.Challenge.rw_uponboth_k18_moves.Holds := by
  w_on; o_law; k_head; (case hw => w_witness2)
  k_fill
  refine U.walk (l := PySem.Challenge.rw_uponboth_k18_moves) rfl rfl ?hrec (fun w h Y => PySem.W.km_in_of Y) ?F
  case hrec => decide +kernel
  case F =>
    intro w mg fa h Y KX G hmg own
    refine' U.all_mk KX G hmg ?a0 ?l0 ?c0 ?k0 ?a1 ?l1 ?c1 ?k1 ?a2 ?l2 ?c2 ?k2 ?a3 ?l3 ?c3 ?k3 ?a4 ?l4 ?c4 ?k4 ?a5 ?l5 ?c5 ?k5 ?a6 ?l6 ?c6 ?k6 ?a7 ?l7 ?c7 ?k7 ?a8 ?l8 ?c8 ?k8 ?a9 ?l9 ?c9 ?k9 ?a10 ?l10 ?c10 ?k10 ?a11 ?l11 ?c11 ?k11 ?a12 ?l12 ?c12 ?k12 ?a13 ?l13 ?c13 ?k13 ?a14 ?l14 ?c14 ?k14 ?a15 ?l15 ?c15 ?k15 ?a16 ?l16 ?c16 ?k16 ?a17 ?l17 ?c17 ?k17 ?a18 ?l18 ?c18 ?k18 ?a19 ?l19 ?c19 ?k19 ?a20 ?l20 ?c20 ?k20 ?a21 ?l21 ?c21 ?k21 ?a22 ?l22 ?c22 ?k22 ?a23 ?l23 ?c23 ?k23 ?a24 ?l24 ?c24 ?k24 ?a25 ?l25 ?c25 ?k25 ?z_len ?z_list ?z_tuple ?z_dict ?z_bool ?z_isinstance ?z_max ?z_min ?z_range ?z_all ?z_sorted ?z_enumerate ?z_sum ?z_str ?z_int ?z_abs ?z_reversed ?z_any ?q_MAX_LETTER ?q_MAX_LETTERS ?lC ?lP11 ?nP ?v18 ?v7 ?v9 ?v10 ?vne ?aT ?ax0 ?ax1 ?ax2 ?ax3 ?ax4 ?ax5 ?ax6 ?ax7 ?ax8 ?ax9 ?ax10 ?ax11 ?ax12 ?ax13 ?ax14 ?ax15 ?ax16 ?ax17 ?ax18 ?ax19 ?ki0 ?ky0 ?ki1 ?ky1 ?ki2 ?ky2 ?ki3 ?ky3 ?ki4 ?ky4 ?ki5 ?ky5 ?ki6 ?ky6 ?ki7 ?ky7 ?ki8 ?ky8 ?ki9 ?ky9 ?ki10 ?ky10 ?ki11 ?ky11 ?ki12 ?ky12 ?ki13 ?ky13 ?ki14 ?ky14 ?ki15 ?ky15 ?ki16 ?ky16 ?ki17 ?ky17 ?ki18 ?ky18 ?ki19 ?ky19 ?xn ?xt ?ye ?yd ?yt ?kn8_0 ?ks8_0 ?kn8_1 ?ks8_1 ?kn8_2 ?ks8_2 ?kn8_3 ?ks8_3 ?kn8_4 ?ks8_4 ?kn8_5 ?ks8_5 ?kn8_6 ?ks8_6 ?kn8_7 ?ks8_7 ?kn8_9 ?ks8_9 ?kn8_10 ?ks8_10 ?kn8_11 ?ks8_11 ?kn8_12 ?ks8_12 ?kn8_13 ?ks8_13 ?kn8_14 ?ks8_14 ?kn8_15 ?ks8_15 ?kn8_16 ?ks8_16 ?kn8_17 ?ks8_17 ?kn8_18 ?ks8_18 ?kn8_19 ?ks8_19 ?xg8 ?xk8 ?xd8 ?xa8 ?xm8 ?ys8 ?kn9_0 ?ks9_0 ?kn9_1 ?ks9_1 ?kn9_2 ?ks9_2 ?kn9_3 ?ks9_3 ?kn9_4 ?ks9_4 ?kn9_5 ?ks9_5 ?kn9_6 ?ks9_6 ?kn9_7 ?ks9_7 ?kn9_8 ?ks9_8 ?kn9_10 ?ks9_10 ?kn9_11 ?ks9_11 ?kn9_12 ?ks9_12 ?kn9_13 ?ks9_13 ?kn9_14 ?ks9_14 ?kn9_15 ?ks9_15 ?kn9_16 ?ks9_16 ?kn9_17 ?ks9_17 ?kn9_18 ?ks9_18 ?kn9_19 ?ks9_19 ?xg9 ?xk9 ?xd9 ?xa9 ?xm9 ?ys9 ?xs8 ?xs9 ?xq8 ?xkp8 ?xf8_position ?xf8_name ?xf8_size ?xf8_row ?xf9_position ?xf9_name ?xf9_size ?xf9_row ?z_super ?tany ?ttop ?ti9 ?tt9 ?tl9 ?tci9 ?tco9 ?tcf9 ?tpf9 ?tce9 ?tlk9 ?tre9 ?tsa9 ?tkp9 ?tmr9 ?tks9 ?tva9 ?aW ?lW ?hb0 ?hb1 ?hb2 ?hWs own
    (case a0 => k_is)
    (case l0 => k_is)
    (case c0 => k_is)
    (case k0 => k_is)
    (case a1 => k_is)
    (case l1 => k_is)
    (case c1 => k_is)
    (case k1 => k_is)
    (case a2 => k_is)
    (case l2 => k_is)
    (case c2 => k_is)
    (case k2 => k_is)
    (case a3 => k_is)
    (case l3 => k_is)
    (case c3 => k_is)
    (case k3 => k_is)
    (case a4 => k_is)
    (case l4 => k_is)
    (case c4 => k_is)
    (case k4 => k_is)
    (case a5 => k_is)
    (case l5 => k_is)
    (case c5 => k_is)
    (case k5 => k_is)
    (case a6 => k_is)
    (case l6 => k_is)
    (case c6 => k_is)
    (case k6 => k_is)
    (case a7 => k_is)
    (case l7 => k_is)
    (case c7 => k_is)
    (case k7 => k_is)
    (case a8 => k_is)
    (case l8 => k_is)
    (case c8 => k_is)
    (case k8 => k_is)
    (case a9 => k_is)
    (case l9 => k_is)
    (case c9 => k_is)
    (case k9 => k_is)
    (case a10 => k_is)
    (case l10 => k_is)
    (case c10 => k_is)
    (case k10 => k_is)
    (case a11 => k_is)
    (case l11 => k_is)
    (case c11 => k_is)
    (case k11 => k_is)
    (case a12 => k_is)
    (case l12 => k_is)
    (case c12 => k_is)
    (case k12 => k_is)
    (case a13 => k_is)
    (case l13 => k_is)
    (case c13 => k_is)
    (case k13 => k_is)
    (case a14 => k_is)
    (case l14 => k_is)
    (case c14 => k_is)
    (case k14 => k_is)
    (case a15 => k_is)
    (case l15 => k_is)
    (case c15 => k_is)
    (case k15 => k_is)
    (case a16 => k_is)
    (case l16 => k_is)
    (case c16 => k_is)
    (case k16 => k_is)
    (case a17 => k_is)
    (case l17 => k_is)
    (case c17 => k_is)
    (case k17 => k_is)
    (case a18 => k_is)
    (case l18 => k_is)
    (case c18 => k_is)
    (case k18 => k_is)
    (case a19 => k_is)
    (case l19 => k_is)
    (case c19 => k_is)
    (case k19 => k_is)
    (case a20 => k_is)
    (case l20 => k_is)
    (case c20 => k_is)
    (case k20 => k_is)
    (case a21 => k_is)
    (case l21 => k_is)
    (case c21 => k_is)
    (case k21 => k_is)
    (case a22 => k_is)
    (case l22 => k_is)
    (case c22 => k_is)
    (case k22 => k_is)
    (case a23 => k_is)
    (case l23 => k_is)
    (case c23 => k_is)
    (case k23 => k_is)
    (case a24 => k_is)
    (case l24 => k_is)
    (case c24 => k_is)
    (case k24 => k_is)
    (case a25 => k_is)
    (case l25 => k_is)
    (case c25 => k_is)
    (case k25 => k_is)
    (case z_len => k_is)
    (case z_list => k_is)
    (case z_tuple => k_is)
    (case z_dict => k_is)
    (case z_bool => k_is)
    (case z_isinstance => k_is)
    (case z_max => k_is)
    (case z_min => k_is)
    (case z_range => k_is)
    (case z_all => k_is)
    (case z_sorted => k_is)
    (case z_enumerate => k_is)
    (case z_sum => k_is)
    (case z_str => k_is)
    (case z_int => k_is)
    (case z_abs => k_is)
    (case z_reversed => k_is)
    (case z_any => k_is)
    (case q_MAX_LETTER => k_is)
    (case q_MAX_LETTERS => k_is)
    (case lC => k_is)
    (case lP11 => rfl)
    (case nP => (first | rfl | with_unfolding_all rfl | decide +revert))
    (case v18 => rfl)
    (case v7 => rfl)
    (case v9 => rfl)
    (case v10 => rfl)
    (case vne => rfl)
    (case aT => k_is)
    (case ax0 => k_is)
    (case ax1 => k_is)
    (case ax2 => k_is)
    (case ax3 => k_is)
    (case ax4 => k_is)
    (case ax5 => k_is)
    (case ax6 => k_is)
    (case ax7 => k_is)
    (case ax8 => k_is)
    (case ax9 => k_is)
    (case ax10 => k_is)
    (case ax11 => k_is)
    (case ax12 => k_is)
    (case ax13 => k_is)
    (case ax14 => k_is)
    (case ax15 => k_is)
    (case ax16 => k_is)
    (case ax17 => k_is)
    (case ax18 => k_is)
    (case ax19 => k_is)
    (case ki0 => k_is)
    (case ky0 => k_is)
    (case ki1 => k_is)
    (case ky1 => k_is)
    (case ki2 => k_is)
    (case ky2 => k_is)
    (case ki3 => k_is)
    (case ky3 => k_is)
    (case ki4 => k_is)
    (case ky4 => k_is)
    (case ki5 => k_is)
    (case ky5 => k_is)
    (case ki6 => k_is)
    (case ky6 => k_is)
    (case ki7 => k_is)
    (case ky7 => k_is)
    (case ki8 => k_is)
    (case ky8 => k_is)
    (case ki9 => k_is)
    (case ky9 => k_is)
    (case ki10 => k_is)
    (case ky10 => k_is)
    (case ki11 => k_is)
    (case ky11 => k_is)
    (case ki12 => k_is)
    (case ky12 => k_is)
    (case ki13 => k_is)
    (case ky13 => k_is)
    (case ki14 => k_is)
    (case ky14 => k_is)
    (case ki15 => k_is)
    (case ky15 => k_is)
    (case ki16 => k_is)
    (case ky16 => k_is)
    (case ki17 => k_is)
    (case ky17 => k_is)
    (case ki18 => k_is)
    (case ky18 => k_is)
    (case ki19 => k_is)
    (case ky19 => k_is)
    (case xn => k_is)
    (case xt => k_is)
    (case ye => k_is)
    (case yd => k_is)
    (case yt => k_is)
    (case kn8_0 => rfl)
    (case ks8_0 => k_is)
    (case kn8_1 => rfl)
    (case ks8_1 => k_is)
    (case kn8_2 => rfl)
    (case ks8_2 => k_is)
    (case kn8_3 => rfl)
    (case ks8_3 => k_is)
    (case kn8_4 => rfl)
    (case ks8_4 => k_is)
    (case kn8_5 => rfl)
    (case ks8_5 => k_is)
    (case kn8_6 => rfl)
    (case ks8_6 => k_is)
    (case kn8_7 => rfl)
    (case ks8_7 => k_is)
    (case kn8_9 => rfl)
    (case ks8_9 => k_is)
    (case kn8_10 => rfl)
    (case ks8_10 => k_is)
    (case kn8_11 => rfl)
    (case ks8_11 => k_is)
    (case kn8_12 => rfl)
    (case ks8_12 => k_is)
    (case kn8_13 => rfl)
    (case ks8_13 => k_is)
    (case kn8_14 => rfl)
    (case ks8_14 => k_is)
    (case kn8_15 => rfl)
    (case ks8_15 => k_is)
    (case kn8_16 => rfl)
    (case ks8_16 => k_is)
    (case kn8_17 => rfl)
    (case ks8_17 => k_is)
    (case kn8_18 => rfl)
    (case ks8_18 => k_is)
    (case kn8_19 => rfl)
    (case ks8_19 => k_is)
    (case xg8 => k_is)
    (case xk8 => k_is)
    (case xd8 => k_is)
    (case xa8 => k_is)
    (case xm8 => k_is)
    (case ys8 => k_is)
    (case kn9_0 => rfl)
    (case ks9_0 => k_is)
    (case kn9_1 => rfl)
    (case ks9_1 => k_is)
    (case kn9_2 => rfl)
    (case ks9_2 => k_is)
    (case kn9_3 => rfl)
    (case ks9_3 => k_is)
    (case kn9_4 => rfl)
    (case ks9_4 => k_is)
    (case kn9_5 => rfl)
    (case ks9_5 => k_is)
    (case kn9_6 => rfl)
    (case ks9_6 => k_is)
    (case kn9_7 => rfl)
    (case ks9_7 => k_is)
    (case kn9_8 => rfl)
    (case ks9_8 => k_is)
    (case kn9_10 => rfl)
    (case ks9_10 => k_is)
    (case kn9_11 => rfl)
    (case ks9_11 => k_is)
    (case kn9_12 => rfl)
    (case ks9_12 => k_is)
    (case kn9_13 => rfl)
    (case ks9_13 => k_is)
    (case kn9_14 => rfl)
    (case ks9_14 => k_is)
    (case kn9_15 => rfl)
    (case ks9_15 => k_is)
    (case kn9_16 => rfl)
    (case ks9_16 => k_is)
    (case kn9_17 => rfl)
    (case ks9_17 => k_is)
    (case kn9_18 => rfl)
    (case ks9_18 => k_is)
    (case kn9_19 => rfl)
    (case ks9_19 => k_is)
    (case xg9 => k_is)
    (case xk9 => k_is)
    (case xd9 => k_is)
    (case xa9 => k_is)
    (case xm9 => k_is)
    (case ys9 => k_is)
    (case xs8 => k_is)
    (case xs9 => k_is)
    (case xq8 => k_exc)
    (case xkp8 => k_is)
    (case xf8_position => k_is)
    (case xf8_name => k_is)
    (case xf8_size => k_is)
    (case xf8_row => k_is)
    (case xf9_position => k_is)
    (case xf9_name => k_is)
    (case xf9_size => k_is)
    (case xf9_row => k_is)
    (case z_super => k_is)
    (case tany => k_is)
    (case ttop => (first | rfl | decide +kernel))
    (case ti9 => k_is)
    (case tt9 => k_is)
    (case tl9 => k_is)
    (case tci9 => k_is)
    (case tco9 => k_is)
    (case tcf9 => rfl)
    (case tpf9 => (first | rfl | decide +kernel))
    (case tce9 => k_is)
    (case tlk9 => k_is)
    (case tre9 => rfl)
    (case tsa9 => k_is)
    (case tkp9 => k_is)
    (case tmr9 => k_is)
    (case tks9 => ks_is)
    (case tva9 => k_is)
    (case aW => k_is)
    (case lW => k_is)
    (case hb0 => rfl)
    (case hb1 => rfl)
    (case hb2 => rfl)
    (case hWs => (first | rfl | decide +kernel))
