import PyProof.Rows.All
import Wide.All
import OpenK.AllK
import Wide.FinOn
import HandS.Base
import HandS.Call
import HandS.List
import HandS.Comp
import HandS.Ends
import HandS.Words
import HandS.WordsList
import HandS.IsInst
import HandS.Codes
import HandS.ForMost
import HandS.ForExc
import HandS.FStr
import HandS.Style
import HandS.Hot
import HandS.HotCalls
import HandS.Lambda
import HandS.ExcIs
import HandS.Rev
import HandS.More
import HandS.StrMore
import PyProof.StrBlock2
import PyProof.FactsAll.list_3
import HandS.TupAny
import HandS.TupMul
import HandS.Defaults
import KE.KRevSl
import KE.KDflt
import KE.GoesMore
import HandS.EndTab
import HandS.EndOwn
import KE.KNestM
import PySem.Challenge.RW_uponboth_k05_number_of_terms
set_option Elab.async false
set_option linter.all false
set_option maxRecDepth 100000
set_option maxHeartbeats 4000000
namespace U
open PySem L2
/-! ### what stands behind the top: a def by its name; the built-in names -/
structure D (K : PySem.W.Frag) (mg : Str → Option Value) (x : Str) (st : Stmt) (ps : List Str) (f : Addr) (fd : FuncData) : Prop where
  F : Fun K x x st f fd
  b : Binds K fd ps []
  m : mg x = some (.ref f)

/-! ### trees -/
inductive Tree where
  | L
  | N (l r : Tree)
namespace Tree
def sz : Tree → Nat
  | L => 1
  | N l r => sz l + sz r
def dp : Tree → Nat
  | L => 0
  | N l r => max (dp l) (dp r) + 1
def d : Tree → PyData
  | L => .tuple []
  | N l r => .tuple [d l, d r]
theorem sz_pos : ∀ t : Tree, 0 < t.sz
  | L => Nat.zero_lt_one
  | N l r => by
    have h := sz_pos l
    show 0 < l.sz + r.sz
    omega
theorem d_lay : ∀ t : Tree, t.d.canLay0 = true
  | L => rfl
  | N l r => by
    show ((PyData.canLay0 l.d) && ((PyData.canLay0 r.d) && true)) = true
    rw [d_lay l, d_lay r]
    rfl
theorem d_depth : ∀ t : Tree, t.d.depth = t.dp + 1
  | L => rfl
  | N l r => by
    show max l.d.depth (max r.d.depth 0) + 1 = max l.dp r.dp + 1 + 1
    rw [d_depth l, d_depth r]
    omega
theorem shaped {t : Tree} (h : t.dp ≤ 63) : SeqAt.shaped t.d = true := by
  unfold SeqAt.shaped
  rw [d_lay, d_depth, decide_eq_true (by omega)]
  rfl
def isL : Tree → Bool
  | L => true
  | N _ _ => false
theorem eqvL (t : Tree) : PyData.eqv t.d (.tuple []) = t.isL := by cases t <;> rfl
end Tree
abbrev TA (K : PySem.W.Frag) (H : Hp) (v : V) (t : Tree) : Prop := Dp K H v t.d
theorem shapedE : SeqAt.shaped (.tuple []) = true := by decide +kernel

/-! ### heaps: what is a tuple stays one -/
def Tp (H H' : Hp) : Prop := ∀ b xs, Rd H b (.tup xs) → Rd H' b (.tup xs)
theorem Tp.refl (H : Hp) : Tp H H := fun _ _ h => h
theorem Tp.trans {H H1 H2 : Hp} (a : Tp H H1) (b : Tp H1 H2) : Tp H H2 := fun c o h => b c o (a c o h)
theorem Tp.same {H H' : Hp} (e : Same H H') : Tp H H' := fun b xs h => by
  rcases h with h | ⟨o, h⟩
  · exact .inl (e _ _ h)
  · exact .inr ⟨o, e _ _ h⟩
def But (r : Addr) (H H' : Hp) : Prop := ∀ b o, b ≠ r → H b = some o → H' b = some o
theorem But.trans {r : Addr} {H H1 H2 : Hp} (a : But r H H1) (b : But r H1 H2) : But r H H2 := fun c o n h => b c o n (a c o n h)
theorem But.same {r : Addr} {H H' : Hp} (e : Same H H') : But r H H' := fun b o _ h => e b o h
theorem But.set {r : Addr} {H : Hp} {o : HO} : But r H (upd H r o) := fun b z n h => by rw [upd_ne n]; exact h
theorem Tp.but {r : Addr} {H H' : Hp} {ys : List V} (hr : H r = some (.lst ys)) (e : But r H H') : Tp H H' := fun b xs h => by
  rcases h with h | ⟨o, h⟩
  · exact .inl (e _ _ (ne_of h hr (by intro z; cases z)) h)
  · exact .inr ⟨o, e _ _ (ne_of h hr (by intro z; cases z)) h⟩
theorem Same.new {H : Hp} {p : Addr} (h : H p = none) (o : HO) : Same H (upd H p o) := fun b u q => by rw [upd_ne (ne_of_none q h)]; exact q
theorem Tp.sqT {K : PySem.W.Frag} {H H' : Hp} {a : Addr} {xs : List V} (e : Tp H H') (h : SqT K H a xs) : SqT K H' a xs := by
  rcases h with h | h
  · exact .inl (e _ _ h)
  · exact .inr h
theorem SqT.here {K : PySem.W.Frag} {H : Hp} {a : Addr} {xs : List V} (h : H a = some (.tup xs)) : SqT K H a xs := .inl (.inl h)
theorem SqL.here {K : PySem.W.Frag} {H : Hp} {a : Addr} {xs : List V} (h : H a = some (.lst xs)) : SqL K H a xs := .inl (.inl h)

section
variable {K : PySem.W.Frag} {H H' : Hp}
theorem ta_leaf {a : Addr} (h : SqT K H a []) : TA K H (.ref a) .L := Dp.tup h .nil
theorem ta_node {a : Addr} {x y : V} {l r : Tree} (h : SqT K H a [x, y]) (hl : TA K H x l) (hr : TA K H y r) : TA K H (.ref a) (.N l r) := Dp.tup h (.cons hl (.cons hr .nil))
theorem ta_invL {v : V} (h : TA K H v .L) : ∃ a, v = .ref a ∧ SqT K H a [] := by
  cases h with
  | tup hs ha =>
    cases ha
    exact ⟨_, rfl, hs⟩
theorem ta_invN {v : V} {l r : Tree} (h : TA K H v (.N l r)) : ∃ a x y, v = .ref a ∧ SqT K H a [x, y] ∧ TA K H x l ∧ TA K H y r := by
  cases h with
  | tup hs ha =>
    cases ha with
    | cons h1 h2 =>
      cases h2 with
      | cons h3 h4 =>
        cases h4
        exact ⟨_, _, _, rfl, hs, h1, h3⟩
theorem ta_inv : ∀ {v : V} {t : Tree}, TA K H v t → ∃ a xs, v = .ref a ∧ SqT K H a xs
  | _, .L, h => by
    obtain ⟨a, e, q⟩ := ta_invL h
    exact ⟨a, _, e, q⟩
  | _, .N _ _, h => by
    obtain ⟨a, x, y, e, q, _⟩ := ta_invN h
    exact ⟨a, _, e, q⟩
theorem ta_mono (e : Tp H H') : ∀ {t : Tree} {v : V}, TA K H v t → TA K H' v t
  | .L, v, h => by
    obtain ⟨a, rfl, q⟩ := ta_invL h
    exact ta_leaf (e.sqT q)
  | .N l r, v, h => by
    obtain ⟨a, x, y, rfl, q, h1, h2⟩ := ta_invN h
    exact ta_node (e.sqT q) (ta_mono e h1) (ta_mono e h2)
mutual
theorem dp_same (e : Same H H') : ∀ (d : PyData) {v : V}, Dp K H v d → Dp K H' v d
  | .none, _, h => by
    cases h
    exact .non
  | .bool b, _, h => by
    cases h
    exact .bl b
  | .int i, _, h => by
    cases h
    exact .int i
  | .str x, _, h => by
    cases h
    exact .str x
  | .list ds, _, h => by
    cases h with
    | lst hs ha => exact .lst (e.seq hs) (dp_sameAll e ds ha)
  | .tuple ds, _, h => by
    cases h with
    | tup hs ha => exact .tup ((Tp.same e).sqT hs) (dp_sameAll e ds ha)
  | .dict _, _, h => by cases h
theorem dp_sameAll (e : Same H H') : ∀ (ds : List PyData) {vs : List V}, DpAll K H vs ds → DpAll K H' vs ds
  | [], _, h => by
    cases h
    exact .nil
  | d :: ds, _, h => by
    cases h with
    | cons h1 h2 => exact .cons (dp_same e d h1) (dp_sameAll e ds h2)
end
end
theorem one_le : 1 ≤ sizeLine := by decide
theorem two_le : 2 ≤ sizeLine := by decide
theorem zero_le' : 0 ≤ sizeLine := by decide
theorem four_le : 4 ≤ sizeLine := by decide
theorem ite_eq {b c : Bool} {A B : Prop} (e : b = c) (h : if c = true then A else B) : if b = true then A else B := e ▸ h
theorem ite_yes {b : Bool} {A B : Prop} (e : b = true) (h : A) : if b = true then A else B := by rw [if_pos e]; exact h
theorem ite_no {b : Bool} {A B : Prop} (e : b = false) (h : B) : if b = true then A else B := by rw [e]; exact iteF h
theorem tyx_tup {K : PySem.W.Frag} {H : Hp} {a : Addr} {xs : List V} (h : SqT K H a xs) : TyX K H (.ref a) (.type "tuple") := by
  rcases h with (h | ⟨o, h⟩) | ⟨o, its, n, h, c, _⟩
  · exact .base (.tup h)
  · exact .fTuple h
  · exact .kTuple h c
theorem tyx_lst {K : PySem.W.Frag} {H : Hp} {a : Addr} {xs : List V} (h : SqL K H a xs) : TyX K H (.ref a) (.type "list") := by
  rcases h with (h | ⟨o, h⟩) | ⟨o, its, n, h, c, _⟩
  · exact .base (.lst h)
  · exact .base (.frz h)
  · exact .kList h c
def Tree.nodes : Tree → Nat
  | .L => 1
  | .N l r => l.nodes + r.nodes + 1
/-! ### enumerate(a text): each sign in a new pair -/
def ItES (z : Str) : It :=
  ⟨fun j _ => j < z.cps.size, fun j G v G' => ∃ q c, v = .ref q ∧ G q = none ∧ G' = upd G q (.tup [.int (j : Nat), .str ⟨#[c]⟩]) ∧ z.cps[j]? = some c, fun j _ => z.cps.size ≤ j⟩
theorem draws_text {Pr : Program} {wo : World} {Ar : Around} (calm : Ar.handled = none) (it : Addr) (z : Str) (tk : Tok) :
    PySem.Draws Pr wo Ar it [it] z.cps.size (fun j v => ∃ c u, z.cps[j]? = some c ∧ v = .str ⟨#[c]⟩ u) (fun j g => g.IsStrIter it (PySem.strIterType z) z tk j) := by
  unfold PySem.strIterType
  cases z.cps.all (· < 128)
  · exact PySem.Draws.strWide calm it z tk
  · exact PySem.Draws.strAscii calm it z tk
theorem turn_ES {Pr : Program} {wo : World} {Kf : PySem.W.Frag} {ts : List Expr} {nn : Nat} {tp : Pos} (en it : Addr) (z : Str) (tk : Tok) :
    Turn Pr wo Kf (.Tuple ts nn tp) (ItES z) [en, it] en (fun j g => (∃ old, PySem.IsEnum g en it ((j : Nat) : Int) old) ∧ g.IsStrIter it (PySem.strIterType z) z tk j ∧ en ≠ it ∧ j ≤ z.cps.size) where
  mem := List.mem_cons_self
  obj := fun j g st b hb => by
    obtain ⟨⟨old, h1⟩, ⟨ob, h2, h3, h4⟩, _⟩ := st
    rcases List.mem_cons.mp hb with rfl | hb
    · exact ⟨_, h1, fun v q => nomatch q⟩
    · cases List.mem_singleton.mp hb
      refine ⟨ob, h2, fun v q => ?_⟩
      rw [h4] at q
      cases q
  keep := fun j g g' st kk => by
    obtain ⟨⟨old, h1⟩, ⟨ob, h2, h3⟩, h5⟩ := st
    exact ⟨⟨old, kk en List.mem_cons_self _ h1⟩, ⟨ob, kk it (List.mem_cons_of_mem _ List.mem_cons_self) _ h2, h3⟩, h5⟩
  item := by
    intro X e1 e2 e3 calm j pins s σ G Ex inv fp st lt
    cases e1
    cases e2
    cases e3
    obtain ⟨⟨old, h1⟩, h2, ne, le⟩ := st
    have l1 : en < s.heap.objs.size := Heap.lt_size h1
    have l2 : it < s.heap.objs.size := by
      obtain ⟨_, y, _⟩ := h2
      exact Heap.lt_size y
    refine PySem.wpAny_pyNext_enum_itemD (draws_text (show X.A.in1.handled = none from inv.ok.hd calm) it z tk) h1 h2 lt ne (fun y => ne (List.mem_singleton.mp y)) fun u g' t2 hu out h2' hT sz kp => ?_
    obtain ⟨c, u', hc, rfl⟩ := hu
    refine ⟨_, rfl, PySem.wpAny_letOwnedTupleGo_enum (s := { s with heap := g', toks := t2 + 1 }) out fun g'' h1' sb => ?_⟩
    have hT' : g''.get? s.heap.objs.size = some { cls := .type "tuple", data := .seq #[.int j t2, .str ⟨#[c]⟩ u'] } := (sb.2 _ (Nat.ne_of_gt l1)).trans hT
    have made : ObjOk X.prog X.w (upd G s.heap.objs.size (.tup [.int (j : Nat), .str ⟨#[c]⟩])) g'' s.heap.objs.size (.tup [.int (j : Nat), .str ⟨#[c]⟩]) :=
      ⟨two_le, [.int j t2, .str ⟨#[c]⟩ u'], .cons ⟨_, rfl⟩ (.cons ⟨_, rfl⟩ .nil), ⟨_, hT', rfl, _, rfl⟩⟩
    have inv' : Inv X pins σ (upd G s.heap.objs.size (.tup [.int (j : Nat), .str ⟨#[c]⟩])) { s with heap := g'', toks := t2 + 1 } := by
      refine Inv.turnedNew (ch := [en, it]) inv (fun b ob nb y => ?_) fp (Nat.le_refl _) made
      have n1 : b ≠ en := fun y => nb (by rw [y]; exact List.mem_cons_self)
      have n2 : b ≠ it := fun y => nb (by rw [y]; exact List.mem_cons_of_mem _ List.mem_cons_self)
      exact (sb.2 b n1).trans (kp b ob n1 n2 y)
    refine ⟨.ref s.heap.objs.size, _, inv', rfl, ⟨_, c, rfl, inv.hok.fresh (Nat.le_refl _), rfl, hc⟩, ⟨⟨.str ⟨#[c]⟩ u', ?_⟩, ?_, ne, lt⟩, fun b hb => ?_⟩
    · rw [show (((j + 1 : Nat) : Nat) : Int) = (j : Int) + 1 by omega]
      exact h1'
    · obtain ⟨ob, y1, y2⟩ := h2'
      exact ⟨ob, (sb.2 it (Ne.symm ne)).trans y1, y2⟩
    · have lb : b < s.heap.objs.size := by
        rcases List.mem_cons.mp hb with rfl | hb
        · exact l1
        · cases List.mem_singleton.mp hb
          exact l2
      rw [upd_ne (Nat.ne_of_lt lb)]
      exact (fp b hb).1
  done := by
    intro X e1 e2 e3 calm j pins s σ G Ex inv fp st ge
    cases e1
    cases e2
    cases e3
    obtain ⟨⟨old, h1⟩, h2, ne, le⟩ := st
    have ej : j = z.cps.size := Nat.le_antisymm le ge
    subst ej
    obtain ⟨f0, f1, f2, f3, f4, f5⟩ := fp it (List.mem_cons_of_mem _ List.mem_cons_self)
    exact PySem.wpAny_pyNext_enum_endD (draws_text (show X.A.in1.handled = none from inv.ok.hd calm) it z tk) h1 h2 fun g' eb => ⟨rfl, inv.turned (t' := s.toks) (fun b o nb y => eb b o nb y) f0 f1 f3 f4 f5⟩
  self := fun Ar j s Q Ex st y => by
    obtain ⟨⟨_, h1⟩, _⟩ := st
    exact PySem.wpAny_pyIter_enum h1 y
def iES (ta : L2.TA) : TI := fun σ G R => ta σ G fun vs G1 => ∃ z : Str, vs = [.str z] ∧ R (ItES z) G1
theorem pi_ES {X : Cx} {ex : Expr} {ta : L2.TA} {p pos tp : Pos} {ts : List Expr} {nn : Nat} (gl : Gl X "enumerate") (mm : X.mg "enumerate" = none) (ha : PA X [ex] ta) (hs : starEach [ex] X.env = [(false, eval ex X.env)] := by rfl) :
    PI X (.Tuple ts nn tp) (.Call (.Name "enumerate" p) [ex] [] pos) (iES ta) := by
  refine ⟨fun pins s σ G R inv y => ?_⟩
  refine PyProof.Rows.Call_ (ld_blt inv gl mm PyProof.Rows.boot_enumerate (PyProof.Rows.callWith_type1 (thn (ha.run pos pins s σ G _ inv y) fun us s1 ⟨vs, G1, inv1, r1, q1⟩ => ?_) hs rfl))
  obtain ⟨z, rfl, q⟩ := q1
  cases r1 with
  | cons r rr =>
    cases rr
    obtain ⟨tk, rfl⟩ := r
    refine PySem.call_enumerate_str fun g' h1 h2 sz kp => PySem.wpAny_pyIter_enum h1 ?_
    refine ⟨s1.heap.objs.size + 1, [s1.heap.objs.size + 1, s1.heap.objs.size], _, _, G1, rfl, inv1.kept (t' := s1.toks) kp, turn_ES (s1.heap.objs.size + 1) s1.heap.objs.size z tk, ⟨⟨.none, h1⟩, h2, Nat.succ_ne_self _, Nat.zero_le _⟩, fun b hb => ?_, q⟩
    have ge : s1.heap.objs.size ≤ b := by
      rcases List.mem_cons.mp hb with rfl | hb
      · exact Nat.le_succ _
      · cases List.mem_singleton.mp hb
        exact Nat.le_refl _
    exact inv1.fpOk ge (inv1.hok.fresh ge)
theorem for_ES {z : Str} {g : TG} {tb : TS} {D : Ends} {σ : L2.St} {G : Hp} (Pv : Nat → L2.St → Hp → Prop) (h0 : Pv 0 σ G)
    (hs : ∀ j c σ G, z.cps[j]? = some c → Pv j σ G → ∀ q, G q = none → g (.ref q) σ (upd G q (.tup [.int (j : Nat), .str ⟨#[c]⟩])) fun σ2 G2 => tb { D with nx := Pv (j + 1), ct := Pv (j + 1), bk := D.nx } σ2 G2) (hd : ∀ σ G, Pv z.cps.size σ G → D.nx σ G) :
    ∃ Wd : Nat → Nat → L2.St → Hp → Prop, (∃ m, Wd 0 m σ G) ∧ ∀ j m σ G, Wd j m σ G →
      ((ItES z).stop j G ∧ D.nx σ G) ∨ ((ItES z).go j G ∧ ∃ Nn : L2.St → Hp → Prop, (∀ σ' G', Nn σ' G' → ∃ m', m' < m ∧ Wd (j + 1) m' σ' G') ∧ ∀ v G', (ItES z).yld j G v G' → g v σ G' fun σ2 G2 => tb { D with nx := Nn, ct := Nn, bk := D.nx } σ2 G2) := by
  refine ⟨fun j m σ G => m = z.cps.size - j ∧ j ≤ z.cps.size ∧ Pv j σ G, ⟨_, rfl, Nat.zero_le _, h0⟩, ?_⟩
  rintro j m σ G ⟨rfl, le, pv⟩
  rcases Nat.lt_or_ge j z.cps.size with lt | ge
  · refine .inr ⟨lt, Pv (j + 1), fun σ' G' y => ⟨z.cps.size - (j + 1), by omega, rfl, lt, y⟩, fun v G' y => ?_⟩
    obtain ⟨q, c, rfl, nq, rfl, hc⟩ := y
    exact hs j c σ G hc pv q nq
  · have ej : j = z.cps.size := Nat.le_antisymm le ge
    subst ej
    exact .inl ⟨Nat.le_refl _, hd σ G pv⟩
/-! ### iterators at their end while an exception is handled -/
section
variable {Pr : Program} {wo : World} {Ar : Around} {Ex : Value → Shared → Prop} {st : Shared}
open HotX
/-- a StopIteration, made and raised there: all that stood stands -/
theorem stop_hot {α : Type} {xh : Addr} {Qa : α → Shared → Prop} (hot : HotAt Ar xh st.heap) (k : ∀ g (a : Addr), (∀ b o, st.heap.get? b = some o → g.get? b = some o) → (∃ o, g.get? a = some o ∧ o.cls = .type "StopIteration") → Ex (.ref a) { st with heap := g }) :
    wpAny (model Pr wo) Ar (newExc (.type "StopIteration") [] >>= fun e => (raiseNew e : Sem α)) Qa Ex st := by
  obtain ⟨hh, oe, ve, e1, e2, e3⟩ := hot
  simp only [newExc, newTuple]
  refine wpAny_bind (wpAny_bind (wpAny_newObj_type (wpAny_bind (m := firstArgMember _ _) (wpAny_of_eq (a := Value.none) (by first | rfl | (simp only [firstArgMember]; rfl)) (wpAny_newObj_type ?_ (by size_fits)))) (by size_fits)))
  refine raiseNew_hot (x1 := xh) ⟨hh, oe, ve, Heap.get?_push_of_some _ (Heap.get?_push_of_some _ e1), e2, e3⟩ (Nat.ne_of_lt (Heap.lt_size (Heap.get?_push_of_some _ e1))) (Heap.get?_push_size _ rfl) rfl (by first | (simp; done) | (simp; omega)) ?_
  refine k _ _ (fun b o y => ?_) ⟨_, Heap.get?_update_self _ (Heap.get?_push_size _ rfl) rfl, rfl⟩
  rw [Heap.get?_update_other _ _ (Nat.ne_of_gt (Heap.lt_size (Heap.get?_push_of_some _ y)))]
  exact Heap.get?_push_of_some _ (Heap.get?_push_of_some _ y)
theorem list_end_hot {ite lis xh : Addr} {j : Nat} {its : Array Value} {Qn : Option Value → Shared → Prop} (hot : HotAt Ar xh st.heap) (nxi : xh ≠ ite) (hi : st.heap.IsListIter ite lis j) (hL : st.heap.IsList lis its) (out : its[j]? = none)
    (k : ∀ g, Heap.ExtBut ite st.heap g → Qn none { st with heap := g }) : wpAny (model Pr wo) Ar (pyNext (.ref ite)) Qn Ex st := by
  obtain ⟨oi, h1, h2, h3⟩ := id hi
  obtain ⟨ol, h4, _, nl, h5⟩ := hL
  obtain ⟨hh, oe, ve, e1, e2, e3⟩ := hot
  unfold pyNext
  refine wpAny_bind (wpAny_attempt (wpAny_callSpecial?_slot (name := Str.ofString "__next__") hi.typeIs PySem.slot_listiter_next (wpAny_call_entry PySem.slot_listiter_next hi.typeIs PySem.entry_listiter_next ?_ (PySem.args_listiter_next _))))
  show wpAny _ _ (field (.ref ite) 0 >>= _) _ _ st
  refine wpAny_bind (wpAny_field h1 h3 (x := .ref lis) rfl ?_)
  show wpAny _ _ (if (Value.ref lis == Value.none) = true then _ else _) _ _ st
  rw [if_neg (show ¬ ((Value.ref lis == Value.none) = true) from Bool.false_ne_true)]
  show wpAny _ _ (field (.ref ite) 1 >>= _) _ _ st
  refine wpAny_bind (wpAny_field h1 h3 (x := .int j 0) rfl ?_)
  show wpAny _ _ (seqItems? (.ref lis) >>= _) _ _ st
  refine wpAny_bind (wpAny_seqItems h4 h5 ?_)
  simp only [Int.toNat_natCast, out]
  refine wpAny_bind (wpAny_rule (wpAny_bind (wpAny_setField h1 h3 (by simp) ?_)))
  have hot' : HotAt Ar.in1 xh (st.heap.update ite (Obj.mapFields (·.setIfInBounds 0 Value.none))) := ⟨hh, oe, ve, by rw [Heap.get?_update_other _ _ nxi.symm]; exact e1, e2, e3⟩
  refine stop_hot hot' fun g a kp ha => ?_
  obtain ⟨oa, y1, y2⟩ := ha
  refine wpAny_bind (wpAny_isInstance (T := "StopIteration") (b := true) ⟨oa, y1, y2⟩ PySem.isSubtype_stop (wpAny_pure (k _ fun b o nb y => kp b o ?_)))
  rw [Heap.get?_update_other _ _ (Ne.symm nb)]
  exact y
theorem tuple_end_hot {ite tup xh : Addr} {j : Nat} {its : Array Value} {Qn : Option Value → Shared → Prop} (hot : HotAt Ar xh st.heap) (nxi : xh ≠ ite) (hi : PyProof.Rows.IsTupIter st.heap ite tup j) (hT : PyProof.Rows.IsTup st.heap tup its) (out : its[j]? = none)
    (k : ∀ g, Heap.ExtBut ite st.heap g → Qn none { st with heap := g }) : wpAny (model Pr wo) Ar (pyNext (.ref ite)) Qn Ex st := by
  obtain ⟨oi, h1, h2, h3⟩ := id hi
  obtain ⟨ol, h4, _, nl, h5⟩ := hT
  obtain ⟨hh, oe, ve, e1, e2, e3⟩ := hot
  unfold pyNext
  refine wpAny_bind (wpAny_attempt (wpAny_callSpecial?_slot (name := Str.ofString "__next__") hi.typeIs PySem.F.slot_tuple_iterator_next (wpAny_call_entry PySem.F.slot_tuple_iterator_next hi.typeIs PySem.F.entry_tuple_iterator_next ?_ (PySem.F.args_tuple_iterator_next_1 _))))
  show wpAny _ _ (field (.ref ite) 0 >>= _) _ _ st
  refine wpAny_bind (wpAny_field h1 h3 (x := .ref tup) rfl ?_)
  show wpAny _ _ (if (Value.ref tup == Value.none) = true then _ else _) _ _ st
  rw [if_neg (show ¬ ((Value.ref tup == Value.none) = true) from Bool.false_ne_true)]
  show wpAny _ _ (field (.ref ite) 1 >>= _) _ _ st
  refine wpAny_bind (wpAny_field h1 h3 (x := .int j 0) rfl ?_)
  show wpAny _ _ (seqItems? (.ref tup) >>= _) _ _ st
  refine wpAny_bind (wpAny_seqItems h4 h5 ?_)
  simp only [Int.toNat_natCast, out]
  refine wpAny_bind (wpAny_rule (wpAny_bind (wpAny_setField h1 h3 (by simp) ?_)))
  have hot' : HotAt Ar.in1 xh (st.heap.update ite (Obj.mapFields (·.setIfInBounds 0 Value.none))) := ⟨hh, oe, ve, by rw [Heap.get?_update_other _ _ nxi.symm]; exact e1, e2, e3⟩
  refine stop_hot hot' fun g a kp ha => ?_
  obtain ⟨oa, y1, y2⟩ := ha
  refine wpAny_bind (wpAny_isInstance (T := "StopIteration") (b := true) ⟨oa, y1, y2⟩ PySem.isSubtype_stop (wpAny_pure (k _ fun b o nb y => kp b o ?_)))
  rw [Heap.get?_update_other _ _ (Ne.symm nb)]
  exact y
/-- a, b = a tuple, there -/
theorem unpack_hot {tup xh : Addr} {its : Array Value} {Ql : List Value → Shared → Prop} (hot : HotAt Ar xh st.heap) (hT : PyProof.Rows.IsTup st.heap tup its)
    (k : ∀ g, Heap.ExtBut st.heap.objs.size st.heap g → Ql its.toList { st with heap := g }) : wpAny (model Pr wo) Ar (unpackItems (.ref tup) its.size none) Ql Ex st := by
  have nt : tup ≠ st.heap.objs.size := by
    obtain ⟨o, y, _⟩ := hT
    exact Nat.ne_of_lt (Heap.lt_size y)
  obtain ⟨hh, oe, ve, e1, e2, e3⟩ := hot
  have nx : xh ≠ st.heap.objs.size := Nat.ne_of_lt (Heap.lt_size e1)
  unfold unpackItems
  refine wpAny_bind ?_
  unfold notIterableAtAll
  refine wpAny_bind (wpAny_specialOf hT.typeIs PyProof.Rows.slot_tuple_iter.lookup (wpAny_pure ?_))
  simp only [Bool.false_eq_true, if_false]
  refine wpAny_bind (wpAny_holding (PyProof.Rows.iter_tuple hT (wpAny_bind (wpAny_holding (PyProof.Rows.draw_tuple nt its.size 0 _ _ ⟨_, Heap.get?_push_size _ rfl, rfl, rfl⟩ (hT.push _) (by omega) fun g1 hi1 sb1 => ?_)))))
  rw [show List.take its.size (List.drop 0 its.toList) = its.toList by rw [List.drop_zero]; exact List.take_of_length_le (by simp), if_neg (by simp)]
  have hT1 : PyProof.Rows.IsTup g1 tup its := (hT.push _).extBut sb1.extBut nt
  have hot1 : HotAt Ar xh g1 := ⟨hh, oe, ve, sb1.extBut _ _ nx (Heap.get?_push_of_some _ e1), e2, e3⟩
  refine wpAny_bind (wpAny_holding (tuple_end_hot (st := { st with heap := g1 }) hot1 nx hi1 hT1 (by simp) fun g2 eb2 => ?_))
  simp only [Option.isSome_none, Bool.false_eq_true, if_false]
  exact wpAny_pure (k g2 fun b o nb y => eb2 b o nb (sb1.extBut b o nb (Heap.get?_push_of_some _ y)))
end
/-! ### a context in which an exception is handled that stood when it began -/
structure HotB (X : Cx) (xh : Addr) (oh : Obj) : Prop where
  hnd : X.A.handled = some (.ref xh)
  obj : X.s_0.heap.get? xh = some oh
  dat : ∃ vs : Array Value, oh.data = .fields vs ∧ vs[2]? = some .none
  unt : X.H_0 xh = none
  nfs : xh ∉ X.fs
  nex : xh ∉ X.ex
section
variable {X : Cx} {pins : List (Addr × Obj)} {σ : L2.St} {H : Hp} {s : Shared} {xh : Addr} {oh : Obj}
theorem HotB.get (h : HotB X xh oh) (I : Inv X pins σ H s) : s.heap.get? xh = some oh := I.base.keep xh oh h.obj h.unt h.nfs h.nex
theorem HotB.hot (h : HotB X xh oh) (I : Inv X pins σ H s) : HotX.HotAt X.A xh s.heap := by
  obtain ⟨vs, d1, d2⟩ := h.dat
  exact ⟨h.hnd, oh, vs, h.get I, d1, d2⟩
theorem HotB.none (h : HotB X xh oh) (I : Inv X pins σ H s) : H xh = Option.none := I.base.free xh oh h.obj h.unt h.nex
theorem HotB.nloc (h : HotB X xh oh) (I : Inv X pins σ H s) : xh ≠ X.env.locals := fun z => by
  obtain ⟨m, ⟨o, es, ep, e1, e2, _⟩, _⟩ := I.loc
  obtain ⟨vs, d1, _⟩ := h.dat
  have g := h.get I
  rw [z, e1] at g
  cases g
  rw [d1] at e2
  cases e2
theorem HotB.blk (h : HotB X xh oh) (I : Inv X pins σ H s) (scope : Scope) (ce : Env) {fp : List Addr} (hf : xh ∉ fp) : HotB (X.blk s H scope ce fp) xh oh :=
  ⟨h.hnd, h.get I, h.dat, h.none I, fun z => (List.mem_cons.mp (I.stkSub xh z)).elim (h.nloc I) h.nfs, hf⟩
/-- (a, b) = a tuple, there -/
theorem pg_tupB {es : List Expr} {k : Nat} {t : TGs} {n : Nat} {pos : Pos} (hb : HotB X xh oh) (h : PGs X es t)
    (hn : (assignEach es X.env).length = n := by rfl) (hst : (assignEach es X.env).findIdx? (·.1) = Option.none := by rfl) : PG X (.Tuple es k pos) (gTup X.K n t) := by
  refine ⟨fun pins s σ H v u Q I r y => ?_⟩
  obtain ⟨a, xs, rfl, hq, hl, y⟩ := y
  cases r
  obtain ⟨its, rv, hT, hz⟩ := I.tuple hq
  have e1 : (assignEach es X.env).length = its.toArray.size := by
    rw [List.size_toArray, hn, ← hl, rv.length]
  rw [PyProof.Rows.assign_Tuple]
  refine wpAny_bind (wpAny_standAt ?_)
  unfold unpack
  rw [e1, hst]
  refine wpAny_bind (wpAny_holding (unpack_hot (hb.hot I) hT fun g eb => ?_))
  have I1 : Inv X pins σ H { s with heap := g } := I.kept (t' := s.toks) fun b o e => eb b o (Nat.ne_of_lt (Heap.lt_size e)) e
  exact h.run pins _ σ H xs _ Q I1 (by simpa using rv) y
/-- [elt for tg in a list if ..], there -/
def tLcB (K : PySem.W.Frag) (tl : TE) (g : TG) (tt : TT) (te : TE) (vs : List Nat) : TE := fun σ H Q => tl σ H fun x H1 => ∃ a xs, x = .ref a ∧ SqL K H1 a xs ∧ ∀ D, H1 D = Option.none → ∃ Pv : Nat → Hp → Prop, Pv 0 (upd H1 D (.lst [])) ∧ (∀ i G, i ≤ xs.length → Pv i G → SqL K G a xs) ∧
  (∀ i v G, xs[i]? = some v → Pv i G → g v (wipe σ vs) G fun σ2 G2 => wipe σ2 vs = wipe σ vs ∧ tt σ2 G2 fun b G3 => if b = true then te σ2 G3 fun y G4 => ∃ acc, G4 D = some (.lst acc) ∧ acc.length < sizeLine ∧ Pv (i + 1) (upd G4 D (.lst (acc ++ [y]))) else Pv (i + 1) G3) ∧ ∀ G, Pv xs.length G → Q (.ref D) G
theorem pe_lcB {elt tg iter : Expr} {ifs : List Expr} {scope : Scope} {own : List (Str × Nat)} {pos : Pos} {tl : TE} {g : TG} {tt : TT} {te : TE} (hb : HotB X xh oh) (hN : X.N.Nodup) (hi : PE X iter tl) (ok : BlkOk X.N X.env.scope scope own)
    (hg : ∀ (s : Shared) (H : Hp) (C : Addr) (cl : List (Str × Addr)) (fp : List Addr), HotB (X.blk s H scope (compEnvC scope cl C X.env) fp) xh oh → PG (X.blk s H scope (compEnvC scope cl C X.env) fp) tg g)
    (ht : ∀ (s : Shared) (H : Hp) (C : Addr) (cl : List (Str × Addr)) (fp : List Addr), PTs (X.blk s H scope (compEnvC scope cl C X.env) fp) ifs tt)
    (he : ∀ (s : Shared) (H : Hp) (C : Addr) (cl : List (Str × Addr)) (fp : List Addr), PE (X.blk s H scope (compEnvC scope cl C X.env) fp) elt te) (hs : ∀ x, foldedSetIterable iter X.env x = pure x := by intro _; rfl) :
    PE X (.ListComp elt [⟨tg, iter, ifs, 0⟩] scope pos) (tLcB X.K tl g tt te (own.map (·.2))) := by
  refine ⟨fun pins s σ H Q I h => ?_⟩
  rw [eval_ListComp]
  have hfree : ∀ y ∈ scope.names, y.2 = .free → ∃ c, X.env.cells.lookup y.1 = some c := fun y hy e => (ok.free y hy e).elim (fun k => I.ok.has _ (.inl k)) (fun k => I.ok.has _ (.inr k))
  refine wpAny_comprehension_free (use := Option.none) rfl hs (closure_ok hfree) ok.kind (fun y hy e => by rw [ok.uniq y hy, e]) (thn (hi.run pins s σ H _ I h) fun xv s1 ⟨x, H1, I1, r1, a, xs, ex, hL, k⟩ => ?_)
  subst ex
  cases r1
  obtain ⟨its, rv, hl, hz⟩ := I1.list hL
  refine PySem.wpAny_pyIter_list hl.isList ?_
  -- the iterator's object, the new list, the block's frame
  have I2 : Inv X pins σ H1 { s1 with heap := s1.heap.push { cls := .type "list_iterator", data := .fields #[.ref a, .int 0 0] } } := I1.kept (t' := s1.toks) fun b o e => Heap.get?_push_of_some _ e
  have hit2 : ({ s1 with heap := s1.heap.push { cls := .type "list_iterator", data := .fields #[.ref a, .int 0 0] } } : Shared).heap.IsListIter s1.heap.objs.size a 0 := ⟨_, Heap.get?_push_size _ rfl, rfl, rfl⟩
  have it0 : H1 s1.heap.objs.size = Option.none := I1.hok.fresh (Nat.le_refl _)
  have fit : FpOk X pins H1 s1.heap.objs.size := I1.fpOk (Nat.le_refl _) it0
  have nxi : xh ≠ s1.heap.objs.size := Nat.ne_of_lt (Heap.lt_size (hb.get I1))
  have ltit : s1.heap.objs.size < ({ s1 with heap := s1.heap.push { cls := .type "list_iterator", data := .fields #[.ref a, .int 0 0] } } : Shared).heap.objs.size := by
    show _ < (s1.heap.push _).objs.size
    rw [Heap.size_push]
    exact Nat.lt_succ_self _
  generalize ({ s1 with heap := s1.heap.push { cls := .type "list_iterator", data := .fields #[.ref a, .int 0 0] } } : Shared) = s2 at *
  generalize s1.heap.objs.size = it at *
  refine wpAny_newObj_type (newEnv_comp ?_) (by show 0 ≤ sizeLine; decide)
  obtain ⟨Pv, p0, pl, pt, pd⟩ := k s2.heap.objs.size (I2.hok.fresh (Nat.le_refl _))
  have I3 : Inv X pins σ (upd H1 s2.heap.objs.size (.lst [])) { s2 with heap := s2.heap.push { cls := .type "list", data := .seq ([] : List Value).toArray } } :=
    I2.laid (t' := s2.toks) (fun b o e => Heap.get?_push_of_some _ e) (Nat.le_refl _) ⟨Nat.zero_le _, [], 0, .nil, Heap.get?_push_size _ rfl⟩
  have hit3 : ({ s2 with heap := s2.heap.push { cls := .type "list", data := .seq ([] : List Value).toArray } } : Shared).heap.IsListIter it a 0 := by
    obtain ⟨o, y1, y2⟩ := hit2
    exact ⟨o, Heap.get?_push_of_some _ y1, y2⟩
  have lt3 : it < ({ s2 with heap := s2.heap.push { cls := .type "list", data := .seq ([] : List Value).toArray } } : Shared).heap.objs.size := by
    show _ < (s2.heap.push _).objs.size
    rw [Heap.size_push]
    exact Nat.lt_succ_of_lt ltit
  have fit3 : FpOk X pins (upd H1 s2.heap.objs.size (.lst [])) it := ⟨by rw [upd_ne (Nat.ne_of_lt ltit)]; exact it0, fit.2⟩
  generalize hDD : s2.heap.objs.size = D at *
  generalize ({ s2 with heap := s2.heap.push { cls := .type "list", data := .seq ([] : List Value).toArray } } : Shared) = s3 at *
  generalize upd H1 D (.lst []) = H3 at *
  have I4 := block_start I3 ok hN (fp := [it]) fun b hm => by
    rw [List.mem_singleton.mp hm]
    exact ⟨fit3, lt3⟩
  -- the block's context, by letters
  have hotB := fun ce => hb.blk I3 scope ce (fp := [it]) fun z => nxi (List.mem_singleton.mp z)
  have pg := fun cl => hg s3 H3 s3.heap.objs.size cl [it] (hotB _)
  have pts := fun cl => ht s3 H3 s3.heap.objs.size cl [it]
  have pe := fun cl => he s3 H3 s3.heap.objs.size cl [it]
  have hit4 : ({ s3 with heap := pushCells (s3.heap.push { cls := .type "dict", data := .dict #[] }) scope.names } : Shared).heap.IsListIter it a 0 := by
    obtain ⟨o, y1, y2⟩ := hit3
    exact ⟨o, pushCells_keeps _ _ _ _ (Heap.get?_push_of_some _ y1), y2⟩
  show codeAny _ _ (.compStart (.ListComp elt [⟨tg, iter, ifs, 0⟩] scope pos) 0 (.ref it) (.ref D) (compEnvC scope (cellsFrom (s3.heap.objs.size + 1) scope.names (cloFrom X.env.cells scope.names [])) s3.heap.objs.size X.env)) (compPost (model X.prog X.w) X.A X.xe Option.none (EP X pins σ Q) (.ref D) s3.heap.objs.size) { s3 with heap := pushCells (s3.heap.push { cls := .type "dict", data := .dict #[] }) scope.names }
  specialize pg (cellsFrom (s3.heap.objs.size + 1) scope.names (cloFrom X.env.cells scope.names []))
  specialize pts (cellsFrom (s3.heap.objs.size + 1) scope.names (cloFrom X.env.cells scope.names []))
  specialize pe (cellsFrom (s3.heap.objs.size + 1) scope.names (cloFrom X.env.cells scope.names []))
  have eL : (compEnvC scope (cellsFrom (s3.heap.objs.size + 1) scope.names (cloFrom X.env.cells scope.names [])) s3.heap.objs.size X.env).locals = s3.heap.objs.size := rfl
  generalize compEnvC scope (cellsFrom (s3.heap.objs.size + 1) scope.names (cloFrom X.env.cells scope.names [])) s3.heap.objs.size X.env = ce at *
  generalize ({ s3 with heap := pushCells (s3.heap.push { cls := .type "dict", data := .dict #[] }) scope.names } : Shared) = s4 at *
  have hb4 := hotB ce
  have mem1 : it ∈ [it] := List.mem_singleton.mpr rfl
  have fpk : ∀ {σ' : L2.St} {G : Hp} {s' : Shared}, Inv (X.blk s3 H3 scope ce [it]) [] σ' G s' → G it = Option.none → FpOk (X.blk s3 H3 scope ce [it]) [] G it := fun {σ' G s'} J g0 =>
    ⟨g0, (J.ok.exf it mem1).1, J.ok.exfs it mem1, .inl mem1, fun y c e => (J.ok.exf it mem1).2 y c e, fun p hp => absurd (show p ∈ ([] : List (Addr × Obj)) ++ [] from hp) (by simp)⟩
  have loop : ∀ s4 : Shared, Inv (X.blk s3 H3 scope ce [it]) [] (wipe σ (own.map (·.2))) H3 s4 → s4.heap.IsListIter it a 0 → codeAny (model X.prog X.w) X.A (.compLoop (.ListComp elt [⟨tg, iter, ifs, 0⟩] scope pos) 0 (.ref it) (.ref D) ce) (compPost (model X.prog X.w) X.A X.xe Option.none (EP X pins σ Q) (.ref D) s3.heap.objs.size) s4 := by
    intro s4 I4 hit4
    refine compLoop_any (fun n s' => ∃ j G, n = xs.length - j ∧ j ≤ xs.length ∧ Inv (X.blk s3 H3 scope ce [it]) [] (wipe σ (own.map (·.2))) G s' ∧ s'.heap.IsListIter it a j ∧ G it = Option.none ∧ Pv j G) ?_ _ ⟨0, H3, rfl, Nat.zero_le _, I4, hit4, fit3.1, p0⟩
    rintro n s5 ⟨j, G, rfl, le, I5, hi5, g5, pv⟩
    have hL5 : SqL (X.blk s3 H3 scope ce [it]).K G a xs := pl j G le pv
    obtain ⟨its5, rv5, hl5, hz5⟩ := I5.list hL5
    obtain ⟨f0, f1, f2, f3, f4, f5⟩ := fpk I5 g5
    rcases Nat.lt_or_ge j xs.length with lt | ge
    · obtain ⟨u, hu, ru⟩ := rv5.get (List.getElem?_eq_getElem lt)
      refine PySem.wpAny_pyNext_list_item hi5 hl5.isList (x := u) (by simpa using hu) fun g6 hi6 sb6 => ?_
      have I6 : Inv (X.blk s3 H3 scope ce [it]) [] (wipe σ (own.map (·.2))) G { s5 with heap := g6 } := I5.turned (t' := s5.toks) (fun b o nb e => (sb6.2 b nb).trans e) f0 f1 f3 f4 f5
      obtain ⟨o6, y1, y2, y3⟩ := id hi6
      refine go_of (s := { s5 with heap := g6 }) y1 y2 y3 (by decide) ?_
      have I6p := I6.pinned (fp := [it]) (fun b hm => by rw [List.mem_singleton.mp hm]; exact fpk I6 g5) (fun b hm => by rw [List.mem_singleton.mp hm]; exact ⟨o6, y1, fun v z => by rw [y3] at z; cases z⟩)
      refine thnF (pg.run _ _ _ G _ u _ I6p ru (pt j _ G (List.getElem?_eq_getElem lt) pv)) fun _ s8 ⟨σ8, H8, I8, hw8, q8⟩ => ?_
      refine thnF (pts.run _ s8 σ8 H8 _ I8 q8) fun b s9 ⟨H9, I9, q9⟩ => ?_
      have fin : ∀ {s' : Shared} {G' : Hp}, Inv (X.blk s3 H3 scope ce [it]) ([] ++ pinsAt [it] g6) σ8 G' s' → Pv (j + 1) G' → ∃ m, m < xs.length - j ∧ ∃ j' G', m = xs.length - j' ∧ j' ≤ xs.length ∧ Inv (X.blk s3 H3 scope ce [it]) [] (wipe σ (own.map (·.2))) G' s' ∧ s'.heap.IsListIter it a j' ∧ G' it = Option.none ∧ Pv j' G' := fun {s' G'} J nx => by
        have pin := J.pin (it, o6) (List.mem_append_right _ (List.mem_append_right _ (mem_pinsAt mem1 y1)))
        have hln : (wipe σ (own.map (·.2))).length = σ8.length := by rw [← hw8, wipe_length]
        refine ⟨xs.length - (j + 1), by omega, j + 1, G', rfl, lt, (J.unpinned (pins := [])).weak hln (fun i v e => ?_), ⟨o6, pin.1, y2, y3⟩, pin.2.1, nx⟩
        rw [← hw8] at e
        exact (wipe_some e).1
      cases b with
      | false =>
        simp only [Bool.false_eq_true, if_false] at q9 ⊢
        exact fin I9 q9
      | true =>
        simp only [if_true] at q9 ⊢
        refine thnF (pe.run _ s9 σ8 H9 _ I9 q9) fun z s10 ⟨yv, H10, I10, r10, acc, hD10, hz10, nx⟩ => ?_
        exact app_ok (X := X.blk s3 H3 scope ce [it]) I10 hD10 hz10 r10 fun s11 I11 => fin I11 nx
    · have ej : j = xs.length := Nat.le_antisymm le ge
      subst ej
      refine list_end_hot (hb4.hot I5) nxi hi5 hl5.isList (by have := rv5.length; simp; omega) fun g6 eb => ?_
      have I6 : Inv (X.blk s3 H3 scope ce [it]) [] (wipe σ (own.map (·.2))) G { s5 with heap := g6 } := I5.turned (t' := s5.toks) (fun b o nb e => eb b o nb e) f0 f1 f3 f4 f5
      have I7 : Inv X pins σ G { s5 with heap := g6 } := I3.call' (ch := [it]) I6.os I6.base I6.hok I6.bare fun b hm => by
        rw [List.mem_singleton.mp hm]
        exact ⟨fit3.2.2.2.1, fit3.2.1, fit3.2.2.2.2.1, fit3.2.2.2.2.2⟩
      have nC : G s3.heap.objs.size = Option.none := by
        have z : G ce.locals = Option.none := I6.free
        rw [eL] at z
        exact z
      obtain ⟨m, hn, _⟩ := I6.loc
      have hn : g6.Ns ce.locals m := hn
      rw [eL] at hn
      obtain ⟨k0, k1, k2, k3, k4, k5⟩ := I3.fpOk (Nat.le_refl _) nC
      exact ⟨m, hn, fun g7 sb => ⟨.ref D, G, I7.turned (t' := s5.toks) (fun b o nb e => (sb.2 b nb).trans e) k0 k1 k3 k4 k5, rfl, pd G pv⟩⟩
  refine codeAny_compStart_list (loop s4 I4 hit4) ?_
  exact PySem.wpAny_pyIter_listiter hit4 (loop s4 I4 hit4)
end
open PySem.Spec PyProof.Rows
/-! ### isinstance of the handled exception, wherever it was handed -/
def rIsB (K : PySem.W.Frag) (D xh : Addr) : List V → Hp → VK → Prop := fun vs H Q => ∃ (c : V) (u : Value) (b : Bool), vs = [.ref xh, c] ∧ ClsV c u ∧ PySem.W.kitOne K (.ref D) u = some b ∧ Q (.bl b) H
theorem call_isB {X : Cx} {xh D : Addr} {oh : Obj} (hb : HotB X xh oh) (C : ExcC X.K D) (hc : oh.cls = .ref D) (hd : oh.dict = none) : CallR X (.builtin "isinstance") (rIsB X.K D xh) := by
  intro pins s σ H vs us Q I r y
  obtain ⟨c, u, b, rfl, kc, e, q⟩ := y
  obtain ⟨u1, u2, rfl, r1, r2⟩ := vals2 r
  cases (show u1 = Value.ref xh from r1)
  have e2 := kc.eq r2
  subst e2
  obtain ⟨ws, d1, _⟩ := hb.dat
  have J : PySem.W.InstAt s.heap xh oh D none := by
    have g := hb.get I
    obtain ⟨oc, od, oda, osl⟩ := oh
    dsimp only at hc hd d1
    subst hc hd d1
    exact ⟨g, rfl, rfl, trivial⟩
  exact PySem.W.kia_one (PySem.W.handS_kitx_exc C.hg C.hk C.hs C.hd C.ha C.hn C.ht C.hm) I.kIn J e (fun z => nomatch z) fun tk => ⟨.bl b, H, I.tok tk, rfl, q⟩
/-! ### a def called while an exception is handled, that exception told -/
structure HotP (A : Around) (outer : List Env) (H : Hp) (s : Shared) (xh : Addr) (oh : Obj) : Prop where
  hnd : A.handled = some (.ref xh)
  dat : ∃ vs : Array Value, oh.data = .fields vs ∧ vs[2]? = some .none
  pin : L2H.PinOk outer H s (xh, oh)
theorem HotP.b {CX : CXT} {P : Program} {w : World} {K : PySem.W.Frag} {mg : Str → Option Value} {base : Heap} {N : List Str} {qual : Str} {scope : Scope} {f : Addr} {cd : Value} {A : Around} {outer : List Env} {s : Shared} {H : Hp} {E : XK} {xh : Addr} {oh : Obj} (h : HotP A outer H s xh oh) :
    HotB (L2H.cxH CX P w K mg base N qual scope f cd A outer s H E (xh, oh)) xh oh := ⟨h.hnd, h.pin.get, h.dat, h.pin.free, h.pin.nofs, fun z => nomatch (show xh ∈ ([] : List Addr) from z)⟩
/-- its promise: sp with the exception told -/
def FnB (P : Program) (w : World) (K : PySem.W.Frag) (mg : Str → Option Value) (base : Heap) (k : Nat) (f : Addr) (fd : FuncData) (ps : List Str) (sp : Addr → Value → Option Addr → Sp) : Prop :=
  ∀ (A : Around) (outer : List Env) (s : Shared) (H : Hp) (args : Args) (us : List Value) (vs : List V) (Q : VK) (xh : Addr) (oh : Obj), L2H.RoomH k A → HotP A outer H s xh oh → Env0 P w K mg base A outer s H → BindsTo s fd args (ps.zip us) → Vals vs us → vs.length = ps.length → sp xh oh.cls oh.dict vs H Q E0 →
    codeAny (model P w) A (.call (.ref f) args) (CR CX0 outer P w H s Q E0) s
theorem Fun.okB {P : Program} {w : World} {K : PySem.W.Frag} {mg : Str → Option Value} {base : Heap} {x qual : Str} {st : Stmt} {f : Addr} {fd : FuncData} {N ps : List Str} {k : Nat} {sp : Addr → Value → Option Addr → Sp} (F : L2.Fun K x qual st f fd) (S : FnScope N ps (defScope st))
    (body : ∀ (cdv : Value) (A : Around) (outer : List Env) (s : Shared) (H : Hp) (vs : List V) (Q : VK) (xh : Addr) (oh : Obj), L2H.RoomH k (A.deeper (PyProof.Rows.envOfC qual (defScope st) s.heap.objs.size f cdv)) → HotB (L2H.cxH CX0 P w K mg base N qual (defScope st) f cdv A outer s H E0 (xh, oh)).nox xh oh → sp xh oh.cls oh.dict vs H Q E0 →
      ∃ t, PSs (L2H.cxH CX0 P w K mg base N qual (defScope st) f cdv A outer s H E0 (xh, oh)).nox (defBody st) t ∧ t { nx := fun _ H' => Q .non H', rt := Q } (L2.start N vs) H) : FnB P w K mg base (k + 1) f fd ps sp := by
  obtain ⟨oc, od, kV, doc, pm, an, cdv, ct, osl, rfl, lk, hcd⟩ := F.ex
  intro A outer s H args us vs Q xh oh hr hp e0 hb r hl hsp
  have KX : K.In s.heap := e0.mod.kin.keeps fun b o e => (e0.bs b o e).1
  have hkind : ∀ y ∈ ps.zip us, (defScope st).names.lookup y.1 = some .local ∨ ((defScope st).names.lookup y.1 = some .cell ∧ ((cellsFrom (s.heap.objs.size + 1) (defScope st).names []).lookup y.1).isSome = true) := by
    rintro ⟨n, v⟩ hy
    exact (S.par n (List.of_mem_zip hy).1).imp id fun q => ⟨q, PySem.W.cellsFrom_some _ _ _ (.inl q)⟩
  refine codeAny_call_function hr.depth (KX _ _ lk) rfl S.co S.gen rfl (PySem.W.codeRec_of KX hcd) (hb _ _ _ _ (wpAny_newFunctionEnv_cells S.kind hkind fun env he s1 y => ?_))
  subst he
  refine ⟨(e0.mod.nolimit.keeps fun b o e => (e0.bs b o e).1).keeps y.toInCall.keep, codeAny_func ?_⟩
  have hB := hp.b (CX := CX0) (P := P) (w := w) (K := K) (mg := mg) (base := base) (N := N) (qual := qual) (scope := defScope st) (f := f) (cd := cdv) (E := E0)
  obtain ⟨t, ht, hq⟩ := body cdv A outer s H vs Q xh oh (hr.deeper _) ⟨hB.hnd, hB.obj, hB.dat, hB.unt, hB.nfs, hB.nex⟩ hsp
  have I : Inv (L2H.cxH CX0 P w K mg base N qual (defScope st) f cdv A outer s H E0 (xh, oh)) [] (L2.start N vs) H s1 := L2H.inv_startH S hp.pin e0 hl r y
  refine wpAny_mono (ht.run [] s1 (L2.start N vs) H _ (I.wish _) hq) (fun fl s' z => ?_) fun _ _ z => z.elim
  have z' : SP (L2H.cxH CX0 P w K mg base N qual (defScope st) f cdv A outer s H E0 (xh, oh)) [] { nx := fun _ H' => Q .non H', rt := Q } fl s' := z.unwish
  cases fl with
  | ret u =>
    obtain ⟨v, σ', H', J, rv, q⟩ := z'
    exact ⟨v, H', J.os, J.bare, J.base, J.hok, rv, q⟩
  | next =>
    obtain ⟨σ', H', J, q⟩ := z'
    exact ⟨V.non, H', J.os, J.bare, J.base, J.hok, rfl, q⟩
  | brk => exact z'.elim fun _ y => y.elim fun _ y => y.2.elim
  | cont => exact z'.elim fun _ y => y.elim fun _ y => y.2.elim
/-! ### calls of such defs, out of the suite or out of another such def -/
structure HotG (X : Cx) (xh : Addr) (oh : Obj) : Prop where
  hnd : X.A.handled = some (.ref xh)
  dat : ∃ vs : Array Value, oh.data = .fields vs ∧ vs[2]? = some .none
  at_ : ∀ {pins : List (Addr × Obj)} {σ : L2.St} {H : Hp} {s : Shared}, Inv X pins σ H s → s.heap.get? xh = some oh ∧ H xh = none ∧ xh ≠ X.env.locals ∧ xh ∉ X.fs
theorem HotB.g {X : Cx} {xh : Addr} {oh : Obj} (h : HotB X xh oh) : HotG X xh oh := ⟨h.hnd, h.dat, fun I => ⟨h.get I, h.none I, h.nloc I, h.nfs⟩⟩
theorem hotG_suite {X : Cx} {a : Addr} {oe : Obj} {pn : List (Addr × Obj)} {cls : Value} {d : Option Addr} (hz : L2N.Zn cls d oe) (hf : ∃ vs, oe.data = .fields vs) : HotG (X.suite a ((a, oe) :: pn)) a oe := by
  obtain ⟨vs, e⟩ := hf
  refine ⟨rfl, ⟨vs, e, hz.2.2 vs e⟩, fun I => ?_⟩
  obtain ⟨h1, h2, h3, h4, _⟩ := I.pin (a, oe) (List.mem_append_left _ List.mem_cons_self)
  exact ⟨h1, h2, h3, h4⟩
theorem HotG.p {X : Cx} {xh : Addr} {oh : Obj} (h : HotG X xh oh) {pins : List (Addr × Obj)} {σ : L2.St} {H : Hp} {s : Shared} (I : Inv X pins σ H s) : HotP X.A X.stack H s xh oh := by
  obtain ⟨h1, h2, h3, h4⟩ := h.at_ I
  obtain ⟨vs, d1, d2⟩ := h.dat
  exact ⟨h.hnd, h.dat, h1, h2, fun z => (List.mem_cons.mp (I.stkSub xh z)).elim h3 h4, fun v z => by rw [d1] at z; cases z⟩
def tCallG (sp : Addr → Value → Option Addr → Sp) (xh : Addr) (cls : Value) (dd : Option Addr) (n : Nat) (t : L2.TA) : TE := fun σ H Q => t σ H fun vs H1 => vs.length = n ∧ sp xh cls dd vs H1 Q E0
theorem pe_callG {X : Cx} {k : Nat} {f : Addr} {fd : FuncData} {ps : List Str} {sp : Addr → Value → Option Addr → Sp} {xh : Addr} {oh : Obj} {x : Str} {p pos : Pos} {e : Expr} {es : List Expr} {t : L2.TA} (G : FnB X.prog X.w X.K X.mg X.base k f fd ps sp) (hr : L2H.RoomH k X.A) (hg : HotG X xh oh) {cls : Value} {dd : Option Addr} (hcl : oh.cls = cls) (hdd : oh.dict = dd) (gl : Gl X x) (hm : X.mg x = some (.ref f)) (hk : PySem.W.keepIn X.K (.ref f) = true) (hb : Binds X.K fd ps [])
    (ha : PA X (e :: es) t) (hdb : (x == ("__debug__" : Str)) = false := by decide) (he : starEach (e :: es) X.env = (false, eval e X.env) :: starEach es X.env := by rfl) (hpl : (backTo pos (starEach es X.env)).any (·.1) = false := by rfl) :
    PE X (.Call (.Name x p) (e :: es) [] pos) (tCallG sp xh cls dd ps.length t) := by
  subst hcl hdd
  refine ⟨fun pins s σ H Q I y => ?_⟩
  refine wpAny_Call_Name_kw (ld_glob I gl hm (PySem.W.callWith_K (h₀ := X.base) I.ok.mod.kin hk (thn (ha.run pos pins s σ H _ I y) fun us s1 ⟨vs, H1, I1, r, q⟩ => ⟨I1.kIn, ?_⟩) he hpl) hdb)
  obtain ⟨hl, q⟩ := q
  have hu : us.length = ps.length := by rw [← r.length, hl]
  have hbb : BindsTo s1 fd ⟨us, []⟩ (ps.zip us) := by
    have z := hb s1 us I1.kIn (by rw [List.append_nil]; exact hu)
    rw [List.append_nil] at z
    exact z
  refine wpAny_call (codeAny_mono (G X.A X.stack s1 H1 ⟨us, []⟩ us vs Q xh oh hr (hg.p I1) I1.env0 hbb r hl q) fun rs s' hq => ?_)
  cases rs with
  | error e => exact False.elim hq
  | ok fl =>
    cases fl with
    | ret u => exact I1.after hq
    | next => exact False.elim hq
    | brk => exact False.elim hq
    | cont => exact False.elim hq
/-! ### a lambda without parameters handed to a def, its errors told with their context -/
def lamCxN (X : Cx) (A : Around) (outer : List Env) (s : Shared) (H : Hp) (E : XK) (scope : Scope) (f c : Addr) : Cx :=
  (LamX.lamCx X A outer s H E scope f c).wish fun e s' => wpAny (model X.prog X.w) (A.deeper (LamX.lamEnv X scope s.heap.objs.size f c)) (leaving (LamX.lamEnv X scope s.heap.objs.size f c) e) (fun _ s2 => L2N.CX X.prog X.w outer H s E e s2) (fun e2 s2 => L2N.CX X.prog X.w outer H s E e2 s2) s'
theorem pe_actN {X : Cx} {pins : List (Addr × Obj)} {σ : L2.St} {H : Hp} {s : Shared} {CXg : CXT} {Eg : XK} {Ng : List Str} {qg : Str} {sg : Scope} {g f c : Addr} {cdg pm ctv : Value} {params : Arguments} {body : Expr} {scope : Scope} {k i : Nat} {a : Str} {pn : List (Addr × Obj)} {xe : Value → Shared → Prop} {W : WX} {E : L2.St → XK} {tb : XK → TE} {p1 p2 : Pos}
    (I : Inv X pins σ H s) (L : LamX.LamS X.env.scope scope) (hf : s.heap.get? f = some (PySem.W.kla_obj "<lambda>" (X.env.qual ++ "<lambda>") params body scope (cloFrom X.env.cells scope.names []) pm c ctv)) (hfn : H f = none) (hfr : f ∉ frs X.stack)
    (hbind : bindArgs (PySem.W.kla_fn "<lambda>" (X.env.qual ++ "<lambda>") params body scope (cloFrom X.env.cells scope.names []) pm (.ref c) ctv) ⟨[], []⟩ = pure [])
    (tk : L2N.Takes ((cxOf CXg X.prog X.w X.K X.mg X.base Ng qg sg g cdg X.A X.stack s H Eg).tr pn xe) W) (hW : ∀ cls d σ2 H2, E σ2 cls d H2 → W cls d σ2 H2) (hr : Room (k + 1) (X.A.deeper (envOfC qg sg s.heap.objs.size g cdg)))
    (hbody : ∀ (A : Around) (outer : List Env) (s : Shared) (H : Hp) (E : XK), Room k (A.deeper (LamX.lamEnv X scope s.heap.objs.size f c)) → PE (lamCxN X A outer s H E scope f c) body (tb E))
    (hN : Ng[i]? = some a) (hv : Vis sg a) (hd : (a == ("__debug__" : Str)) = false := by decide) (hcd : (a == ("__classdict__" : Str)) = false := by decide) :
    PE ((cxOf CXg X.prog X.w X.K X.mg X.base Ng qg sg g cdg X.A X.stack s H Eg).tr pn xe) (.Call (.Name a p1) [] [] p2) (fun σZ HZ Q => σZ[i]? = some (some (.ref f)) ∧ HZ c = some (LamX.CodeO c (X.env.qual ++ "<lambda>")) ∧ tb (E σZ) σ HZ Q) := by
  refine ⟨fun pz sz σz Hz Q Iz ⟨hs, hc, y⟩ => ?_⟩
  refine wpAny_Call_Name_kw (thn ((pe_var (pos := p1) (i := i) hN hv hd hcd).run pz sz σz Hz (fun v H1 => v = .ref f ∧ H1 = Hz) Iz ⟨.ref f, hs, rfl, rfl⟩) fun u s1 ⟨v, H1, I1, r1, ev, eH⟩ => ?_)
  subst ev eH
  cases (show u = Value.ref f from r1)
  have of1 := I1.base.keep f _ hf hfn hfr (fun z => nomatch (show f ∈ ([] : List Addr) from z))
  refine PySem.W.callWith_F0 ⟨_, _, _, _, of1⟩ ?_
  obtain ⟨⟨oc, vs, t, hoc, hdc, hvc⟩, _, _⟩ := I1.hok c _ hc
  have run : codeAny (model X.prog X.w) (X.A.deeper (envOfC qg sg s.heap.objs.size g cdg)) (.call (.ref f) ⟨[], []⟩) (CR (L2N.CX X.prog X.w) (envOfC qg sg s.heap.objs.size g cdg :: X.stack) X.prog X.w H1 s1 Q (E σz)) s1 := by
    refine PySem.W.kla_callFunE hr.depth of1 rfl L.co L.gen rfl ⟨c, oc, vs, t, rfl, hoc, hdc, hvc⟩ ?_
    rw [hbind]
    refine wpAny_pure (wpAny_newFunctionEnv (fun y hy => (L.own y hy).2) (fun y hy => absurd hy (by simp)) (fun g1 hns hsb => ⟨I1.nolimit.fresh _ hsb, ?_⟩) L.kind)
    have kp : ∀ b o, s1.heap.get? b = some o → g1.get? b = some o := fun b o e => hsb.extBut b o (Nat.ne_of_lt (Heap.lt_size e)) (Heap.get?_push_of_some _ e)
    have J := LamX.lam_start2 (E := E σz) (f := f) (c' := c) (tk := s1.toks + ([] : List (Str × Value)).length) I L I1.env0 hr.hd I1.base hns kp
    refine PySem.W.kla_codeExpr (wpAny_mono ((hbody _ _ s1 H1 (E σz) (hr.deeper _)).run [] _ _ H1 Q (J.wish _) y) (fun v s3 ⟨w3, H3, J3, rv, q⟩ => ⟨w3, H3, J3.os, J3.bare, J3.base, J3.hok, rv, q⟩) fun e s3 z => z)
  refine wpAny_call (codeAny_mono run fun rs s2 hq => ?_)
  cases rs with
  | error e => exact tk e s2 (L2N.XE.of_call I1 (fun cls d H' h => hW cls d σz H' h) hq)
  | ok fl =>
    cases fl with
    | ret u => exact I1.after hq
    | next => exact False.elim hq
    | brk => exact False.elim hq
    | cont => exact False.elim hq
/-- the def that calls what it got; TT: what it makes of the lambda's reading -/
def GivesN (X : Cx) (Ng : List Str) (x : Str) (sg : Scope) (g : Addr) (cdg : Value) (bg : List Stmt) (a q : Str) (TT : (XK → Hp → VK → Prop) → Hp → VK → Prop) : Prop :=
  ∀ (k : Nat) (f c : Addr) (s : Shared) (H : Hp) (Q : VK) (tl : XK → Hp → VK → Prop), Room k (X.A.deeper (envOfC x sg s.heap.objs.size g cdg)) → 40 ≤ k →
    (∀ (W : WX) (pn : List (Addr × Obj)) (xe : Value → Shared → Prop) (E : L2.St → XK) (p1 p2 : Pos), L2N.Takes ((cxOf CX0 X.prog X.w X.K X.mg X.base Ng x sg g cdg X.A X.stack s H E0).tr pn xe) W → (∀ cls d σ2 H2, E σ2 cls d H2 → W cls d σ2 H2) →
      PE ((cxOf CX0 X.prog X.w X.K X.mg X.base Ng x sg g cdg X.A X.stack s H E0).tr pn xe) (.Call (.Name a p1) [] [] p2) (fun σZ HZ Q => σZ[0]? = some (some (.ref f)) ∧ HZ c = some (LamX.CodeO c q) ∧ tl (E σZ) HZ Q)) →
    H c = some (LamX.CodeO c q) → TT tl H Q →
    ∃ t, PSs (cxOf CX0 X.prog X.w X.K X.mg X.base Ng x sg g cdg X.A X.stack s H E0).nox bg t ∧ t { nx := fun _ H' => Q .non H', rt := Q } (L2.start Ng [.ref f]) H
theorem pe_lamN {X : Cx} {T : List (Addr × Str)} {TT : (XK → Hp → VK → Prop) → Hp → VK → Prop} {x a : Str} {g c P : Addr} {k : Nat} {pg : Arguments} {bg : List Stmt} {sg : Scope} {dV kV doc pm cdv ct oc : Value} {an od : Option Addr} {osl : Array (Option Value)} {Ng : List Str}
    {params : Arguments} {body : Expr} {scope : Scope} {t : XK → TE} {p lpos pos : Pos} (hg : Gl X x) (hm : X.mg x = some (.ref g)) (hk : PySem.W.keepIn X.K (.ref g) = true)
    (lk : X.K.lookup g = some ⟨oc, od, .func (PySem.W.fnOf x x pg bg sg dV kV doc pm an cdv ct), osl⟩) (hcg : PySem.W.codeIn X.K cdv x = true) (hb : Binds X.K (PySem.W.fnOf x x pg bg sg dV kV doc pm an cdv ct) [a] []) (Sg : FnScope Ng [a] sg) (hNg : Ng[0]? = some a) (hva : Vis sg a)
    (hG : GivesN X Ng x sg g cdv bg a (X.env.qual ++ "<lambda>") TT) (TB : LamX.TabB X.base X.mg c P) (hcode : X.env.code = .ref c) (hmT : (P, X.env.qual ++ "<lambda>") ∈ T) (hu : ∀ p ∈ T, p.1 = P → p.2 = X.env.qual ++ "<lambda>") (hr : Room (k + 2) X.A) (k40 : 40 ≤ k + 1) (L : LamX.LamS X.env.scope scope) (hdef : defaultsOf params X.env = ([], []))
    (hbind : ∀ (q : Str) (cl : List (Str × Addr)) (pm cv ctv : Value), bindArgs (PySem.W.kla_fn "<lambda>" q params body scope cl pm cv ctv) ⟨[], []⟩ = pure [])
    (hbody : ∀ (A : Around) (outer : List Env) (s : Shared) (H : Hp) (E : XK) (f c2 : Addr), Room k (A.deeper (LamX.lamEnv X scope s.heap.objs.size f c2)) → PE (lamCxN X A outer s H E scope f c2) body (t E))
    (hdb : (x == ("__debug__" : Str)) = false := by decide) (hd : (a == ("__debug__" : Str)) = false := by decide) (hcd : (a == ("__classdict__" : Str)) = false := by decide) :
    PE X (.Call (.Name x p) [.Lambda params body scope lpos] [] pos) (LamX.tLam T TT t) := by
  refine ⟨fun pins s σ H Q I ⟨hT, y⟩ => ?_⟩
  refine wpAny_Call_Name_kw (ld_glob I hg hm (PySem.W.callWith_K (h₀ := X.base) I.ok.mod.kin hk ?_ (by rfl) (by rfl)) hdb)
  show wpAny _ _ (spliced ((false, eval (.Lambda params body scope lpos) X.env) :: backTo pos (starEach [] X.env))) _ _ s
  refine Calls.spliced_cons (LamX.lam_make2 I TB hcode hmT hu hT hdef (L.has I.ok) fun f c2 pm2 ctv H1 s1 I1 eN T1 hf hfn hfr hco => Calls.spliced_nil ⟨I1.kIn, ?_⟩)
  have run : codeAny (model X.prog X.w) X.A (.call (.ref g) ⟨[.ref f], []⟩) (CR CX0 X.stack X.prog X.w H1 s1 Q E0) s1 := by
    refine LamX.run_ofS (N := Ng) (ps := [a]) (us := [.ref f]) (vs := [.ref f]) lk hcg Sg hr I1.env0 (hb s1 [.ref f] I1.kIn rfl) (.cons rfl .nil) rfl fun hr2 => ?_
    obtain ⟨t2, ht2, hq2⟩ := hG _ f c2 s1 H1 Q (fun E H' Q' => t E σ H' Q') hr2 k40 (fun W pn xe E p1 p2 tk hW => pe_actN (i := 0) I1 L hf hfn hfr (hbind _ _ _ _ _) tk hW hr2 (fun A outer s H E hr3 => hbody A outer s H E f c2 hr3) hNg hva hd hcd) hco (y H1 eN T1)
    exact ⟨t2, ht2.nox, hq2⟩
  refine wpAny_call (codeAny_mono run fun rs s2 hq => ?_)
  cases rs with
  | error e => exact (show False from hq).elim
  | ok fl =>
    cases fl with
    | ret u => exact I1.after hq
    | next => exact False.elim hq
    | brk => exact False.elim hq
    | cont => exact False.elim hq
/-! ### try: return ('value', ask()) / except TermError as e: the error's word and field -/
/-- a class that TermError names -/
structure Wd (K : PySem.W.Frag) (CT D : Addr) (dd : Option Addr) : Prop where
  exc : ExcC K D
  nod : dd = none
  mat : PySem.W.exmOne K (.ref D) (.ref CT) = some true
def spName (K : PySem.W.Frag) (CT : Addr) (word : Addr → Option Str) : Addr → Value → Option Addr → Sp := fun xh cls dd vs H Q _ => ∃ (D : Addr) (nm : Str), cls = .ref D ∧ Wd K CT D dd ∧ word D = some nm ∧ vs = [.ref xh] ∧ ∀ H', Same H H' → Q (.str nm) H'
def spField (word : Addr → Option Str) (fld : Addr → Option Addr → Hp → V → Prop) : Addr → Value → Option Addr → Sp := fun xh cls dd vs H Q _ => ∃ (D : Addr) (nm : Str) (v : V), cls = .ref D ∧ word D = some nm ∧ fld D dd H v ∧ vs = [.ref xh, .str nm] ∧ ∀ H', Same H H' → Q v H'
def tSuite (K : PySem.W.Frag) (CT : Addr) (word : Addr → Option Str) (fld : Addr → Option Addr → Hp → V → Prop) (a : Addr) (cls : Value) (d : Option Addr) : TS :=
  tSeq (tAsg (tCallG (spName K CT word) a cls d 1 (tCons (tVar 1) tNil)) (gName 2)) (tRet (tTup (tCons (tVar 2) (tCons (tCallG (spField word fld) a cls d 2 (tCons (tVar 1) (tCons (tVar 2) tNil))) tNil))))
def TTry (K : PySem.W.Frag) (CT : Addr) (word : Addr → Option Str) (fld : Addr → Option Addr → Hp → V → Prop) : (XK → Hp → VK → Prop) → Hp → VK → Prop := fun tl H Q =>
  ∀ f : Addr, tl (fun cls d H2 => wAs K (.ref CT) 1 (tSuite K CT word fld) (fun _ _ _ _ => False) { nx := fun _ H' => Q .non H', rt := Q } cls d [some (.ref f), none, none] H2) H
    (fun v H' => 2 ≤ sizeLine ∧ ∀ p, H' p = none → Q (.ref p) (upd H' p (.tup [.str ("value" : Str), v])))
theorem wTry {K : PySem.W.Frag} {CT : Addr} {word : Addr → Option Str} {fld : Addr → Option Addr → Hp → V → Prop} {Q : VK} {n : L2.St → Hp → Prop} {cls : Value} {dd : Option Addr} {f D : Addr} {nm : Str} {v : V} {H' : Hp}
    (hst : ∀ D dd H H' v, Same H H' → fld D dd H v → fld D dd H' v) (e : cls = .ref D) (hw : Wd K CT D dd) (ew : word D = some nm) (hf : fld D dd H' v) (h : ∀ (p : Addr) (H2 : Hp), Same H' H2 → H2 p = none → Q (.ref p) (upd H2 p (.tup [.str nm, v]))) :
    wAs K (.ref CT) 1 (tSuite K CT word fld) (fun _ _ _ _ => False) { nx := n, rt := Q } cls dd [some (.ref f), none, none] H' := by
  subst e
  refine ⟨true, hw.mat, fun _ a _ => ?_, fun z => nomatch z⟩
  refine ⟨_, rfl, rfl, D, nm, rfl, hw, ew, rfl, fun H1 k1 => ?_⟩
  refine ⟨_, rfl, _, rfl, _, rfl, rfl, D, nm, v, rfl, ew, hst _ _ _ _ _ k1 hf, rfl, fun H2 k2 => ⟨by show 2 ≤ sizeLine; decide, fun p hp => h p H2 (k1.trans k2) hp⟩⟩
theorem try_gives {X : Cx} {x q : Str} {sg : Scope} {g CT fN fF : Addr} {cdg : Value} {fdN fdF : FuncData} {word : Addr → Option Str} {fld : Addr → Option Addr → Hp → V → Prop} {j1 n1 n2 : Nat} {q1 q2 q3 q4 q5 q6 q7 q8 q9 p1 p2 p3 p4 p5 p6 p7 p8 p9 q10 q11 : Pos}
    (s0 : sg.names.lookup ("_law_ask" : Str) = some .local) (s1 : sg.names.lookup ("_law_e" : Str) = some .local) (s2 : sg.names.lookup ("_law_word" : Str) = some .local) (g1 : sg.names.lookup ("TermError" : Str) = some .globalImplicit) (g2 : sg.names.lookup ("_law_error_name" : Str) = some .globalImplicit) (g3 : sg.names.lookup ("_law_error_field" : Str) = some .globalImplicit)
    (mT : X.mg ("TermError" : Str) = some (.ref CT)) (mN : X.mg ("_law_error_name" : Str) = some (.ref fN)) (mF : X.mg ("_law_error_field" : Str) = some (.ref fF)) (kN : PySem.W.keepIn X.K (.ref fN) = true) (kF : PySem.W.keepIn X.K (.ref fF) = true) (bN : Binds X.K fdN [("_law_e" : Str)] []) (bF : Binds X.K fdF [("_law_e" : Str), "_law_word"] [])
    (GN : FnB X.prog X.w X.K X.mg X.base 3 fN fdN [("_law_e" : Str)] (spName X.K CT word)) (GF : FnB X.prog X.w X.K X.mg X.base 3 fF fdF [("_law_e" : Str), "_law_word"] (spField word fld)) :
    GivesN X [("_law_ask" : Str), "_law_e", "_law_word"] x sg g cdg [.Try [.Return (some (.Tuple [.Constant (.str ("value" : Str)) j1 p1, .Call (.Name ("_law_ask" : Str) p2) [] [] p3] n1 p4)) p5] [.ExceptHandler (some (.Name ("TermError" : Str) p6)) (some ("_law_e" : Str)) [.Assign [.Name ("_law_word" : Str) q1] (.Call (.Name ("_law_error_name" : Str) q2) [.Name ("_law_e" : Str) q3] [] q4) q5, .Return (some (.Tuple [.Name ("_law_word" : Str) q6, .Call (.Name ("_law_error_field" : Str) q7) [.Name ("_law_e" : Str) q8, .Name ("_law_word" : Str) q9] [] p7] n2 p8)) p9] q10] [] [] q11] ("_law_ask" : Str) q (TTry X.K CT word fld) := by
  intro k f c s H Q tl hr k40 act hc y
  have hr3 := hr.mono (show 3 ≤ k by omega)
  have nd : ([("_law_ask" : Str), "_law_e", "_law_word"] : List Str).Nodup := by decide +kernel
  refine ⟨_, pss_one (L2N.ps_try_as (i := 1) (c := .ref CT) (tb := fun W => tRet (tTup (tCons (tC (.str ("value" : Str))) (tCons (fun σZ HZ Q => σZ[0]? = some (some (.ref f)) ∧ HZ c = some (LamX.CodeO c q) ∧ tl (fun cls d H2 => W cls d σZ H2) HZ Q) tNil))))
    (ts := tSuite X.K CT word fld) (Wout := fun _ _ _ _ => False) rfl rfl nd rfl s1 ⟨g1, by decide +kernel, .inl mT⟩ (fun _ _ ⟨_, _, _, _, _, _, _, _, _, _, _, _, _, _, _, _, z⟩ => z.elim)
    (fun W pn xe tk _ => pss_one (ps_ret (pe_tup (pa_cons pe_str (pa_cons (act W pn xe (fun σ2 cls d H2 => W cls d σ2 H2) _ _ tk (fun _ _ _ _ h => h)) pa_nil)))))
    (fun a oe cls d pn hz hf => pss_cons (ps_set (i := 2) nd rfl (.inl s2) (by exact pe_callG (X := Cx.suite (cxOf CX0 X.prog X.w X.K X.mg X.base [("_law_ask" : Str), "_law_e", "_law_word"] x sg g cdg X.A X.stack s H E0).nox a ((a, oe) :: pn)) GN ⟨hr3.dp, hr3.un⟩ (hotG_suite hz hf) hz.1 hz.2.1 g2 mN kN bN (pa_cons (pe_var (i := 1) rfl (.inl s1)) pa_nil)))
      (pss_one (ps_ret (pe_tup (pa_cons (pe_var (i := 2) rfl (.inl s2)) (pa_cons (by exact pe_callG (X := Cx.suite (cxOf CX0 X.prog X.w X.K X.mg X.base [("_law_ask" : Str), "_law_e", "_law_word"] x sg g cdg X.A X.stack s H E0).nox a ((a, oe) :: pn)) GF ⟨hr3.dp, hr3.un⟩ (hotG_suite hz hf) hz.1 hz.2.1 g3 mF kF bF (pa_cons (pe_var (i := 1) rfl (.inl s1)) (pa_cons (pe_var (i := 2) rfl (.inl s2)) pa_nil))) pa_nil))))))), ?_⟩
  exact ⟨rfl, hc, y f⟩
def top (i : Nat) : Stmt := PySem.Challenge.pw_uponboth_k05_number_of_terms.main.body.getD i (.Pass ⟨0, 0, 0, 0⟩)
structure Blt (mg : Str → Option Value) : Prop where
  len : mg "len" = none
  list : mg "list" = none
  tuple : mg "tuple" = none
  dict : mg "dict" = none
  bool : mg "bool" = none
  isinstance : mg "isinstance" = none
  max : mg "max" = none
  min : mg "min" = none
  range : mg "range" = none
  all : mg "all" = none
  sorted : mg "sorted" = none
  enumerate : mg "enumerate" = none
  sum : mg "sum" = none
  str : mg "str" = none
  int : mg "int" = none
/-- the state of the draws: a list of ints, a place, a rest, a seed -/
def Rng (H : Hp) (r : Addr) : Prop := ∃ (c : Addr) (ns : List Int) (i b s : Int), H r = some (.lst [.ref c, .int i, .int b, .int s]) ∧ H c = some (.lst (ns.map V.int)) ∧ c ≠ r ∧ 0 ≤ i ∧ 0 ≤ b ∧ 0 ≤ s ∧ s < 2147483647
theorem Rng.lst {H : Hp} {r : Addr} (h : Rng H r) : ∃ ys, H r = some (.lst ys) := by
  obtain ⟨c, ns, i, b, s, h, _⟩ := h
  exact ⟨_, h⟩
theorem Rng.same {H H' : Hp} {r : Addr} (e : Same H H') (h : Rng H r) : Rng H' r := by
  obtain ⟨c, ns, i, b, s, h1, h2, h3⟩ := h
  exact ⟨c, ns, i, b, s, e _ _ h1, e _ _ h2, h3⟩
theorem cut63 {ns : List Int} : cutV (ns.map V.int) none (some 63) = (ns.take 63).map V.int := by
  unfold cutV
  rw [HT.sIx_none, show HT.sIx (ns.map V.int).length (ns.map V.int).length (some 63) = min 63 (ns.map V.int).length from HT.sIx_nat _ _ 63]
  rw [List.drop_zero, Nat.sub_zero, List.map_take]
  rcases Nat.le_total 63 (ns.map V.int).length with h | h
  · rw [Nat.min_eq_left h]
  · rw [Nat.min_eq_right h, List.take_of_length_le (Nat.le_refl _), List.take_of_length_le h]
def spDraws (K : PySem.W.Frag) : Sp := fun vs H Q _ => ∃ (a : Addr) (ns : List Int), vs = [.ref a] ∧ SqL K H a (ns.map V.int) ∧ ∀ (r : Addr) (H' : Hp), Same H H' → H r = none → Rng H' r → Q (.ref r) H'
def spDraw : Sp := fun vs H Q _ => ∃ (r : Addr) (n : Int), vs = [.ref r, .int n] ∧ Rng H r ∧ 0 < n ∧ n < 1073741824 ∧ ∀ (v : Int) (H' : Hp), 0 ≤ v → v < n → Rng H' r → But r H H' → Q (.int v) H'
theorem fn_none {P : Program} {w : World} {K : PySem.W.Frag} {mg : Str → Option Value} {base : Heap} {f : Addr} {fd : FuncData} {CX : CXT} {ps : List Str} {sp : Sp} {k : Nat} (no : ∀ vs H Q E, ¬ sp vs H Q E) : FnOk P w K mg base CX k f fd ps sp :=
  ⟨fun vs H Q E h => absurd h (no vs H Q E), fun A outer s H args us vs Q E _ _ _ _ h => absurd h (no vs H Q E)⟩
def spTerm (K : PySem.W.Frag) (n : Nat) : Sp := fun vs H Q _ => ∃ (r : Addr) (many : Int) (k : Nat), k < n ∧ vs = [.ref r, .int many, .int (2 ^ k)] ∧ k ≤ 6 ∧ 1 ≤ many ∧ many ≤ 2 ^ k ∧ Rng H r ∧
  ∀ (v : V) (t : Tree) (H' : Hp), TA K H' v t → (t.sz : Int) = many → t.dp ≤ k → Rng H' r → But r H H' → Q v H'
def spComb (K : PySem.W.Frag) : Sp := fun vs H Q _ => ∃ (m : Int) (b : Bool), vs = [.int m, .bl b] ∧ 1 ≤ m ∧ m ≤ 40 ∧
  ∀ (v : V) (t : Tree) (H' : Hp), TA K H' v t → (t.sz : Int) = m → (t.dp : Int) = m - 1 → Same H H' → Q v H'
def spAny (K : PySem.W.Frag) : Sp := fun vs H Q _ => ∃ (r : Addr) (top : Int), vs = [.ref r, .int top] ∧ 1 ≤ top ∧ top ≤ 64 ∧ Rng H r ∧
  ∀ (v : V) (t : Tree) (H' : Hp), TA K H' v t → (t.sz : Int) ≤ top → t.dp ≤ 6 → Rng H' r → But r H H' → Q v H'
/-- a def over one tree that gives g of it and makes nothing that stays -/
def spTree (K : PySem.W.Frag) (g : Tree → V) (n : Nat) : Sp := fun vs H Q _ => ∃ (v : V) (t : Tree), vs = [v] ∧ TA K H v t ∧ t.dp < n ∧ n ≤ 40 ∧ ∀ H', Same H H' → Q (g t) H'
theorem spTree_no {K : PySem.W.Frag} {g : Tree → V} : ∀ vs H Q E, ¬ spTree K g 0 vs H Q E := fun vs H Q E h => by
  obtain ⟨v, t, _, _, h, _⟩ := h
  omega
def spIsPair (K : PySem.W.Frag) : Sp := fun vs H Q _ => ∃ (v : V) (t : Tree), vs = [v] ∧ TA K H v t ∧ Q (.bl (!t.isL)) H
def spOkTerm (K : PySem.W.Frag) (g : V) : Sp := fun vs H Q _ => ∃ (v : V) (t : Tree), vs = [v] ∧ TA K H v t ∧ t.sz ≤ 12 ∧ t.dp ≤ 6 ∧ ∀ H', Same H H' → Q g H'
/-- an item of the pile: a term and how deep it stands -/
def Item (K : PySem.W.Frag) (H : Hp) (p : V × Tree × Nat) : Prop := ∃ (a : Addr) (u : V), p.1 = .ref a ∧ SqT K H a [u, .int p.2.2] ∧ TA K H u p.2.1 ∧ p.2.2 + p.2.1.dp ≤ 6
theorem Item.mono {K : PySem.W.Frag} {H H' : Hp} (e : Tp H H') {p : V × Tree × Nat} (h : Item K H p) : Item K H' p := by
  obtain ⟨a, u, h1, h2, h3, h4⟩ := h
  exact ⟨a, u, h1, e.sqT h2, ta_mono e h3, h4⟩
def szs (ps : List (V × Tree × Nat)) : Nat := (ps.map fun p => p.2.1.sz).sum
def nds (ps : List (V × Tree × Nat)) : Nat := (ps.map fun p => p.2.1.nodes).sum
theorem szs_snoc (ps : List (V × Tree × Nat)) (p) : szs (ps ++ [p]) = szs ps + p.2.1.sz := by
  unfold szs
  rw [List.map_append, List.sum_append]
  simp
theorem nds_snoc (ps : List (V × Tree × Nat)) (p) : nds (ps ++ [p]) = nds ps + p.2.1.nodes := by
  unfold nds
  rw [List.map_append, List.sum_append]
  simp
theorem szs_len : ∀ ps : List (V × Tree × Nat), ps.length ≤ szs ps
  | [] => Nat.zero_le _
  | p :: ps => by
    have h := szs_len ps
    have h2 := p.2.1.sz_pos
    show ps.length + 1 ≤ (p.2.1.sz :: ps.map fun p => p.2.1.sz).sum
    rw [List.sum_cons]
    unfold szs at h
    omega
structure Cst (mg : Str → Option Value) : Prop where
  MAX_SIZE : ∃ t, mg "MAX_SIZE" = some (.int 12 t)
  MAX_DEPTH : ∃ t, mg "MAX_DEPTH" = some (.int 6 t)
def spOkTree (K : PySem.W.Frag) (g : Tree → V) : Sp := fun vs H Q _ => ∃ (v : V) (t : Tree), vs = [v] ∧ TA K H v t ∧ t.sz ≤ 12 ∧ t.dp ≤ 6 ∧ ∀ H', Same H H' → Q (g t) H'
def Tree.spine : Tree → List Tree
  | .L => [.L]
  | .N l r => .N l r :: l.spine
def spSpine (K : PySem.W.Frag) : Sp := fun vs H Q _ => ∃ (v : V) (t : Tree), vs = [v] ∧ TA K H v t ∧ t.sz ≤ 12 ∧ t.dp ≤ 6 ∧ ∀ (p : Addr) (vs : List V) (H' : Hp), Same H H' → H p = none → H' p = some (.lst vs) → DpAll K H' vs (t.spine.map Tree.d) → Q (.ref p) H'
theorem dpAll_snoc {K : PySem.W.Frag} {H : Hp} : ∀ {vs : List V} {ds : List PyData} {v : V} {d : PyData}, DpAll K H vs ds → Dp K H v d → DpAll K H (vs ++ [v]) (ds ++ [d])
  | _, _, _, _, .nil, h => .cons h .nil
  | _, _, _, _, .cons h1 h2, h => .cons h1 (dpAll_snoc h2 h)
theorem dpAll_len {K : PySem.W.Frag} {H : Hp} : ∀ {vs : List V} {ds : List PyData}, DpAll K H vs ds → vs.length = ds.length
  | _, _, .nil => rfl
  | _, _, .cons _ h2 => congrArg (· + 1) (dpAll_len h2)
theorem dpAll_at {K : PySem.W.Frag} {H : Hp} : ∀ {vs : List V} {ds : List PyData}, DpAll K H vs ds → ∀ (i : Nat) (d : PyData), ds[i]? = some d → ∃ v, vs[i]? = some v ∧ Dp K H v d
  | _, _, .nil, i, d, e => by simp at e
  | _, _, .cons h1 h2, 0, d, e => ⟨_, rfl, by cases e; exact h1⟩
  | _, _, .cons h1 h2, i + 1, d, e => dpAll_at h2 i d e
theorem dpAll_tp {K : PySem.W.Frag} {H H' : Hp} (e : Tp H H') : ∀ {ts : List Tree} {vs : List V}, DpAll K H vs (ts.map Tree.d) → DpAll K H' vs (ts.map Tree.d)
  | [], _, h => by
    cases h
    exact .nil
  | t :: ts, _, h => by
    cases h with
    | cons h1 h2 => exact .cons (ta_mono e h1) (dpAll_tp e h2)
theorem Tree.spine_len : ∀ t : Tree, t.spine.length ≤ t.dp + 1
  | .L => Nat.le_refl _
  | .N l r => by
    have h := spine_len l
    show l.spine.length + 1 ≤ max l.dp r.dp + 1 + 1
    omega
theorem Tree.spine_mem : ∀ {t u : Tree}, u ∈ t.spine → u.dp ≤ t.dp
  | .L, u, h => by
    cases List.mem_singleton.mp h
    exact Nat.le_refl _
  | .N l r, u, h => by
    rcases List.mem_cons.mp h with e | h
    · rw [e]
      exact Nat.le_refl _
    · have h2 := spine_mem h
      show u.dp ≤ max l.dp r.dp + 1
      omega
theorem Tree.spine_self : ∀ t : Tree, t ∈ t.spine
  | .L => List.mem_singleton.mpr rfl
  | .N _ _ => List.mem_cons_self
/-- the walk down the left: at p stands the list of what was met, its last one is still to be looked at -/
def Spn (K : PySem.W.Frag) (H H' : Hp) (p : Addr) (t : Tree) (m : Nat) : Prop := ∃ (vs : List V) (u : V) (ts : List Tree) (t' : Tree), Same H H' ∧ H' p = some (.lst (vs ++ [u])) ∧ DpAll K H' vs (ts.map Tree.d) ∧ TA K H' u t' ∧ ts ++ t'.spine = t.spine ∧ m = t'.nodes
theorem Spn.dp {t t' : Tree} {ts : List Tree} (et : ts ++ t'.spine = t.spine) (hd : t.dp ≤ 6) : t'.dp ≤ 63 := by
  have h : t' ∈ t.spine := by
    rw [← et]
    exact List.mem_append_right _ t'.spine_self
  have := Tree.spine_mem h
  omega
theorem Spn.lt {K : PySem.W.Frag} {H' : Hp} {vs : List V} {u : V} {t t' : Tree} {ts : List Tree} (hA : DpAll K H' vs (ts.map Tree.d)) (et : ts ++ t'.spine = t.spine) (hd : t.dp ≤ 6) : (vs ++ [u]).length < sizeLine := by
  have h1 := dpAll_len hA
  have h2 := congrArg List.length et
  have h3 := t.spine_len
  rw [List.length_map] at h1
  rw [List.length_append] at h2
  rw [List.length_append, List.length_singleton]
  exact small1000 (by omega)
theorem Spn.next {K : PySem.W.Frag} {H H' : Hp} {p p5 b : Addr} {vs : List V} {x1 x2 : V} {t l r : Tree} {ts : List Tree} (hp0 : H p = none) (sm : Same H H') (s5 : Same H' (upd H' p5 (.tup []))) (hl : H' p = some (.lst (vs ++ [.ref b]))) (hA : DpAll K H' vs (ts.map Tree.d)) (hS : SqT K H' b [x1, x2]) (hL : TA K H' x1 l) (hR : TA K H' x2 r)
    (et : ts ++ (Tree.N l r).spine = t.spine) : Spn K H (upd (upd H' p5 (.tup [])) p (.lst ((vs ++ [.ref b]) ++ [x1]))) p t l.nodes := by
  have tp : Tp H' (upd (upd H' p5 (.tup [])) p (.lst ((vs ++ [.ref b]) ++ [x1]))) := (Tp.same s5).trans (Tp.but (s5 _ _ hl) But.set)
  refine ⟨vs ++ [.ref b], x1, ts ++ [.N l r], l, fun c o e => ?_, upd_same, ?_, ta_mono tp hL, ?_, rfl⟩
  · rw [upd_ne (ne_of_none e hp0)]
    exact s5 _ _ (sm _ _ e)
  · rw [List.map_append]
    exact dpAll_snoc (dpAll_tp tp hA) (ta_node (tp.sqT hS) (ta_mono tp hL) (ta_mono tp hR))
  · rw [List.append_assoc]
    exact et
/-! ### data and their built-in types -/
def tn : PyData → String
  | .none => "NoneType"
  | .bool _ => "bool"
  | .int _ => "int"
  | .str _ => "str"
  | .list _ => "list"
  | .tuple _ => "tuple"
  | .dict _ => "dict"
def isT : PyData → Bool
  | .tuple _ => true
  | _ => false
def isLs : PyData → Bool
  | .list _ => true
  | _ => false
def isB : PyData → Bool
  | .bool _ => true
  | _ => false
theorem dp_ty {K : PySem.W.Frag} {H : Hp} {x : V} {d : PyData} (h : Dp K H x d) : TyX K H x (.type (tn d)) := by
  cases h with
  | non => exact .base .non
  | bl b => exact .base (.bl b)
  | int i => exact .base (.int i)
  | str z => exact .base (.str z)
  | lst hs _ => exact tyx_lst hs
  | tup hs _ => exact tyx_tup hs
theorem kit_dict {K : PySem.W.Frag} {H : Hp} {x : V} {d : PyData} (h : Dp K H x d) : PySem.W.kitOne K (.type (tn d)) (.type "dict") = some false := by
  cases h with
  | non => exact kit_ty (show kitB "NoneType" "dict" = some false by decide +kernel)
  | bl _ => exact kit_ty (show kitB "bool" "dict" = some false by decide +kernel)
  | int _ => exact kit_ty (show kitB "int" "dict" = some false by decide +kernel)
  | str _ => exact kit_ty (show kitB "str" "dict" = some false by decide +kernel)
  | lst _ _ => exact kit_ty (show kitB "list" "dict" = some false by decide +kernel)
  | tup _ _ => exact kit_ty (show kitB "tuple" "dict" = some false by decide +kernel)
theorem kit_tuple {K : PySem.W.Frag} {H : Hp} {x : V} {d : PyData} (h : Dp K H x d) : PySem.W.kitOne K (.type (tn d)) (.type "tuple") = some (isT d) := by
  cases h with
  | non => exact kit_ty (show kitB "NoneType" "tuple" = some false by decide +kernel)
  | bl _ => exact kit_ty (show kitB "bool" "tuple" = some false by decide +kernel)
  | int _ => exact kit_ty (show kitB "int" "tuple" = some false by decide +kernel)
  | str _ => exact kit_ty (show kitB "str" "tuple" = some false by decide +kernel)
  | lst _ _ => exact kit_ty (show kitB "list" "tuple" = some false by decide +kernel)
  | tup _ _ => exact kit_ty (show kitB "tuple" "tuple" = some true by decide +kernel)
theorem kit_list {K : PySem.W.Frag} {H : Hp} {x : V} {d : PyData} (h : Dp K H x d) : PySem.W.kitOne K (.type (tn d)) (.type "list") = some (isLs d) := by
  cases h with
  | non => exact kit_ty (show kitB "NoneType" "list" = some false by decide +kernel)
  | bl _ => exact kit_ty (show kitB "bool" "list" = some false by decide +kernel)
  | int _ => exact kit_ty (show kitB "int" "list" = some false by decide +kernel)
  | str _ => exact kit_ty (show kitB "str" "list" = some false by decide +kernel)
  | lst _ _ => exact kit_ty (show kitB "list" "list" = some true by decide +kernel)
  | tup _ _ => exact kit_ty (show kitB "tuple" "list" = some false by decide +kernel)
theorem kit_bool {K : PySem.W.Frag} {H : Hp} {x : V} {d : PyData} (h : Dp K H x d) : PySem.W.kitOne K (.type (tn d)) (.type "bool") = some (isB d) := by
  cases h with
  | non => exact kit_ty (show kitB "NoneType" "bool" = some false by decide +kernel)
  | bl _ => exact kit_ty (show kitB "bool" "bool" = some true by decide +kernel)
  | int _ => exact kit_ty (show kitB "int" "bool" = some false by decide +kernel)
  | str _ => exact kit_ty (show kitB "str" "bool" = some false by decide +kernel)
  | lst _ _ => exact kit_ty (show kitB "list" "bool" = some false by decide +kernel)
  | tup _ _ => exact kit_ty (show kitB "tuple" "bool" = some false by decide +kernel)
theorem kit_seq {K : PySem.W.Frag} {H : Hp} {x : V} {d : PyData} (h : Dp K H x d) : PySem.W.kitAny K (.type (tn d)) [.type "tuple", .type "list"] = some (isT d || isLs d) := by
  refine kitAny_cons (kit_tuple h) (fun e => kitAny_cons (kit_list h) (fun e2 => ?_) (fun e2 => ?_)) (fun e => ?_)
  · rw [e, e2]
    exact kitAny_nil
  · rw [e, e2]
    rfl
  · rw [e]
    rfl
mutual
/-- no list or tuple in it is longer than 1000 -/
def wide : PyData → Bool
  | .list xs | .tuple xs => decide (xs.length ≤ 1000) && wideAll xs
  | .none | .bool _ | .int _ | .str _ | .dict _ => true
def wideAll : List PyData → Bool
  | [] => true
  | x :: xs => wide x && wideAll xs
end
/-- two data that are the same are told to be the same -/
def spSame (K : PySem.W.Frag) (n : Nat) : Sp := fun vs H Q _ => ∃ (x y : V) (d : PyData), vs = [x, y] ∧ Dp K H x d ∧ Dp K H y d ∧ SeqAt.shaped d = true ∧ d.depth < n ∧ wide d = true ∧ ∀ H', Same H H' → Q (.bl true) H'
theorem shaped_at {ds : List PyData} {d : PyData} (hc : PyData.canLayAll0 ds = true) (hm : d ∈ ds) : d.canLay0 = true := by
  induction ds with
  | nil => cases hm
  | cons a r ih =>
    have h' : a.canLay0 = true ∧ PyData.canLayAll0 r = true := by simpa [PyData.canLayAll0] using hc
    rcases List.mem_cons.mp hm with e | hm
    · rw [e]
      exact h'.1
    · exact ih h'.2 hm
theorem depth_at {ds : List PyData} {d : PyData} (hm : d ∈ ds) : d.depth ≤ PyData.depthAll ds := by
  induction ds with
  | nil => cases hm
  | cons a r ih =>
    show d.depth ≤ max a.depth (PyData.depthAll r)
    rcases List.mem_cons.mp hm with e | hm
    · rw [e]
      omega
    · have := ih hm
      omega
theorem wide_at {ds : List PyData} {d : PyData} (hc : wideAll ds = true) (hm : d ∈ ds) : wide d = true := by
  induction ds with
  | nil => cases hm
  | cons a r ih =>
    have h' : wide a = true ∧ wideAll r = true := by simpa [wideAll] using hc
    rcases List.mem_cons.mp hm with e | hm
    · rw [e]
      exact h'.1
    · exact ih h'.2 hm
theorem all_rep : ∀ n : Nat, (List.replicate n true).all id = true
  | 0 => rfl
  | n + 1 => all_rep n
def spLaw (K : PySem.W.Frag) : Sp := fun vs H Q _ => ∃ (a : Addr) (ns : List Int), vs = [.ref a] ∧ SqL K H a (ns.map V.int) ∧ ∀ H', Q (.bl true) H'
/-! ### texts of trees -/
namespace Tree
def cs : Tree → List Nat
  | L => [120]
  | N l r => 40 :: (l.cs ++ (r.cs ++ [41]))
def txt (t : Tree) : Str := ⟨t.cs.toArray⟩
theorem cs_len : ∀ t : Tree, t.cs.length + 2 = 3 * t.sz
  | L => rfl
  | N l r => by
    have h1 := cs_len l
    have h2 := cs_len r
    show (40 :: (l.cs ++ (r.cs ++ [41]))).length + 2 = 3 * (l.sz + r.sz)
    rw [List.length_cons, List.length_append, List.length_append, List.length_singleton]
    omega
theorem txt_len (t : Tree) : t.txt.length = t.cs.length := by
  show t.cs.toArray.size = _
  simp
theorem txtN (l r : Tree) : (((Str.ofString "(" ++ l.txt) ++ r.txt) ++ Str.ofString ")") = (N l r).txt := by
  show (⟨((#[40] ++ l.cs.toArray) ++ r.cs.toArray) ++ #[41]⟩ : Str) = ⟨(40 :: (l.cs ++ (r.cs ++ [41]))).toArray⟩
  congr 1
  apply Array.toList_inj.mp
  simp
theorem txtL : Str.ofString "x" = L.txt := rfl
end Tree
def spText (K : PySem.W.Frag) (n : Nat) : Sp := fun vs H Q _ => ∃ (v : V) (t : Tree), vs = [v] ∧ TA K H v t ∧ t.dp < n ∧ n ≤ 40 ∧ t.sz ≤ 1000 ∧ ∀ H', Same H H' → Q (.str t.txt) H'
theorem spText_no {K : PySem.W.Frag} : ∀ vs H Q E, ¬ spText K 0 vs H Q E := fun vs H Q E h => by
  obtain ⟨v, t, _, _, h, _⟩ := h
  omega
theorem fits {n : Nat} (h : n ≤ 10000) : n ≤ sizeLine := Nat.le_trans h (by decide)
/-- the reader's pile: the lists of operands that are open, the innermost first -/
def room (ts : List Tree) (rest : List (List Tree)) : Nat := if rest.length = 0 then 1 else 2
def stp : List (List Tree) → Nat → Option (List (List Tree))
  | [], _ => none
  | ts :: rest, c => if c = 120 then (if ts.length < room ts rest then some ((ts ++ [.L]) :: rest) else none)
    else if c = 40 then (if ts.length < room ts rest then some ([] :: ts :: rest) else none)
    else if c = 41 then (match ts, rest with
      | [a, b], us :: more => some ((us ++ [.N a b]) :: more)
      | _, _ => none)
    else none
theorem stp_x (ts : List Tree) (rest : List (List Tree)) : stp (ts :: rest) 120 = if ts.length < room ts rest then some ((ts ++ [.L]) :: rest) else none := rfl
theorem stp_o (ts : List Tree) (rest : List (List Tree)) : stp (ts :: rest) 40 = if ts.length < room ts rest then some ([] :: ts :: rest) else none := rfl
theorem stp_c (ts : List Tree) (rest : List (List Tree)) : stp (ts :: rest) 41 = (match ts, rest with
      | [a, b], us :: more => some ((us ++ [.N a b]) :: more)
      | _, _ => none) := rfl
theorem stp_else (ts : List Tree) (rest : List (List Tree)) {c : Nat} (h1 : c ≠ 120) (h2 : c ≠ 40) (h3 : c ≠ 41) : stp (ts :: rest) c = none := by
  show (if c = 120 then _ else if c = 40 then _ else if c = 41 then _ else none) = none
  rw [if_neg h1, if_neg h2, if_neg h3]
def rn : List (List Tree) → List Nat → Option (List (List Tree))
  | st, [] => some st
  | st, c :: cs => (stp st c).bind fun st' => rn st' cs
theorem rn_tree : ∀ (t : Tree) (ts : List Tree) (rest : List (List Tree)) (more : List Nat), ts.length < room ts rest → rn (ts :: rest) (t.cs ++ more) = rn ((ts ++ [t]) :: rest) more
  | .L, ts, rest, more, h => by
    show (stp (ts :: rest) 120).bind (fun st' => rn st' more) = _
    rw [stp_x, if_pos h]
    rfl
  | .N l r, ts, rest, more, h => by
    have e : (Tree.N l r).cs ++ more = 40 :: (l.cs ++ (r.cs ++ (41 :: more))) := by
      show (40 :: (l.cs ++ (r.cs ++ [41]))) ++ more = _
      simp
    rw [e]
    show (stp (ts :: rest) 40).bind (fun st' => rn st' (l.cs ++ (r.cs ++ (41 :: more)))) = _
    have e1 : stp (ts :: rest) 40 = some ([] :: ts :: rest) := by
      rw [stp_o, if_pos h]
    rw [e1]
    show rn ([] :: ts :: rest) (l.cs ++ (r.cs ++ (41 :: more))) = _
    rw [rn_tree l [] (ts :: rest) _ (by show 0 < if (ts :: rest).length = 0 then 1 else 2; rw [if_neg (by simp)]; decide)]
    rw [rn_tree r _ (ts :: rest) _ (by show 1 < if (ts :: rest).length = 0 then 1 else 2; rw [if_neg (by simp)]; decide)]
    rfl
theorem rn_all (t : Tree) : rn [[]] t.cs = some [[t]] := by
  have h := rn_tree t [] [] [] (by decide)
  rw [List.append_nil] at h
  rw [h]
  rfl
theorem tlen {t : Tree} (h : t.sz ≤ 1000) : t.txt.length ≤ 3000 := by
  have h1 := t.cs_len
  have h2 := t.txt_len
  omega
theorem slen (a b : Str) : (a ++ b).length = a.length + b.length := by
  show (a.cps ++ b.cps).size = a.cps.size + b.cps.size
  simp
def spOkText (K : PySem.W.Frag) : Sp := fun vs H Q _ => ∃ (v : V) (t : Tree), vs = [v] ∧ TA K H v t ∧ t.sz ≤ 12 ∧ t.dp ≤ 6 ∧ ∀ H', Same H H' → Q (.str t.txt) H'
def spRoom : Sp := fun vs H Q _ => ∃ (p a : Addr) (as : List Addr) (ws : List V), vs = [.ref p] ∧ H p = some (.lst ((as ++ [a]).map V.ref)) ∧ H a = some (.lst ws) ∧ as.length ≤ 10000 ∧ ws.length ≤ 10000 ∧ Q (.bl (decide ((ws.length : Int) < if as.length = 0 then 1 else 2))) H
/-- reading the text of a tree gives the tree -/
def spRead (K : PySem.W.Frag) : Sp := fun vs H Q _ => ∃ t : Tree, vs = [.str t.txt] ∧ t.sz ≤ 1000 ∧ ∀ (v : V) (H' : Hp), TA K H' v t → Same H H' → Q v H'
def spParse (K : PySem.W.Frag) : Sp := fun vs H Q _ => ∃ t : Tree, vs = [.str t.txt] ∧ t.sz ≤ 12 ∧ t.dp ≤ 6 ∧ ∀ (v : V) (H' : Hp), TA K H' v t → Same H H' → Q v H'
inductive Pile (K : PySem.W.Frag) (G : Hp) : List Addr → List (List Tree) → Prop
  | nil : Pile K G [] []
  | cons {a : Addr} {vs : List V} {ts : List Tree} {as : List Addr} {st : List (List Tree)} : G a = some (.lst vs) → DpAll K G vs (ts.map Tree.d) → Pile K G as st → Pile K G (a :: as) (ts :: st)
theorem Pile.mono {K : PySem.W.Frag} {G G' : Hp} (tp : Tp G G') : ∀ {as : List Addr} {st : List (List Tree)}, (∀ a ∈ as, ∀ o, G a = some o → G' a = some o) → Pile K G as st → Pile K G' as st
  | _, _, _, .nil => .nil
  | _, _, k, .cons h1 h2 h3 => .cons (k _ List.mem_cons_self _ h1) (dpAll_tp tp h2) (Pile.mono tp (fun a ha => k a (List.mem_cons_of_mem _ ha)) h3)
/-- the pile at p, all of it new since H -/
def PileAt (K : PySem.W.Frag) (H G : Hp) (p : Addr) (st : List (List Tree)) : Prop := ∃ as : List Addr, G p = some (.lst (as.reverse.map V.ref)) ∧ as.Nodup ∧ p ∉ as ∧ H p = none ∧ (∀ a ∈ as, H a = none) ∧ Pile K G as st
theorem cs_small : ∀ (t : Tree) (c : Nat), c ∈ t.cs → c < 128
  | .L, c, h => by
    rw [List.mem_singleton.mp h]
    decide
  | .N l r, c, h => by
    have h : c ∈ 40 :: (l.cs ++ (r.cs ++ [41])) := h
    rcases List.mem_cons.mp h with e | h
    · rw [e]
      decide
    rcases List.mem_append.mp h with h | h
    · exact cs_small l c h
    rcases List.mem_append.mp h with h | h
    · exact cs_small r c h
    · rw [List.mem_singleton.mp h]
      decide
theorem txt_ok (t : Tree) : PyData.strOk t.txt = true := by
  show t.cs.toArray.all (· < 0x110000) = true
  rw [Array.all_eq_true']
  intro c hc
  have h := cs_small t c (by simpa using hc)
  exact decide_eq_true (by omega)
/-! ### the twenty errors of the law's words -/
def enames : List Str := ["InvalidTerm", "InvalidText", "InvalidPath", "PathNotFound", "NotRewritable", "TooLarge", "InvalidSize", "InvalidIndex", "InvalidWord", "InvalidStep", "InvalidElement", "InvalidModel", "NestingTooDeep", "InvalidLabel", "DuplicateName", "UnknownName", "LimitReached", "InvalidCommand", "EmptyHistory", "InvalidSnapshot"]
def en (i : Nat) : Str := enames.getD i ""
/-- where their classes stand -/
def Errs (mg : Str → Option Value) (cl : Nat → Addr) : Prop := ∀ i, i < 20 → mg (en i) = some (.ref (cl i))
/-- D's word is the j-th -/
structure Isw (K : PySem.W.Frag) (cl : Nat → Addr) (D : Addr) (j : Nat) : Prop where
  lt : j < 20
  kit : ∀ i, i < 20 → PySem.W.kitOne K (.ref D) (.ref (cl i)) = some (decide (i = j))
/-- the state between two rows: a list of n pairs -/
def NmI (H0 : Hp) (xh : Addr) (j n : Nat) (σ : L2.St) (H : Hp) : Prop := ∃ (L : Addr) (ps : List Addr), σ = [some (.ref xh), some (.ref L), none, none] ∧ Same H0 H ∧ ps.length = n ∧ H L = some (.lst (ps.map V.ref)) ∧
  ∀ i p, ps[i]? = some p → H p = some (.tup [.str (en i), .bl (decide (i = j))])
def tIs (K : PySem.W.Frag) (D xh c : Addr) : TE := fun σ H Q => tCons (tVar 0) (tCons (tC (.ref c)) tNil) σ H fun vs H1 => rIsB K D xh vs H1 Q
def tPr (K : PySem.W.Frag) (D xh : Addr) (cl : Nat → Addr) (i : Nat) : TE := tTup (tCons (tC (.str (en i))) (tCons (tIs K D xh (cl i)) tNil))
theorem tPr_ok {K : PySem.W.Frag} {D xh : Addr} {cl : Nat → Addr} {i j : Nat} {σ : L2.St} {H : Hp} {Q : VK} (hj : Isw K cl D j) (hi : i < 20) (e : σ[0]? = some (some (.ref xh))) (q : ∀ p, H p = none → Q (.ref p) (upd H p (.tup [.str (en i), .bl (decide (i = j))]))) : tPr K D xh cl i σ H Q := by
  exact ⟨_, e, _, _, _, rfl, .own _, hj.kit i hi, two_le, q⟩
theorem pairs_new {H0 H : Hp} {xh : Addr} {j n : Nat} {ps : List Addr} {p1 p2 : Addr} (hl : ps.length = n) (hp : ∀ i p, ps[i]? = some p → H p = some (.tup [.str (en i), .bl (decide (i = j))])) (n1 : H p1 = none)
    (n2 : upd H p1 (.tup [.str (en n), .bl (decide (n = j))]) p2 = none) :
    ∀ i p, (ps ++ [p1, p2])[i]? = some p → upd (upd H p1 (.tup [.str (en n), .bl (decide (n = j))])) p2 (.tup [.str (en (n + 1)), .bl (decide (n + 1 = j))]) p = some (.tup [.str (en i), .bl (decide (i = j))]) := by
  intro i p e
  have s1 := Same.new n1 (.tup [.str (en n), .bl (decide (n = j))])
  have s2 := Same.new n2 (.tup [.str (en (n + 1)), .bl (decide (n + 1 = j))])
  rcases Nat.lt_or_ge i ps.length with lt | ge
  · rw [List.getElem?_append_left lt] at e
    exact s2 _ _ (s1 _ _ (hp i p e))
  · rw [List.getElem?_append_right ge] at e
    obtain ⟨k, rfl⟩ : ∃ k, i = n + k := ⟨i - n, by omega⟩
    rw [show n + k - ps.length = k by omega] at e
    match k, e with
    | 0, e => cases e; exact s2 _ _ upd_same
    | 1, e => cases e; exact upd_same
theorem two_pr {K : PySem.W.Frag} {D xh : Addr} {cl : Nat → Addr} {i j : Nat} {σ : L2.St} {H : Hp} {Q : VK} (hj : Isw K cl D j) (hi : i + 1 < 20) (e : σ[0]? = some (some (.ref xh)))
    (q : ∀ p1 p2 L, H p1 = none → upd H p1 (.tup [.str (en i), .bl (decide (i = j))]) p2 = none → upd (upd H p1 (.tup [.str (en i), .bl (decide (i = j))])) p2 (.tup [.str (en (i + 1)), .bl (decide (i + 1 = j))]) L = none →
      Q (.ref L) (upd (upd (upd H p1 (.tup [.str (en i), .bl (decide (i = j))])) p2 (.tup [.str (en (i + 1)), .bl (decide (i + 1 = j))])) L (.lst [.ref p1, .ref p2]))) :
    tLst (tCons (tPr K D xh cl i) (tCons (tPr K D xh cl (i + 1)) tNil)) σ H Q := by
  show tPr K D xh cl i σ H (fun x H1 => tPr K D xh cl (i + 1) σ H1 fun y H2 => [x, y].length ≤ sizeLine ∧ ∀ p, H2 p = none → Q (.ref p) (upd H2 p (.lst [x, y])))
  refine tPr_ok hj (by omega) e fun p1 n1 => ?_
  refine tPr_ok hj hi e fun p2 n2 => ?_
  exact ⟨two_le, fun L nL => q p1 p2 L n1 n2 nL⟩
theorem nm_first {K : PySem.W.Frag} {D xh : Addr} {cl : Nat → Addr} {j : Nat} {H : Hp} {nx : L2.St → Hp → Prop} (hj : Isw K cl D j) (q : ∀ σ' H', NmI H xh j 2 σ' H' → nx σ' H') :
    tLst (tCons (tPr K D xh cl 0) (tCons (tPr K D xh cl 1) tNil)) [some (.ref xh), none, none, none] H fun x H1 => gName 1 x [some (.ref xh), none, none, none] H1 nx := by
  refine two_pr (i := 0) hj (by decide) rfl fun p1 p2 L n1 n2 nL => ?_
  have s3 := Same.new nL (.lst [.ref p1, .ref p2])
  exact q _ _ ⟨L, [p1, p2], rfl, ((Same.new n1 _).trans (Same.new n2 _)).trans s3, rfl, upd_same, fun i p e => s3 _ _ (pairs_new (ps := []) (n := 0) (H0 := H) (xh := xh) rfl (fun i p e => nomatch e) n1 n2 i p e)⟩
theorem nm_step {K : PySem.W.Frag} {D xh : Addr} {cl : Nat → Addr} {j n : Nat} {H0 H : Hp} {σ : L2.St} {nx : L2.St → Hp → Prop} (hj : Isw K cl D j) (hn : n + 1 < 20) (I : NmI H0 xh j n σ H) (q : ∀ σ' H', NmI H0 xh j (n + 2) σ' H' → nx σ' H') :
    tVar 1 σ H fun x H1 => (tLst (tCons (tPr K D xh cl n) (tCons (tPr K D xh cl (n + 1)) tNil))) σ H1 fun y H2 => rCat x y H2 fun z H3 => gName 1 z σ H3 nx := by
  obtain ⟨L, ps, rfl, sm, hl, hL, hp⟩ := I
  refine ⟨_, rfl, ?_⟩
  refine two_pr hj hn rfl fun p1 p2 b n1 n2 nb => ?_
  have s1 := (Same.new n1 (.tup [.str (en n), .bl (decide (n = j))])).trans (Same.new n2 (.tup [.str (en (n + 1)), .bl (decide (n + 1 = j))]))
  have s2 := Same.new nb (.lst [.ref p1, .ref p2])
  refine ⟨L, b, _, _, rfl, rfl, s2 _ _ (s1 _ _ hL), upd_same, ?_, fun r nr => ?_⟩
  · rw [List.length_map, hl]
    have : 100 ≤ sizeLine := by decide
    show n + 2 ≤ sizeLine
    omega
  · have s3 := Same.new nr (.lst (ps.map V.ref ++ [.ref p1, .ref p2]))
    refine q _ _ ⟨r, ps ++ [p1, p2], rfl, ((sm.trans s1).trans s2).trans s3, by rw [List.length_append, hl]; rfl, by rw [upd_same, List.map_append]; rfl, fun i p e => s3 _ _ (s2 _ _ (pairs_new (H0 := H) (xh := xh) hl hp n1 n2 i p e))⟩
theorem pe_no {X : Cx} {e : Expr} : PE X e (fun _ _ _ => False) := ⟨fun _ _ _ _ _ _ h => h.elim⟩
/-- a word without a field -/
def plainErr (j : Nat) : Bool := decide (j < 20) && !([1, 9, 17, 14, 15, 5, 19].contains j)
theorem plain_in3 : ∀ j, j < 20 → plainErr j = true → inV (.str (en j)) [.str (en 1), .str (en 9), .str (en 17)] = false := by decide +kernel
theorem plain_in2 : ∀ j, j < 20 → plainErr j = true → inV (.str (en j)) [.str (en 14), .str (en 15)] = false := by decide +kernel
theorem plain_big : ∀ j, j < 20 → plainErr j = true → decide (V.str (en j) = V.str (en 5)) = false := by decide +kernel
theorem plain_row : ∀ j, j < 20 → plainErr j = true → decide (V.str (en j) = V.str (en 19)) = false := by decide +kernel
theorem plain_lt {j : Nat} (h : plainErr j = true) : j < 20 := by
  unfold plainErr at h
  rw [Bool.and_eq_true] at h
  exact of_decide_eq_true h.1
theorem FnB.mono {P : Program} {w : World} {K : PySem.W.Frag} {mg : Str → Option Value} {base : Heap} {j k : Nat} {f : Addr} {fd : FuncData} {ps : List Str} {sp : Addr → Value → Option Addr → Sp} (F : FnB P w K mg base j f fd ps sp) (h : j ≤ k) : FnB P w K mg base k f fd ps sp :=
  fun A outer s H args us vs Q xh oh hr => F A outer s H args us vs Q xh oh (hr.mono h)
/-- the law's promise, its table empty -/
def spLawT (K : PySem.W.Frag) (Pt : Addr) : Sp := fun vs H Q _ => ∃ (a : Addr) (ns : List Int), vs = [.ref a] ∧ SqL K H a (ns.map V.int) ∧ H Pt = some (.tbl #[]) ∧ ∀ H', Q (.bl true) H'
/-! ### the numbers of terms -/
def shp : Nat → Int
  | 0 => 1
  | i + 1 => shp i * 2 * (2 * (1 + (i : Int)) - 1) / (1 + (i : Int) + 1)
theorem shp_cat (i : Nat) : shp i * (4 * (1 + (i : Int)) - 2) / (1 + (i : Int) + 1) = shp (i + 1) := by
  show _ = shp i * 2 * (2 * (1 + (i : Int)) - 1) / (1 + (i : Int) + 1)
  rw [Int.mul_assoc, show (2 : Int) * (2 * (1 + (i : Int)) - 1) = 4 * (1 + (i : Int)) - 2 by omega]
def shpS (n : Nat) : Int := ((List.range (n - 1)).map fun k => shp k * shp (n - 1 - (k + 1))).sum
theorem shp_sum : ∀ n, n < 31 → 1 < n → shp (n - 1) = shpS n := by decide +kernel
theorem shp_pos : ∀ n, n < 31 → 0 < shp n := by decide +kernel
def spShp : Sp := fun vs H Q _ => ∃ n : Nat, vs = [.int n] ∧ 1 ≤ n ∧ n ≤ 30 ∧ Q (.int (shp (n - 1))) H
/-- count_terms: a number, or the error -/
def spCount (C : Addr) : Sp := fun vs H Q E => ∃ n : Int, vs = [.int n] ∧ (1 ≤ n → n ≤ 30 → Q (.int (shp (n.toNat - 1))) H) ∧ (¬ (1 ≤ n ∧ n ≤ 30) → E (.ref C) none H)
/-- a def that may raise, with the context told -/
theorem Fun.okN {P : Program} {w : World} {K : PySem.W.Frag} {mg : Str → Option Value} {base : Heap} {x qual : Str} {st : Stmt} {f : Addr} {fd : FuncData} {N ps : List Str} {k : Nat} {sp : Sp} (F : L2.Fun K x qual st f fd) (S : FnScope N ps (defScope st)) (len : ∀ vs H Q E, sp vs H Q E → vs.length = ps.length)
    (hbody : ∀ (cdv : Value) (A : Around) (outer : List Env) (s : Shared) (H : Hp) (vs : List V) (Q : VK) (E : XK), Room k (A.deeper (PyProof.Rows.envOfC qual (defScope st) s.heap.objs.size f cdv)) → sp vs H Q E →
      ∃ t, PSs (cxOf (L2N.CX P w) P w K mg base N qual (defScope st) f cdv A outer s H E) (defBody st) t ∧ t { nx := fun _ H' => Q .non H', rt := Q } (L2.start N vs) H) : FnOk P w K mg base (L2N.CX P w) (k + 1) f fd ps sp := by
  obtain ⟨oc, od, kV, doc, pm, an, cdv, ct, osl, rfl, lk, hcd⟩ := F.ex
  exact fn_of lk hcd S len fun A outer s H vs Q E hr hsp => hbody cdv A outer s H vs Q E hr hsp
/-- what a raise of the class wants -/
structure ErrC (K : PySem.W.Frag) (mg : Str → Option Value) (x : Str) (C : Addr) : Prop where
  q : PySem.W.excIn K C [.type "ValueError", .type "Exception", .type "BaseException", .type "object"] "ValueError.__new__" = true
  g : mg x = some (.ref C)
  k : PySem.W.keepIn K (.ref C) = true
  b : PySem.W.subIn K (.ref C) (.type "BaseException") = some true
  t : PySem.W.typeIn K (.ref C) = some (.type "type")
theorem passF {X : Cx} : Passes (L2N.CX X.prog X.w) X (fun _ _ _ => False) := fun _ _ _ _ _ _ _ ⟨_, _, _, _, _, _, _, _, _, _, _, _, z⟩ => z.elim
theorem passL {X : Cx} {A : Around} {outer : List Env} {s : Shared} {H : Hp} {E : XK} {scope : Scope} {f c : Addr} : Passes (L2N.CX X.prog X.w) (lamCxN X A outer s H E scope f c) E :=
  L2N.passes_call (X := lamCxN X A outer s H E scope f c) (W := fun cls d _ H => E cls d H) (L2N.takes_of rfl rfl rfl rfl) fun _ _ _ _ h => h
theorem shp_bd : ∀ n, n < 31 → -(2 ^ 64) < shp n ∧ shp n < 2 ^ 64 := by decide +kernel
def prts (n i : Nat) : List Int := (List.range i).map fun k => shp k * shp (n - 1 - (k + 1))
theorem prts_len (n i : Nat) : (prts n i).length = i := by unfold prts; rw [List.length_map, List.length_range]
theorem prts_next (n i : Nat) : prts n (i + 1) = prts n i ++ [shp i * shp (n - 1 - (i + 1))] := by unfold prts; rw [List.range_succ, List.map_append]; rfl
theorem fourV {a b c d : V} : ([a, b, c, d] : List V).length ≤ sizeLine := by show 4 ≤ sizeLine; decide
theorem fiveV {a b c d e : V} : ([a, b, c, d, e] : List V).length ≤ sizeLine := by show 5 ≤ sizeLine; decide
theorem tabs_set {T : List (Addr × Str)} {H H' : Hp} {D : Addr} {xs : List V} (t : LamX.Tabs T H) (hD : H D = some (.lst xs)) (e : ∀ b o, b ≠ D → H b = some o → H' b = some o) : LamX.Tabs T H' := fun p hp => by
  obtain ⟨ps, h1, h2, h3⟩ := t p hp
  refine ⟨ps, e _ _ (fun z => by rw [z, hD] at h1; cases h1) h1, h2, fun pos cv ec => ?_⟩
  obtain ⟨c, rfl, hc⟩ := h3 pos cv ec
  exact ⟨c, rfl, e _ _ (fun z => by rw [z, hD] at hc; cases hc) hc⟩
section
variable {P : Program} {w : World} {K : PySem.W.Frag} {mg : Str → Option Value} {base : Heap} {f : Addr} {fd : FuncData}
abbrev s__law_draws : Stmt := top 27
theorem sc__law_draws : FnScope ["_law_script", "_law_salt", "_law_cell"] ["_law_script"] (defScope s__law_draws) := ⟨rfl, rfl, rfl, by decide +kernel, rfl, by decide +kernel, by decide +kernel⟩
theorem ok__law_draws (d : D K mg "_law_draws" s__law_draws ["_law_script"] f fd) (B : Blt mg) : FnOk P w K mg base CX0 1 f fd ["_law_script"] (spDraws K) := by
  refine d.F.ok sc__law_draws (fun vs H Q E h => ?_) (fun cdv A outer s H vs Q E hr h => ?_)
  · obtain ⟨a, ns, rfl, _⟩ := h
    rfl
  obtain ⟨a, ns, rfl, hS, q⟩ := h
  refine ⟨_, (pss_cons (ps_set (i := 1) sc__law_draws.nd rfl (Or.inl rfl) pe_int)
 (pss_cons (ps_for PassesOwn.never rfl (pi_list (pe_slice sl_list (pv 0) po_none (po_some pe_int))) (pg_name (i := 2) sc__law_draws.nd rfl (Or.inl rfl))
  (pss_one (ps_set (i := 1) sc__law_draws.nd rfl (Or.inl rfl) (pe_op op_mod (pe_op op_add (pe_op op_add (pe_op op_mul (pv 1) pe_int) (pe_op op_mod (pv 2) pe_int)) pe_int) pe_int))))
 (pss_one (ps_ret (pe_lst (pa_cons (pe_callTy call_list_of (by rfl) B.list (by decide +kernel) (pa_cons (pe_slice sl_list (pv 0) po_none (po_some pe_int)) pa_nil)) (pa_cons pe_int (pa_cons pe_int (pa_cons (pv 1) pa_nil))))))))), ?_⟩
  refine ⟨_, rfl, 63, rfl, a, _, rfl, hS, fun p hp => ?_⟩
  rw [cut63]
  have s1 : Same H (upd H p (.lst ((ns.take 63).map V.int))) := Same.new hp _
  refine ⟨p, rfl, ⟨_, SqL.here upd_same⟩, for_list (K := K) (a := p) (xs := (ns.take 63).map V.int) (fun i σ H' => ∃ (s : Int) (v : Option V), σ = [some (.ref a), some (.int s), v] ∧ 0 ≤ s ∧ s < 2147483647 ∧ H' = upd H p (.lst ((ns.take 63).map V.int)))
    ⟨9471, none, rfl, by decide, by decide, rfl⟩ (fun i σ H' _ ⟨_, _, _, _, _, e⟩ => by rw [e]; exact SqL.here upd_same) ?_ ?_⟩
  · rintro i x σ H' hi ⟨s, v, rfl, h0, h1, rfl⟩
    obtain ⟨u, rfl⟩ : ∃ u, x = V.int u := by
      rw [List.getElem?_map] at hi
      cases e : (ns.take 63)[i]? with
      | none =>
        rw [e] at hi
        cases hi
      | some u =>
        rw [e] at hi
        exact ⟨u, (Option.some.inj hi).symm⟩
    refine ⟨_, rfl, _, _, rfl, rfl, .inl ⟨by omega, by omega⟩, _, rfl, _, _, rfl, rfl, (by show (0 : Int) < 2147483587; decide), _, _, rfl, rfl, _, _, rfl, rfl, _, _, rfl, rfl, (by show (0 : Int) < 2147483647; decide), ?_⟩
    exact ⟨_, _, rfl, Int.emod_nonneg _ (by decide), Int.emod_lt_of_pos _ (by decide), rfl⟩
  · rintro σ H' ⟨s, v, rfl, h0, h1, rfl⟩
    refine ⟨_, rfl, 63, rfl, a, _, rfl, s1.seq hS, fun p2 hp2 => ?_⟩
    rw [cut63]
    have s2 := s1.trans (Same.new hp2 (.lst ((ns.take 63).map V.int)))
    refine ⟨p2, _, rfl, .inl (SqL.here upd_same), fun c hc => ?_⟩
    have s3 := s2.trans (Same.new hc (.lst ((ns.take 63).map V.int)))
    refine ⟨_, rfl, four_le, fun r hr' => ?_⟩
    have nrc : c ≠ r := fun e => by
      rw [← e, upd_same] at hr'
      cases hr'
    refine q r _ (s3.trans (Same.new hr' _)) (s3.free hr') ⟨c, ns.take 63, 0, 0, s, upd_same, ?_, nrc, by decide, by decide, h0, h1⟩
    rw [upd_ne nrc, upd_same]

abbrev s__law_draw : Stmt := top 28
theorem sc__law_draw : FnScope ["_law_rng", "_law_amount", "_law_cell", "_law_got", "_law_seed"] ["_law_rng", "_law_amount"] (defScope s__law_draw) := ⟨rfl, rfl, rfl, by decide +kernel, rfl, by decide +kernel, by decide +kernel⟩
theorem ok__law_draw (d : D K mg "_law_draw" s__law_draw ["_law_rng", "_law_amount"] f fd) (B : Blt mg) : FnOk P w K mg base CX0 1 f fd ["_law_rng", "_law_amount"] spDraw := by
  refine d.F.ok sc__law_draw (fun vs H Q E h => ?_) (fun cdv A outer s H vs Q E hr h => ?_)
  · obtain ⟨a, ns, rfl, _⟩ := h
    rfl
  obtain ⟨r, n, rfl, ⟨c, ns, i, b, s, hR, hC, ncr, hi, hb, h0, h1⟩, hn, hn2, q⟩ := h
  refine ⟨_, (C8.pss_cut (ps_if (PW.pt (pw_and (pt_cmpR op_eq (pe_ix ix_list (pv 0) pe_int (fun _ _ => rfl)) pe_int (nomark _)) (pw_and1 (pt_cmpR op_lt (pe_ix ix_list (pv 0) pe_int (fun _ _ => rfl)) (pe_callB call_len_seq (by rfl) B.len PySem.boot_len (pa_cons (pe_ix ix_list (pv 0) pe_int (fun _ _ => rfl)) pa_nil)) (nomark _))))) (pss_cons (ps_set (i := 2) sc__law_draw.nd rfl (Or.inl rfl) (pe_ix ix_list (pe_ix ix_list (pv 0) pe_int (fun _ _ => rfl)) (pe_ix ix_list (pv 0) pe_int (fun _ _ => rfl)) (fun _ _ => rfl)))
 (pss_cons (ps_asg (pe_op op_add (pe_ix ix_list (pv 0) pe_int (fun _ _ => rfl)) pe_int) (pg_sub (pv 0) pe_int set_list))
 (pss_one (ps_if (pt_cmpR op_ge (pv 2) (pe_op op_pow pe_int pe_int) (nomark _)) (pss_one (ps_asg (pv 2) (pg_sub (pv 0) pe_int set_list))) (pss_one (ps_asg (pe_op op_mod (pe_op op_add (pe_op op_add (pe_op op_mul (pe_ix ix_list (pv 0) pe_int (fun _ _ => rfl)) pe_int) (pe_op op_mul (pe_op op_mod (pv 2) pe_int) pe_int)) pe_int) pe_int) (pg_sub (pv 0) pe_int set_list))))))) pss_nil)
 (pss_cons (ps_if (pt_cmpR op_gt (pe_ix ix_list (pv 0) pe_int (fun _ _ => rfl)) pe_int (nomark _)) (pss_cons (ps_set (i := 3) sc__law_draw.nd rfl (Or.inl rfl) (pe_op op_mod (pe_ix ix_list (pv 0) pe_int (fun _ _ => rfl)) (pv 1)))
 (pss_cons (ps_asg (pe_op op_fdiv (pe_ix ix_list (pv 0) pe_int (fun _ _ => rfl)) (pv 1)) (pg_sub (pv 0) pe_int set_list))
 (pss_one (ps_ret (pv 3))))) pss_nil)
 (pss_cons (ps_set (i := 4) sc__law_draw.nd rfl (Or.inl rfl) (pe_ix ix_list (pv 0) pe_int (fun _ _ => rfl)))
 (pss_cons (ps_asg (pe_op op_mod (pe_op op_add (pe_op op_add (pe_op op_mul (pv 4) pe_int) (pe_op op_mul (pe_op op_fdiv (pv 4) pe_int) pe_int)) pe_int) pe_int) (pg_sub (pv 0) pe_int set_list))
 (pss_one (ps_ret (pe_op op_mod (pe_op op_add (pe_op op_fdiv (pe_ix ix_list (pv 0) pe_int (fun _ _ => rfl)) pe_int) (pe_op op_mul (pe_op op_mod (pe_ix ix_list (pv 0) pe_int (fun _ _ => rfl)) pe_int) pe_int)) (pv 1)))))))), ?_⟩
  refine ⟨fun σ H1 => ∃ (i b s : Int) (cell : Option V), σ = [some (.ref r), some (.int n), cell, none, none] ∧ But r H H1 ∧ H1 r = some (.lst [.ref c, .int i, .int b, .int s]) ∧ H1 c = some (.lst (ns.map V.int)) ∧ 0 ≤ i ∧ 0 ≤ b ∧ 0 ≤ s ∧ s < 2147483647, ?_, ?_⟩
  · refine ⟨_, rfl, r, _, 2, _, rfl, rfl, SqL.here hR, rfl, rfl, _, rfl, ?_⟩
    refine ite2 (fun c1 => ?_) (fun c1 => ?_)
    · refine ⟨_, rfl, r, _, 1, _, rfl, rfl, SqL.here hR, rfl, _, rfl, r, _, 0, _, rfl, rfl, SqL.here hR, rfl, c, _, rfl, .inl (SqL.here hC), _, _, rfl, rfl, _, rfl, ?_⟩
      refine ite2 (fun c2 => ?_) (fun c2 => ?_)
      · have c3 : i < (((ns.map V.int).length : Nat) : Int) := of_decide_eq_true c2
        rw [List.length_map] at c3
        have hk : i.toNat < ns.length := by omega
        have ek : i = ((i.toNat : Nat) : Int) := by omega
        obtain ⟨u, q1⟩ : ∃ u, atI (ns.map V.int) i = some (.int u) := by
          refine ⟨ns[i.toNat], ?_⟩
          have q0 : atI (ns.map V.int) ((i.toNat : Nat) : Int) = some (.int ns[i.toNat]) := atI_nat (by rw [List.getElem?_map, List.getElem?_eq_getElem hk] <;> rfl)
          rw [← ek] at q0
          exact q0
        refine ⟨_, rfl, r, _, 0, _, rfl, rfl, SqL.here hR, rfl, _, rfl, r, _, 1, _, rfl, rfl, SqL.here hR, rfl, c, _, i, _, rfl, rfl, SqL.here hC, q1, ?_⟩
        -- rng[1] = rng[1] + 1
        refine ⟨_, rfl, r, _, 1, _, rfl, rfl, SqL.here hR, rfl, _, _, rfl, rfl, _, rfl, r, _, 1, 1, rfl, rfl, hR, rfl, ?_⟩
        have hC2 : (upd H r (.lst [.ref c, .int (i + 1), .int b, .int s])) c = some (.lst (ns.map V.int)) := by rw [upd_ne ncr]; exact hC
        refine ⟨_, rfl, _, _, rfl, rfl, ⟨by decide, by decide, by decide⟩, _, _, rfl, rfl, _, rfl, ?_⟩
        refine ite2 (fun c4 => ?_) (fun c4 => ?_)
        · have c5 : (10 : Int) ^ (18 : Int).toNat ≤ u := of_decide_eq_true c4
          have c6 : (0 : Int) ≤ (10 : Int) ^ (18 : Int).toNat := by decide
          refine ⟨_, rfl, _, rfl, r, _, 2, 2, rfl, rfl, upd_same, rfl, ?_⟩
          refine ⟨i + 1, u, s, _, rfl, But.set.trans But.set, upd_same, ?_, by omega, by omega, h0, h1⟩
          rw [upd_ne ncr]
          exact hC2
        · refine ⟨_, rfl, r, _, 3, _, rfl, rfl, SqL.here upd_same, rfl, _, _, rfl, rfl, .inl ⟨by omega, by omega⟩, _, rfl, _, _, rfl, rfl, (by show (0 : Int) < 2147483587; decide), _, _, rfl, rfl, .inl ⟨?_, ?_⟩, _, _, rfl, rfl, _, _, rfl, rfl, _, _, rfl, rfl, (by show (0 : Int) < 2147483647; decide), _, rfl, r, _, 3, 3, rfl, rfl, upd_same, rfl, ?_⟩
          · have := Int.emod_nonneg u (show (2147483587 : Int) ≠ 0 by decide)
            omega
          · have := Int.emod_lt_of_pos u (show (0 : Int) < 2147483587 by decide)
            omega
          · refine ⟨i + 1, b, _, _, rfl, But.set.trans But.set, upd_same, ?_, by omega, hb, Int.emod_nonneg _ (by decide), Int.emod_lt_of_pos _ (by decide)⟩
            rw [upd_ne ncr]
            exact hC2
      · exact ⟨i, b, s, none, rfl, fun _ _ _ h => h, hR, hC, hi, hb, h0, h1⟩
    · exact iteF ⟨i, b, s, none, rfl, fun _ _ _ h => h, hR, hC, hi, hb, h0, h1⟩
  · rintro σ H1 ⟨i, b, s, cell, rfl, e1, hR, hC, hi, hb, h0, h1⟩
    refine ⟨_, rfl, r, _, 2, _, rfl, rfl, SqL.here hR, rfl, _, _, rfl, rfl, _, rfl, ?_⟩
    refine ite2 (fun c1 => ?_) (fun c1 => ?_)
    · refine ⟨_, rfl, r, _, 2, _, rfl, rfl, SqL.here hR, rfl, _, rfl, _, _, rfl, rfl, hn, ?_⟩
      refine ⟨_, rfl, r, _, 2, _, rfl, rfl, SqL.here hR, rfl, _, rfl, _, _, rfl, rfl, ⟨hn, hn2⟩, _, rfl, r, _, 2, 2, rfl, rfl, hR, rfl, _, rfl, ?_⟩
      refine q _ _ (Int.emod_nonneg _ (by omega)) (Int.emod_lt_of_pos _ hn) ⟨c, ns, i, _, s, upd_same, ?_, ncr, hi, Int.ediv_nonneg hb (by omega), h0, h1⟩ (e1.trans But.set)
      rw [upd_ne ncr]
      exact hC
    · refine ⟨_, rfl, r, _, 3, _, rfl, rfl, SqL.here hR, rfl, ?_⟩
      refine ⟨_, rfl, _, _, rfl, rfl, .inl ⟨by omega, by omega⟩, _, rfl, _, _, rfl, rfl, ⟨by decide, by decide⟩, _, _, rfl, rfl, .inl ⟨?_, ?_⟩, _, _, rfl, rfl, _, _, rfl, rfl, _, _, rfl, rfl, (by show (0 : Int) < 2147483647; decide), _, rfl, r, _, 3, 3, rfl, rfl, hR, rfl, ?_⟩
      · have := Int.ediv_nonneg h0 (show (0 : Int) ≤ 65539 by decide)
        omega
      · have : s / 65539 ≤ s := Int.ediv_le_self _ h0
        omega
      · have z0 : 0 ≤ (s * 62089 + s / 65539 * 29 + 1013904223) % 2147483647 := Int.emod_nonneg _ (by decide)
        have z1 : (s * 62089 + s / 65539 * 29 + 1013904223) % 2147483647 < 2147483647 := Int.emod_lt_of_pos _ (by decide)
        refine ⟨_, rfl, r, _, 3, _, rfl, rfl, SqL.here upd_same, rfl, _, _, rfl, rfl, ⟨by decide, by decide⟩, _, rfl, r, _, 3, _, rfl, rfl, SqL.here upd_same, rfl, _, _, rfl, rfl, (by show (0 : Int) < 8191; decide), _, _, rfl, rfl, .inl ⟨?_, ?_⟩, _, _, rfl, rfl, _, rfl, _, _, rfl, rfl, hn, ?_⟩
        · have := Int.emod_nonneg ((s * 62089 + s / 65539 * 29 + 1013904223) % 2147483647) (show (8191 : Int) ≠ 0 by decide)
          omega
        · have := Int.emod_lt_of_pos ((s * 62089 + s / 65539 * 29 + 1013904223) % 2147483647) (show (0 : Int) < 8191 by decide)
          omega
        · refine q _ _ (Int.emod_nonneg _ (by omega)) (Int.emod_lt_of_pos _ hn) ⟨c, ns, i, b, _, upd_same, ?_, ncr, hi, hb, z0, z1⟩ (e1.trans But.set)
          rw [upd_ne ncr]
          exact hC

abbrev s__law_same : Stmt := top 29
theorem sc__law_same : FnScope ["_law_result", "_law_expected", "_law_k"] ["_law_result", "_law_expected"] (defScope s__law_same) := ⟨rfl, rfl, rfl, by decide +kernel, rfl, by decide +kernel, by decide +kernel⟩
theorem same_ix {H : Hp} {x y : V} {d : PyData} {ds : List PyData} (hd : d = .list ds ∨ d = .tuple ds) (hx : Dp K H x d) : ∃ a xs, x = .ref a ∧ (SqL K H a xs ∨ SqT K H a xs) ∧ DpAll K H xs ds := by
  rcases hd with rfl | rfl
  · cases hx with
    | lst hs ha => exact ⟨_, _, rfl, .inl hs, ha⟩
  · cases hx with
    | tup hs ha => exact ⟨_, _, rfl, .inr hs, ha⟩
theorem rix_of {H : Hp} {a : Addr} {xs : List V} {i : Nat} {v : V} {Q : VK} (h : SqL K H a xs ∨ SqT K H a xs) (hi : xs[i]? = some v) (q : Q v H) : rIx K (.ref a) (.int (0 + (i : Int))) H Q := by
  have e : (0 + (i : Int)) = (i : Int) := by omega
  rcases h with h | h
  · exact .inl ⟨a, xs, _, v, rfl, rfl, h, by rw [e]; exact atI_nat hi, q⟩
  · exact .inr (.inl ⟨a, xs, _, v, rfl, rfl, h, by rw [e]; exact atI_nat hi, q⟩)
theorem same_sq {H H' : Hp} {a : Addr} {xs : List V} (e : Same H H') (h : SqL K H a xs ∨ SqT K H a xs) : SqL K H' a xs ∨ SqT K H' a xs := by
  rcases h with h | h
  · exact .inl (e.seq h)
  · exact .inr ((Tp.same e).sqT h)
theorem ok__law_same (d__law_same : D K mg "_law_same" s__law_same ["_law_result", "_law_expected"] f fd) (B : Blt mg) : ∀ n : Nat, FnOk P w K mg base CX0 n f fd ["_law_result", "_law_expected"] (spSame K n)
  | 0 => fn_none fun vs H Q E h => by
    obtain ⟨_, _, _, _, _, _, _, h, _⟩ := h
    omega
  | n + 1 => by
    have G__law_same := ok__law_same d__law_same B n
    refine d__law_same.F.ok sc__law_same (fun vs H Q E h => ?_) (fun cdv A outer s H vs Q E hr h => ?_)
    · obtain ⟨_, _, _, rfl, _⟩ := h
      rfl
    obtain ⟨x, y, d, rfl, hx, hy, hs, hd, hw, q⟩ := h
    refine ⟨_, (pss_cons (ps_if (pt_val (pe_callB call_isi (by rfl) B.isinstance (by decide +kernel) (pa_cons (pv 1) (pa_cons (pe_bltn (v := .ty "dict") (by rfl) B.dict (by decide +kernel) rfl) pa_nil)))) (pss_one ps_never) pss_nil)
 (pss_cons (ps_if (PW.pt (pw_or (pt_cmpR op_ne (pe_callB call_isi (by rfl) B.isinstance (by decide +kernel) (pa_cons (pv 1) (pa_cons (pe_bltn (v := .ty "tuple") (by rfl) B.tuple (by decide +kernel) rfl) pa_nil))) (pe_callB call_isi (by rfl) B.isinstance (by decide +kernel) (pa_cons (pv 0) (pa_cons (pe_bltn (v := .ty "tuple") (by rfl) B.tuple (by decide +kernel) rfl) pa_nil))) (nomark _)) (pw_or1 (pt_cmpR op_ne (pe_callB call_isi (by rfl) B.isinstance (by decide +kernel) (pa_cons (pv 1) (pa_cons (pe_bltn (v := .ty "list") (by rfl) B.list (by decide +kernel) rfl) pa_nil))) (pe_callB call_isi (by rfl) B.isinstance (by decide +kernel) (pa_cons (pv 0) (pa_cons (pe_bltn (v := .ty "list") (by rfl) B.list (by decide +kernel) rfl) pa_nil))) (nomark _))))) (pss_one (ps_ret pe_bl)) pss_nil)
 (pss_cons (ps_if (pt_not (pt_val (pe_callB call_isiT (by rfl) B.isinstance (by decide +kernel) (pa_cons (pv 1) (pa_cons (pe_tup (pa_cons (pe_bltn (v := .ty "tuple") (by rfl) B.tuple (by decide +kernel) rfl) (pa_cons (pe_bltn (v := .ty "list") (by rfl) B.list (by decide +kernel) rfl) pa_nil))) pa_nil))))) (pss_one (ps_ret (pe_and (pe_cmpR op_eq (pe_callB call_isi (by rfl) B.isinstance (by decide +kernel) (pa_cons (pv 0) (pa_cons (pe_bltn (v := .ty "bool") (by rfl) B.bool (by decide +kernel) rfl) pa_nil))) (pe_callB call_isi (by rfl) B.isinstance (by decide +kernel) (pa_cons (pv 1) (pa_cons (pe_bltn (v := .ty "bool") (by rfl) B.bool (by decide +kernel) rfl) pa_nil))) (nomark _)) (pe_one (pe_cmpR (op_eqD hr.units) (pv 0) (pv 1) (nomark _)))))) pss_nil)
 (pss_one (ps_ret (pe_and (pe_cmpR op_eq (pe_callB call_len_seq (by rfl) B.len PySem.boot_len (pa_cons (pv 0) pa_nil)) (pe_callB call_len_seq (by rfl) B.len PySem.boot_len (pa_cons (pv 1) pa_nil)) (nomark _)) (pe_one (pe_callB (cr_all rfl) (by rfl) B.all (by decide +kernel) (pa_cons (pe_lc (own := [("_law_k", 2)]) (g := gName 2) (tt := tYes) (by rfl) sc__law_same.nd (pi_range1 (by rfl) B.range (pa_cons (pe_callB call_len_seq (by rfl) B.len PySem.boot_len (pa_cons (pv 1) pa_nil)) pa_nil)) (blkOk_by (own := [("_law_k", 2)]) (N := ["_law_result", "_law_expected", "_law_k"]) (sc := defScope s__law_same) (by decide +kernel)) (fun _ _ _ _ _ => (pg_name (i := 2) sc__law_same.nd rfl (Or.inl rfl))) (fun _ _ _ _ _ => pts_nil) (fun _ _ _ _ _ => (pe_call G__law_same hr rfl d__law_same.m d__law_same.F.kp d__law_same.b .nil pass0 (pa_cons (pe_ix (r := rIx K) ix_seq (pv 0) (pv 2) (fun _ _ => rfl)) (pa_cons (pe_ix (r := rIx K) ix_seq (pv 1) (pv 2) (fun _ _ => rfl)) pa_nil))))) pa_nil))))))))), ?_⟩
    refine ⟨_, rfl, _, _, _, _, false, rfl, .ty "dict", dp_ty hy, kit_dict hy, false, rfl, iteF ?_⟩
    refine ⟨_, rfl, _, _, _, _, _, rfl, .ty "tuple", dp_ty hy, kit_tuple hy, _, rfl, _, _, _, _, _, rfl, .ty "tuple", dp_ty hx, kit_tuple hx, rfl, _, rfl, ite_no ?_ ?_⟩
    · rw [decide_eq_true rfl]
      rfl
    refine ⟨_, rfl, _, _, _, _, _, rfl, .ty "list", dp_ty hy, kit_list hy, _, rfl, _, _, _, _, _, rfl, .ty "list", dp_ty hx, kit_list hx, rfl, _, rfl, ite_no ?_ ?_⟩
    · rw [decide_eq_true rfl]
      rfl
    refine ⟨_, rfl, two_le, fun p hp => ?_⟩
    have s1 := Same.new hp (.tup [.ty "tuple", .ty "list"])
    have hx1 := dp_same s1 d hx
    have hy1 := dp_same s1 d hy
    refine ⟨_, p, _, _, _, _, rfl, upd_same, .cons (.ty _) (.cons (.ty _) .nil), dp_ty hy1, kit_seq hy1, _, rfl, ?_⟩
    generalize (upd H p (.tup [.ty "tuple", .ty "list"])) = H1 at *
    cases hsq : (isT d || isLs d) with
    | false =>
      refine iteT ?_
      refine ⟨_, rfl, _, _, _, _, _, rfl, .ty "bool", dp_ty hx1, kit_bool hx1, _, rfl, _, _, _, _, _, rfl, .ty "bool", dp_ty hy1, kit_bool hy1, rfl, true, ?_, iteT ?_⟩
      · rw [decide_eq_true rfl]
      · refine ⟨_, rfl, _, rfl, d, d, hx1, hy1, hs, hs, ?_⟩
        rw [SeqAt.eqv_refl d (SeqAt.canLay_of_shaped hs)]
        exact q H1 s1
    | true =>
      refine iteF ?_
      obtain ⟨ds, hds⟩ : ∃ ds, d = .list ds ∨ d = .tuple ds := by
        cases d <;> first | exact ⟨_, .inl rfl⟩ | exact ⟨_, .inr rfl⟩ | exact absurd (show false = true from hsq) (by decide)
      obtain ⟨a, xs, rfl, hX, hXA⟩ := same_ix (y := y) hds hx1
      obtain ⟨b, ys, rfl, hY, hYA⟩ := same_ix (y := .ref a) hds hy1
      have lx := dpAll_len hXA
      have ly := dpAll_len hYA
      have hcan : PyData.canLayAll0 ds = true := by
        have := SeqAt.canLay_of_shaped hs
        rcases hds with rfl | rfl <;> exact this
      have hdep : d.depth = PyData.depthAll ds + 1 := by rcases hds with rfl | rfl <;> rfl
      have hd64 := SeqAt.depth_of_shaped hs
      have hwd : ds.length ≤ 1000 ∧ wideAll ds = true := by
        have h0 : (decide (ds.length ≤ 1000) && wideAll ds) = true := by rcases hds with rfl | rfl <;> exact hw
        have h1 := Bool.and_eq_true_iff.mp h0
        exact ⟨of_decide_eq_true h1.1, h1.2⟩
      refine ⟨_, rfl, a, _, rfl, hX, _, rfl, b, _, rfl, hY, rfl, true, ?_, iteT ?_⟩
      · rw [lx, ly, decide_eq_true rfl]
      refine ⟨_, rfl, b, _, rfl, hY, (ys.length : Int), rfl, by omega, by omega, fun D hD => ?_⟩
      refine lc_range (lo := 0) (n := ((ys.length : Int)).toNat) (fun i H' => Same H1 H' ∧ H' D = some (.lst (List.replicate i (V.bl true)))) ⟨Same.new hD _, upd_same⟩ ?_ ?_
      · rintro i H' hi ⟨sm, hl⟩
        have hi' : i < ds.length := by omega
        obtain ⟨u, eu, hu⟩ := dpAll_at hXA i ds[i] (List.getElem?_eq_getElem hi')
        obtain ⟨v, ev, hv⟩ := dpAll_at hYA i ds[i] (List.getElem?_eq_getElem hi')
        have hm : ds[i] ∈ ds := List.getElem_mem hi'
        have hdi := depth_at hm
        refine ⟨rfl, ?_⟩
        refine ⟨_, rfl, _, rfl, rix_of (same_sq sm hX) eu ⟨_, rfl, _, rfl, rix_of (same_sq sm hY) ev ⟨u, v, ds[i], rfl, dp_same sm _ hu, dp_same sm _ hv, ?_, by omega, wide_at hwd.2 hm, fun H2 s2 => ?_⟩⟩⟩
        · unfold SeqAt.shaped
          rw [shaped_at hcan hm, decide_eq_true (by omega)]
          rfl
        · refine ⟨_, s2 _ _ hl, by rw [List.length_replicate]; exact small1000 (by omega), fun c o e => ?_, ?_⟩
          · rw [upd_ne (ne_of_none e hD)]
            exact s2 _ _ (sm _ _ e)
          · rw [upd_same, List.replicate_succ']
      · rintro H' ⟨sm, hl⟩
        refine ⟨D, List.replicate ((ys.length : Int)).toNat true, rfl, SqL.here (by rw [hl, List.map_replicate]), ?_⟩
        rw [all_rep]
        exact q H' (s1.trans sm)

abbrev s__law_catalan : Stmt := top 33
theorem sc__law_catalan : FnScope ["_law_many", "_law_result", "_law_k"] ["_law_many"] (defScope s__law_catalan) := ⟨rfl, rfl, rfl, by decide +kernel, rfl, by decide +kernel, by decide +kernel⟩
theorem ok__law_catalan (d : D K mg "_law_catalan" s__law_catalan ["_law_many"] f fd) (B : Blt mg) : FnOk P w K mg base CX0 1 f fd ["_law_many"] spShp := by
  refine d.F.ok sc__law_catalan (fun vs H Q E h => ?_) (fun cdv A outer s H vs Q E hr h => ?_)
  · obtain ⟨_, rfl, _⟩ := h
    rfl
  obtain ⟨n, rfl, h1, h2, q⟩ := h
  refine ⟨_, (pss_cons (ps_set (i := 1) sc__law_catalan.nd rfl (Or.inl rfl) pe_int)
 (pss_cons (ps_for PassesOwn.never rfl (pi_range2 (by rfl) B.range (pa_cons pe_int (pa_cons (pv 0) pa_nil))) (pg_name (i := 2) sc__law_catalan.nd rfl (Or.inl rfl))
  (pss_one (ps_set (i := 1) sc__law_catalan.nd rfl (Or.inl rfl) (pe_op op_fdiv (pe_op op_mul (pv 1) (pe_op op_sub (pe_op op_mul pe_int (pv 2)) pe_int)) (pe_op op_add (pv 2) pe_int)))))
 (pss_one (ps_ret (pv 1))))), ?_⟩
  refine ⟨_, rfl, _, _, rfl, ⟨by omega, by omega, by omega, by omega⟩, for_range (lo := 1) (n := ((n : Int) - 1).toNat) (fun i σ H' => ∃ x : Option V, σ = [some (.int n), some (.int (shp i)), x] ∧ H' = H) ⟨none, rfl, rfl⟩ ?_ ?_⟩
  · rintro i σ H' hi ⟨x, rfl, rfl⟩
    refine ⟨_, rfl, _, rfl, _, _, rfl, rfl, .inl ⟨by decide, by decide⟩, _, _, rfl, rfl, _, _, rfl, rfl, .inr ⟨by omega, by omega⟩, _, rfl, _, _, rfl, rfl, _, _, rfl, rfl, ⟨by omega, by omega⟩, some (.int (1 + (i : Int))), ?_, rfl⟩
    rw [← shp_cat i]
    rfl
  · rintro σ H' ⟨x, rfl, rfl⟩
    refine ⟨_, rfl, ?_⟩
    rw [show ((n : Int) - 1).toNat = n - 1 by omega]
    exact q

abbrev s__law_error_name : Stmt := top 30
theorem sc__law_error_name : FnScope ["_law_e", "_law_some", "_law_word", "_law_so"] ["_law_e"] (defScope s__law_error_name) := ⟨rfl, rfl, rfl, by decide +kernel, rfl, by decide +kernel, by decide +kernel⟩
theorem ok__law_error_name {CT : Addr} {word : Addr → Option Str} {cl : Nat → Addr} (d : D K mg "_law_error_name" s__law_error_name ["_law_e"] f fd) (B : Blt mg) (M : Errs mg cl) (hw : ∀ D nm, word D = some nm → ∃ j, Isw K cl D j ∧ nm = en j) : FnB P w K mg base 1 f fd ["_law_e"] (spName K CT word) := by
  refine Fun.okB d.F sc__law_error_name (fun cdv A outer s H vs Q xh oh hr hb h => ?_)
  obtain ⟨D0, nm, hcl, W, ew, rfl, q⟩ := h
  obtain ⟨j, hj, rfl⟩ := hw _ _ ew
  have hdd := W.nod
  have C := W.exc
  refine ⟨_, (pss_cons (ps_set (i := 1) sc__law_error_name.nd rfl (Or.inl rfl) (pe_lst (pa_cons (pe_tup (pa_cons pe_str (pa_cons (pe_callB (call_isB hb C hcl hdd) (by rfl) B.isinstance (by decide +kernel) (pa_cons (pv 0) (pa_cons (pe_glob (v := .ref (cl 0)) rfl (M 0 (by decide)) rfl) pa_nil))) pa_nil))) (pa_cons (pe_tup (pa_cons pe_str (pa_cons (pe_callB (call_isB hb C hcl hdd) (by rfl) B.isinstance (by decide +kernel) (pa_cons (pv 0) (pa_cons (pe_glob (v := .ref (cl 1)) rfl (M 1 (by decide)) rfl) pa_nil))) pa_nil))) pa_nil))))
 (pss_cons (ps_set (i := 1) sc__law_error_name.nd rfl (Or.inl rfl) (pe_op op_cat (pv 1) (pe_lst (pa_cons (pe_tup (pa_cons pe_str (pa_cons (pe_callB (call_isB hb C hcl hdd) (by rfl) B.isinstance (by decide +kernel) (pa_cons (pv 0) (pa_cons (pe_glob (v := .ref (cl 2)) rfl (M 2 (by decide)) rfl) pa_nil))) pa_nil))) (pa_cons (pe_tup (pa_cons pe_str (pa_cons (pe_callB (call_isB hb C hcl hdd) (by rfl) B.isinstance (by decide +kernel) (pa_cons (pv 0) (pa_cons (pe_glob (v := .ref (cl 3)) rfl (M 3 (by decide)) rfl) pa_nil))) pa_nil))) pa_nil)))))
 (pss_cons (ps_set (i := 1) sc__law_error_name.nd rfl (Or.inl rfl) (pe_op op_cat (pv 1) (pe_lst (pa_cons (pe_tup (pa_cons pe_str (pa_cons (pe_callB (call_isB hb C hcl hdd) (by rfl) B.isinstance (by decide +kernel) (pa_cons (pv 0) (pa_cons (pe_glob (v := .ref (cl 4)) rfl (M 4 (by decide)) rfl) pa_nil))) pa_nil))) (pa_cons (pe_tup (pa_cons pe_str (pa_cons (pe_callB (call_isB hb C hcl hdd) (by rfl) B.isinstance (by decide +kernel) (pa_cons (pv 0) (pa_cons (pe_glob (v := .ref (cl 5)) rfl (M 5 (by decide)) rfl) pa_nil))) pa_nil))) pa_nil)))))
 (pss_cons (ps_set (i := 1) sc__law_error_name.nd rfl (Or.inl rfl) (pe_op op_cat (pv 1) (pe_lst (pa_cons (pe_tup (pa_cons pe_str (pa_cons (pe_callB (call_isB hb C hcl hdd) (by rfl) B.isinstance (by decide +kernel) (pa_cons (pv 0) (pa_cons (pe_glob (v := .ref (cl 6)) rfl (M 6 (by decide)) rfl) pa_nil))) pa_nil))) (pa_cons (pe_tup (pa_cons pe_str (pa_cons (pe_callB (call_isB hb C hcl hdd) (by rfl) B.isinstance (by decide +kernel) (pa_cons (pv 0) (pa_cons (pe_glob (v := .ref (cl 7)) rfl (M 7 (by decide)) rfl) pa_nil))) pa_nil))) pa_nil)))))
 (pss_cons (ps_set (i := 1) sc__law_error_name.nd rfl (Or.inl rfl) (pe_op op_cat (pv 1) (pe_lst (pa_cons (pe_tup (pa_cons pe_str (pa_cons (pe_callB (call_isB hb C hcl hdd) (by rfl) B.isinstance (by decide +kernel) (pa_cons (pv 0) (pa_cons (pe_glob (v := .ref (cl 8)) rfl (M 8 (by decide)) rfl) pa_nil))) pa_nil))) (pa_cons (pe_tup (pa_cons pe_str (pa_cons (pe_callB (call_isB hb C hcl hdd) (by rfl) B.isinstance (by decide +kernel) (pa_cons (pv 0) (pa_cons (pe_glob (v := .ref (cl 9)) rfl (M 9 (by decide)) rfl) pa_nil))) pa_nil))) pa_nil)))))
 (pss_cons (ps_set (i := 1) sc__law_error_name.nd rfl (Or.inl rfl) (pe_op op_cat (pv 1) (pe_lst (pa_cons (pe_tup (pa_cons pe_str (pa_cons (pe_callB (call_isB hb C hcl hdd) (by rfl) B.isinstance (by decide +kernel) (pa_cons (pv 0) (pa_cons (pe_glob (v := .ref (cl 10)) rfl (M 10 (by decide)) rfl) pa_nil))) pa_nil))) (pa_cons (pe_tup (pa_cons pe_str (pa_cons (pe_callB (call_isB hb C hcl hdd) (by rfl) B.isinstance (by decide +kernel) (pa_cons (pv 0) (pa_cons (pe_glob (v := .ref (cl 11)) rfl (M 11 (by decide)) rfl) pa_nil))) pa_nil))) pa_nil)))))
 (pss_cons (ps_set (i := 1) sc__law_error_name.nd rfl (Or.inl rfl) (pe_op op_cat (pv 1) (pe_lst (pa_cons (pe_tup (pa_cons pe_str (pa_cons (pe_callB (call_isB hb C hcl hdd) (by rfl) B.isinstance (by decide +kernel) (pa_cons (pv 0) (pa_cons (pe_glob (v := .ref (cl 12)) rfl (M 12 (by decide)) rfl) pa_nil))) pa_nil))) (pa_cons (pe_tup (pa_cons pe_str (pa_cons (pe_callB (call_isB hb C hcl hdd) (by rfl) B.isinstance (by decide +kernel) (pa_cons (pv 0) (pa_cons (pe_glob (v := .ref (cl 13)) rfl (M 13 (by decide)) rfl) pa_nil))) pa_nil))) pa_nil)))))
 (pss_cons (ps_set (i := 1) sc__law_error_name.nd rfl (Or.inl rfl) (pe_op op_cat (pv 1) (pe_lst (pa_cons (pe_tup (pa_cons pe_str (pa_cons (pe_callB (call_isB hb C hcl hdd) (by rfl) B.isinstance (by decide +kernel) (pa_cons (pv 0) (pa_cons (pe_glob (v := .ref (cl 14)) rfl (M 14 (by decide)) rfl) pa_nil))) pa_nil))) (pa_cons (pe_tup (pa_cons pe_str (pa_cons (pe_callB (call_isB hb C hcl hdd) (by rfl) B.isinstance (by decide +kernel) (pa_cons (pv 0) (pa_cons (pe_glob (v := .ref (cl 15)) rfl (M 15 (by decide)) rfl) pa_nil))) pa_nil))) pa_nil)))))
 (pss_cons (ps_set (i := 1) sc__law_error_name.nd rfl (Or.inl rfl) (pe_op op_cat (pv 1) (pe_lst (pa_cons (pe_tup (pa_cons pe_str (pa_cons (pe_callB (call_isB hb C hcl hdd) (by rfl) B.isinstance (by decide +kernel) (pa_cons (pv 0) (pa_cons (pe_glob (v := .ref (cl 16)) rfl (M 16 (by decide)) rfl) pa_nil))) pa_nil))) (pa_cons (pe_tup (pa_cons pe_str (pa_cons (pe_callB (call_isB hb C hcl hdd) (by rfl) B.isinstance (by decide +kernel) (pa_cons (pv 0) (pa_cons (pe_glob (v := .ref (cl 17)) rfl (M 17 (by decide)) rfl) pa_nil))) pa_nil))) pa_nil)))))
 (pss_cons (ps_set (i := 1) sc__law_error_name.nd rfl (Or.inl rfl) (pe_op op_cat (pv 1) (pe_lst (pa_cons (pe_tup (pa_cons pe_str (pa_cons (pe_callB (call_isB hb C hcl hdd) (by rfl) B.isinstance (by decide +kernel) (pa_cons (pv 0) (pa_cons (pe_glob (v := .ref (cl 18)) rfl (M 18 (by decide)) rfl) pa_nil))) pa_nil))) (pa_cons (pe_tup (pa_cons pe_str (pa_cons (pe_callB (call_isB hb C hcl hdd) (by rfl) B.isinstance (by decide +kernel) (pa_cons (pv 0) (pa_cons (pe_glob (v := .ref (cl 19)) rfl (M 19 (by decide)) rfl) pa_nil))) pa_nil))) pa_nil)))))
 (pss_one (ps_ret (pe_join pe_str (pe_lcB (own := [("_law_word", 2), ("_law_so", 3)]) (g := gTup K 2 (gCons (gName 2) (gCons (gName 3) gNil))) (tt := fun σ H Q => tVar 3 σ H fun x G => ∃ k, TruV K x G k ∧ Q k G) (te := tVar 2) hb sc__law_error_name.nd (pv 1) (blkOk_by (own := [("_law_word", 2), ("_law_so", 3)]) (N := ["_law_e", "_law_some", "_law_word", "_law_so"]) (sc := defScope s__law_error_name) (by decide +kernel)) (fun _ _ _ _ _ hb2 => pg_tupB hb2 (pgs_cons (pg_name (i := 2) sc__law_error_name.nd rfl (Or.inl rfl)) (pgs_cons (pg_name (i := 3) sc__law_error_name.nd rfl (Or.inl rfl)) pgs_nil))) (fun _ _ _ _ _ => (pts_one (pt_truth (pv 3) (by intro _; rfl)))) (fun _ _ _ _ _ => (pv 2)))))))))))))))), ?_⟩
  refine nm_first (cl := cl) hj fun σ1 H1 I1 => ?_
  refine nm_step (n := 2) hj (by decide) I1 fun σ1 H1 I1 => ?_
  refine nm_step (n := 4) hj (by decide) I1 fun σ1 H1 I1 => ?_
  refine nm_step (n := 6) hj (by decide) I1 fun σ1 H1 I1 => ?_
  refine nm_step (n := 8) hj (by decide) I1 fun σ1 H1 I1 => ?_
  refine nm_step (n := 10) hj (by decide) I1 fun σ1 H1 I1 => ?_
  refine nm_step (n := 12) hj (by decide) I1 fun σ1 H1 I1 => ?_
  refine nm_step (n := 14) hj (by decide) I1 fun σ1 H1 I1 => ?_
  refine nm_step (n := 16) hj (by decide) I1 fun σ1 H1 I1 => ?_
  refine nm_step (n := 18) hj (by decide) I1 fun σ1 H1 I1 => ?_
  obtain ⟨L, ps, rfl, sm, hl, hL, hp⟩ := I1
  refine ⟨⟨_, rfl⟩, _, rfl, L, ps.map V.ref, rfl, SqL.here hL, fun D1 nD => ⟨fun i G => Same H1 G ∧ G D1 = some (.lst (if j < i then [.str (en j)] else [])), ⟨Same.new nD _, upd_same⟩, fun i G _ z => SqL.here (z.1 _ _ hL), ?_, ?_⟩⟩
  · rintro i v G hi ⟨sG, hD⟩
    rw [List.getElem?_map] at hi
    obtain ⟨p, ep, rfl⟩ := Option.map_eq_some_iff.mp hi
    have tp := sG _ _ (hp i p ep)
    have nDp : p ≠ D1 := fun z => by
      have z1 := hp i p ep
      rw [z, nD] at z1
      cases z1
    refine ⟨p, _, rfl, SqT.here tp, rfl, _, _, rfl, _, _, rfl, rfl, rfl, _, rfl, _, rfl, ?_⟩
    refine ite2 (fun c' => ?_) (fun c' => ?_)
    · have c : i = j := of_decide_eq_true c'
      refine ⟨_, rfl, _, hD, ?_, fun b u z => (by rw [upd_ne (ne_of_none z nD)]; exact sG b u z), ?_⟩
      · rw [if_neg (by omega)]
        exact Nat.lt_of_lt_of_le (show 0 < 1 by decide) (show 1 ≤ sizeLine by decide)
      · rw [upd_same, if_neg (by omega), if_pos (by omega), c]
        rfl
    · have c : ¬ i = j := by first | exact of_decide_eq_false c' | exact fun z => c' (decide_eq_true z)
      refine ⟨sG, ?_⟩
      rw [hD]
      by_cases c2 : j < i
      · rw [if_pos c2, if_pos (by omega)]
      · rw [if_neg c2, if_neg (by omega)]
  · rintro G ⟨sG, hD⟩
    rw [List.length_map, hl, if_pos hj.lt] at hD
    refine ⟨_, D1, [en j], rfl, rfl, .inl (SqL.here hD), ?_, ?_⟩
    · have z : ∀ i, i < 20 → ((([en i] : List Str).map (·.length)).sum + ([en i] : List Str).length * ("+" : Str).length) ≤ 16777216 := by decide +kernel
      exact z j hj.lt
    · exact q G (sm.trans sG)

abbrev s__law_error_field : Stmt := top 31
theorem sc__law_error_field : FnScope ["_law_e", "_law_word"] ["_law_e", "_law_word"] (defScope s__law_error_field) := ⟨rfl, rfl, rfl, by decide +kernel, rfl, by decide +kernel, by decide +kernel⟩
theorem ok__law_error_field {word : Addr → Option Str} {fld : Addr → Option Addr → Hp → V → Prop} (d : D K mg "_law_error_field" s__law_error_field ["_law_e", "_law_word"] f fd) (B : Blt mg) (hw : ∀ D nm dd H v, word D = some nm → fld D dd H v → v = .non ∧ ∃ j, plainErr j = true ∧ nm = en j) : FnB P w K mg base 1 f fd ["_law_e", "_law_word"] (spField word fld) := by
  refine Fun.okB d.F sc__law_error_field (fun cdv A outer s H vs Q xh oh hr hb h => ?_)
  obtain ⟨D0, nm, v, hcl, ew, hf, rfl, q⟩ := h
  obtain ⟨rfl, j, hj, rfl⟩ := hw _ _ _ _ _ ew hf
  refine ⟨_, (pss_cons (ps_if (pt_cmpR op_in_seq (pv 1) (pe_lst (pa_cons pe_str (pa_cons pe_str (pa_cons pe_str pa_nil)))) (by with_unfolding_all rfl)) (pss_one ps_never) pss_nil)
 (pss_cons (ps_if (pt_cmpR op_in_seq (pv 1) (pe_lst (pa_cons pe_str (pa_cons pe_str pa_nil))) (by with_unfolding_all rfl)) (pss_one ps_never) pss_nil)
 (pss_cons (ps_if (pt_cmpR op_eq (pv 1) pe_str (nomark _)) (pss_one ps_never) pss_nil)
 (pss_one (ps_ret (pe_ifExp (pt_cmpR op_eq (pv 1) pe_str (nomark _)) pe_no pe_non)))))), ?_⟩
  refine ⟨_, rfl, by decide, fun p1 n1 => ⟨p1, _, rfl, .inl (SqL.here upd_same), rfl, rfl, _, rfl, ?_⟩⟩
  refine ite2 (fun c => absurd ((plain_in3 j (plain_lt hj) hj).symm.trans c) (by decide)) (fun _ => ?_)
  refine ⟨_, rfl, by decide, fun p2 n2 => ⟨p2, _, rfl, .inl (SqL.here upd_same), rfl, rfl, _, rfl, ?_⟩⟩
  refine ite2 (fun c => absurd ((plain_in2 j (plain_lt hj) hj).symm.trans c) (by decide)) (fun _ => ?_)
  refine ⟨_, rfl, rfl, _, rfl, ?_⟩
  refine ite2 (fun c => absurd ((plain_big j (plain_lt hj) hj).symm.trans c) (by decide)) (fun _ => ?_)
  refine ⟨_, rfl, rfl, _, rfl, ?_⟩
  refine ite2 (fun c => absurd ((plain_row j (plain_lt hj) hj).symm.trans c) (by decide)) (fun _ => ?_)
  exact q _ ((Same.new n1 _).trans (Same.new n2 _))

abbrev s_shapes_of : Stmt := top 25
theorem sc_shapes_of : FnScope ["size", "count", "pairs"] ["size"] (defScope s_shapes_of) := ⟨rfl, rfl, rfl, by decide +kernel, rfl, by decide +kernel, by decide +kernel⟩
theorem ok_shapes_of (d : D K mg "shapes_of" s_shapes_of ["size"] f fd) (B : Blt mg) : FnOk P w K mg base CX0 1 f fd ["size"] spShp := by
  refine d.F.ok sc_shapes_of (fun vs H Q E h => ?_) (fun cdv A outer s H vs Q E hr h => ?_)
  · obtain ⟨_, rfl, _⟩ := h
    rfl
  obtain ⟨n, rfl, h1, h2, q⟩ := h
  refine ⟨_, (pss_cons (ps_set (i := 1) sc_shapes_of.nd rfl (Or.inl rfl) pe_int)
 (pss_cons (ps_for PassesOwn.never rfl (pi_range2 (by rfl) B.range (pa_cons pe_int (pa_cons (pv 0) pa_nil))) (pg_name (i := 2) sc_shapes_of.nd rfl (Or.inl rfl))
  (pss_one (ps_set (i := 1) sc_shapes_of.nd rfl (Or.inl rfl) (pe_op op_fdiv (pe_op op_mul (pe_op op_mul (pv 1) pe_int) (pe_op op_sub (pe_op op_mul pe_int (pv 2)) pe_int)) (pe_op op_add (pv 2) pe_int)))))
 (pss_one (ps_ret (pv 1))))), ?_⟩
  refine ⟨_, rfl, _, _, rfl, ⟨by omega, by omega, by omega, by omega⟩, for_range (lo := 1) (n := ((n : Int) - 1).toNat) (fun i σ H' => ∃ x : Option V, σ = [some (.int n), some (.int (shp i)), x] ∧ H' = H) ⟨none, rfl, rfl⟩ ?_ ?_⟩
  · rintro i σ H' hi ⟨x, rfl, rfl⟩
    refine ⟨_, rfl, _, _, rfl, rfl, .inr ⟨by decide, by decide⟩, _, rfl, _, _, rfl, rfl, .inl ⟨by decide, by decide⟩, _, _, rfl, rfl, _, _, rfl, rfl, .inr ⟨by omega, by omega⟩, _, rfl, _, _, rfl, rfl, _, _, rfl, rfl, ⟨by omega, by omega⟩, _, rfl, rfl⟩
  · rintro σ H' ⟨x, rfl, rfl⟩
    refine ⟨_, rfl, ?_⟩
    rw [show ((n : Int) - 1).toNat = n - 1 by omega]
    exact q

abbrev s_count_terms : Stmt := top 24
theorem sc_count_terms : FnScope ["size"] ["size"] (defScope s_count_terms) := ⟨rfl, rfl, rfl, by decide +kernel, rfl, by decide +kernel, by decide +kernel⟩
theorem ok_count_terms {C f1 : Addr} {e1 : FuncData} {tk : Tok} (d : D K mg "count_terms" s_count_terms ["size"] f fd) (B : Blt mg) (EC : ErrC K mg "InvalidSize" C) (C_MAX_COUNTED_SIZE : mg "MAX_COUNTED_SIZE" = some (.int 30 tk)) (d_shapes_of : D K mg "shapes_of" s_shapes_of ["size"] f1 e1) : FnOk P w K mg base (L2N.CX P w) 2 f fd ["size"] (spCount C) := by
  have G_shapes_of : FnOk P w K mg base CX0 1 f1 e1 ["size"] spShp := ok_shapes_of d_shapes_of B
  refine Fun.okN d.F sc_count_terms (fun vs H Q E h => ?_) (fun cdv A outer s H vs Q E hr h => ?_)
  · obtain ⟨_, rfl, _⟩ := h
    rfl
  obtain ⟨n, rfl, h1, h2⟩ := h
  refine ⟨_, (pss_cons (ps_if (pt_not (pt_chain op_le op_le pe_int (pv 0) (pe_glob (v := .int 30) rfl C_MAX_COUNTED_SIZE ⟨_, rfl⟩))) (pss_one (L2N.ps_raise rfl (L2N.takes_of rfl rfl rfl rfl) (L2N.pmk_own PySem.F.excBase_ValueError EC.q EC.g EC.k (raises_own EC.b EC.t) (by exact rfl)))) pss_nil)
 (pss_one (ps_ret (pe_call G_shapes_of (hr.mono (by decide)) rfl d_shapes_of.m d_shapes_of.F.kp d_shapes_of.b .nil pass0 (pa_cons (pv 0) pa_nil))))), ?_⟩
  refine ⟨_, rfl, _, _, rfl, rfl, _, rfl, ?_⟩
  refine ite2 (fun c1 => ?_) (fun c1 => ?_)
  · have c1 : 1 ≤ n := of_decide_eq_true c1
    refine ⟨_, _, rfl, rfl, _, rfl, ?_⟩
    refine ite2 (fun c2 => ?_) (fun c2 => ?_)
    · have c2 : ¬ n ≤ 30 := fun z => by rw [decide_eq_true z] at c2; cases c2
      exact h2 fun z => c2 z.2
    · have c2 : n ≤ 30 := by
        by_cases z : n ≤ 30
        · exact z
        · rw [decide_eq_false z] at c2
          exact absurd rfl c2
      refine ⟨_, rfl, n.toNat, ?_, by omega, by omega, h1 c1 c2⟩
      rw [show ((n.toNat : Nat) : Int) = n by omega]
      rfl
  · have c1 : ¬ 1 ≤ n := fun z => by rw [decide_eq_true z] at c1; exact c1 rfl
    exact ⟨_, rfl, h2 fun z => c1 z.1⟩

abbrev s_law : Stmt := top 34
theorem sc_law : FnScope ["_law_script", "_law_rng", "_law_many", "_law_k", "_law_parts", "_law_bad"] ["_law_script"] (defScope s_law) := ⟨rfl, rfl, rfl, by decide +kernel, rfl, by decide +kernel, by decide +kernel⟩
abbrev s__law_try : Stmt := top 32
theorem sc__law_try : FnScope ["_law_ask", "_law_e", "_law_word"] ["_law_ask"] (defScope s__law_try) := ⟨rfl, rfl, rfl, by decide +kernel, rfl, by decide +kernel, by decide +kernel⟩
def lamQ : Str := (PyProof.Rows.envOfC "law" (defScope s_law) 0 0 .none).qual ++ "<lambda>"
theorem ok_law {f1 f2 f3 f4 f5 f6 f7 f8 f9 : Addr} {e1 e2 e3 e4 e5 e6 e7 e8 e9 : FuncData} {c Pt CT CS : Addr} {cl : Nat → Addr} {word : Addr → Option Str} {fld : Addr → Option Addr → Hp → V → Prop} {tk : Tok} {oc dV kV doc pm ct : Value} {od an : Option Addr} {osl : Array (Option Value)}
    (lk : K.lookup f = some ⟨oc, od, .func (PySem.W.fnOf "law" "law" (defArgs s_law) (defBody s_law) (defScope s_law) dV kV doc pm an (.ref c) ct), osl⟩) (hcd : PySem.W.codeIn K (.ref c) "law" = true) (TB : LamX.TabB base mg c Pt) (B : Blt mg)
    (hword : word = fun D => if D = CS then some (en 6) else none) (hfld : fld = fun _ _ _ v => v = .non)
    (M : Errs mg cl) (hI : Isw K cl CS 6) (hW : Wd K CT CS none) (EC : ErrC K mg "InvalidSize" CS) (mT : mg "TermError" = some (.ref CT)) (C_MAX_COUNTED_SIZE : mg "MAX_COUNTED_SIZE" = some (.int 30 tk))
    (d__law_draws : D K mg "_law_draws" s__law_draws ["_law_script"] f1 e1) (d__law_draw : D K mg "_law_draw" s__law_draw ["_law_rng", "_law_amount"] f2 e2) (d__law_same : D K mg "_law_same" s__law_same ["_law_result", "_law_expected"] f3 e3)
    (d__law_error_name : D K mg "_law_error_name" s__law_error_name ["_law_e"] f4 e4) (d__law_error_field : D K mg "_law_error_field" s__law_error_field ["_law_e", "_law_word"] f5 e5) (d__law_try : D K mg "_law_try" s__law_try ["_law_ask"] f6 e6)
    (d__law_catalan : D K mg "_law_catalan" s__law_catalan ["_law_many"] f7 e7) (d_count_terms : D K mg "count_terms" s_count_terms ["size"] f8 e8) (d_shapes_of : D K mg "shapes_of" s_shapes_of ["size"] f9 e9) :
    FnOk P w K mg base CX0 64 f (PySem.W.fnOf "law" "law" (defArgs s_law) (defBody s_law) (defScope s_law) dV kV doc pm an (.ref c) ct) ["_law_script"] (spLawT K Pt) := by
  have G__law_draws : FnOk P w K mg base CX0 1 f1 e1 ["_law_script"] (spDraws K) := ok__law_draws d__law_draws B
  have G__law_draw : FnOk P w K mg base CX0 1 f2 e2 ["_law_rng", "_law_amount"] spDraw := ok__law_draw d__law_draw B
  have G__law_same : FnOk P w K mg base CX0 12 f3 e3 ["_law_result", "_law_expected"] (spSame K 12) := ok__law_same d__law_same B 12
  have G__law_catalan : FnOk P w K mg base CX0 1 f7 e7 ["_law_many"] spShp := ok__law_catalan d__law_catalan B
  have G_count_terms : FnOk P w K mg base (L2N.CX P w) 2 f8 e8 ["size"] (spCount CS) := ok_count_terms d_count_terms B EC C_MAX_COUNTED_SIZE d_shapes_of
  have hw6 : ∀ D nm, word D = some nm → D = CS ∧ nm = en 6 := fun D nm z => by
    rw [hword] at z
    by_cases q : D = CS
    · have z' : (if D = CS then some (en 6) else none) = some nm := z
      rw [if_pos q] at z'
      exact ⟨q, (Option.some.inj z').symm⟩
    · have z' : (if D = CS then some (en 6) else none) = some nm := z
      rw [if_neg q] at z'
      cases z'
  have GN : FnB P w K mg base 3 f4 e4 ["_law_e"] (spName K CT word) := (ok__law_error_name d__law_error_name B M fun D nm z => ⟨6, (hw6 D nm z).1 ▸ hI, (hw6 D nm z).2⟩).mono (by decide)
  have GF : FnB P w K mg base 3 f5 e5 ["_law_e", "_law_word"] (spField word fld) := (ok__law_error_field d__law_error_field B fun D nm dd H v z y => ⟨by rw [hfld] at y; exact y, 6, by decide +kernel, (hw6 D nm z).2⟩).mono (by decide)
  obtain ⟨ocT, odT, kVT, docT, pmT, anT, cdT, ctT, oslT, rfl, lkT, hcT⟩ := d__law_try.F.ex
  refine fn_of (k := 63) lk hcd sc_law (fun vs H Q E h => ?_) (fun A outer s H vs Q E hr h => ?_)
  · obtain ⟨_, _, rfl, _⟩ := h
    rfl
  obtain ⟨a, ns, rfl, hS, hP, q⟩ := h
  suffices z : ∃ t, PSs (cxOf CX0 P w K mg base ["_law_script", "_law_rng", "_law_many", "_law_k", "_law_parts", "_law_bad"] "law" (defScope s_law) f (.ref c) A outer s H E).nox (defBody s_law) t ∧ t { nx := fun _ H' => Q .non H', rt := Q } (L2.start ["_law_script", "_law_rng", "_law_many", "_law_k", "_law_parts", "_law_bad"] [.ref a]) H from z.elim fun t y => ⟨t, y.1.nox, y.2⟩
  refine ⟨_, (pss_cons (ps_set (i := 1) sc_law.nd rfl (Or.inl rfl) (pe_call G__law_draws (hr.mono (by decide)) rfl d__law_draws.m d__law_draws.F.kp d__law_draws.b .nil pass0 (pa_cons (pv 0) pa_nil)))
 (pss_cons (ps_set (i := 2) sc_law.nd rfl (Or.inr rfl) (pe_op op_add pe_int (pe_call G__law_draw (hr.mono (by decide)) rfl d__law_draw.m d__law_draw.F.kp d__law_draw.b .nil pass0 (pa_cons (pv 1) (pa_cons pe_int pa_nil)))))
 (pss_cons (ps_for PassesOwn.never rfl (pi_list (pe_lst (pa_cons (pv 2) (pa_cons pe_int (pa_cons pe_int (pa_cons (pe_op op_add pe_int (pe_call G__law_draw (hr.mono (by decide)) rfl d__law_draw.m d__law_draw.F.kp d__law_draw.b .nil pass0 (pa_cons (pv 1) (pa_cons pe_int pa_nil)))) pa_nil)))))) (pg_name (i := 3) sc_law.nd rfl (Or.inl rfl))
  (pss_one (ps_if (pt_not (pt_val (pe_call G__law_same (hr.mono (by decide)) rfl d__law_same.m d__law_same.F.kp d__law_same.b .nil pass0 (pa_cons (pe_call G_count_terms (hr.mono (by decide)) rfl d_count_terms.m d_count_terms.F.kp d_count_terms.b .nil passF (pa_cons (pv 3) pa_nil)) (pa_cons (pe_call G__law_catalan (hr.mono (by decide)) rfl d__law_catalan.m d__law_catalan.F.kp d__law_catalan.b .nil pass0 (pa_cons (pv 3) pa_nil)) pa_nil))))) (pss_one (ps_ret pe_bl)) pss_nil)))
 (pss_cons (ps_setLc (i := 4) (own := [("_law_k", 3)]) (g := gName 3) (tt := tYes) (by rfl) sc_law.nd rfl rfl (sw_true rfl rfl rfl (by decide +kernel)) (pi_range2 (by rfl) B.range (pa_cons pe_int (pa_cons (pv 2) pa_nil))) (blkOk_by (own := [("_law_k", 3)]) (N := ["_law_script", "_law_rng", "_law_many", "_law_k", "_law_parts", "_law_bad"]) (sc := defScope s_law) (by decide +kernel)) (fun _ _ _ _ _ => (pg_name (i := 3) sc_law.nd rfl (Or.inl rfl))) (fun _ _ _ _ _ => pts_nil) (fun _ _ _ _ _ => (pe_op op_mul (pe_call G_count_terms (hr.mono (by decide)) rfl d_count_terms.m d_count_terms.F.kp d_count_terms.b .nil passF (pa_cons (pv 3) pa_nil)) (pe_call G_count_terms (hr.mono (by decide)) rfl d_count_terms.m d_count_terms.F.kp d_count_terms.b .nil passF (pa_cons (pe_op op_sub (pv 2) (pv 3)) pa_nil)))))
 (C8.pss_cut (ps_if (PW.pt (pw_and (pt_cmpR op_gt (pv 2) pe_int (nomark _)) (pw_and1 (pt_cmpR op_ne (pe_call G_count_terms (hr.mono (by decide)) rfl d_count_terms.m d_count_terms.F.kp d_count_terms.b .nil passF (pa_cons (pv 2) pa_nil)) (pe_callB (cr_sum rfl) (by rfl) B.sum (by decide +kernel) (pa_cons (pv 4) pa_nil)) (nomark _))))) (pss_one (ps_ret pe_bl)) pss_nil)
 (pss_cons (ps_set (i := 5) sc_law.nd rfl (Or.inl rfl) (pe_lst (pa_cons pe_int (pa_cons (pe_un un_neg pe_int) (pa_cons pe_int (pa_cons (pe_op op_add (pe_op op_pow pe_int pe_int) (pe_call G__law_draw (hr.mono (by decide)) rfl d__law_draw.m d__law_draw.F.kp d__law_draw.b .nil pass0 (pa_cons (pv 1) (pa_cons pe_int pa_nil)))) (pa_cons (pe_op op_sub (pe_un un_neg pe_int) (pe_call G__law_draw (hr.mono (by decide)) rfl d__law_draw.m d__law_draw.F.kp d__law_draw.b .nil pass0 (pa_cons (pv 1) (pa_cons (pe_op op_pow pe_int pe_int) pa_nil)))) pa_nil)))))))
 (pss_one (ps_ret (pe_callB (cr_all rfl) (by rfl) B.all (by decide +kernel) (pa_cons (pe_lc (own := [("_law_k", 3)]) (g := gName 3) (tt := tYes) (by rfl) sc_law.nd (pi_list (pv 5)) (blkOk_by (own := [("_law_k", 3)]) (N := ["_law_script", "_law_rng", "_law_many", "_law_k", "_law_parts", "_law_bad"]) (sc := defScope s_law) (by decide +kernel)) (fun _ _ _ _ _ => (pg_name (i := 3) sc_law.nd rfl (Or.inr rfl))) (fun _ _ _ _ _ => pts_nil) (fun _ _ _ _ _ => (pe_cmpR (r := rEqD K) (op_eqD hr.units) (pe_lamN (T := [(Pt, lamQ)]) (TT := TTry K CT word fld) (t := fun E => tCall (spCount CS) [] E (tCons (tVar 3) tNil)) rfl d__law_try.m d__law_try.F.kp lkT hcT d__law_try.b sc__law_try rfl (.inl rfl)
  (try_gives rfl rfl rfl rfl rfl rfl mT d__law_error_name.m d__law_error_field.m d__law_error_name.F.kp d__law_error_field.F.kp d__law_error_name.b d__law_error_field.b GN GF) TB rfl (List.mem_singleton.mpr rfl) (fun p hp _ => by rw [List.mem_singleton.mp hp]; rfl) (hr.mono (by decide)) (by decide : 40 ≤ 45 + 1) (LamX.lamS_by (by rfl)) rfl (fun _ _ _ _ _ => rfl)
  (fun A2 outer2 s2 H2 E2 f2 c2 hr2 => (pe_call (E := E2) G_count_terms (hr2.mono (by decide)) rfl d_count_terms.m d_count_terms.F.kp d_count_terms.b .nil passL (pa_cons (pe_var (i := 3) rfl (.inr (.inr rfl))) pa_nil)))) (pe_tup (pa_cons pe_str (pa_cons pe_non pa_nil))) (nomark _)))) pa_nil)))))))))), ?_⟩
  refine ⟨_, rfl, a, ns, rfl, hS, fun r H1 s1 _ R1 => ?_⟩
  have nPr : ∀ G, Rng G r → G Pt = some (.tbl #[]) → Pt ≠ r := fun G R e z => by
    obtain ⟨ys, hy⟩ := R.lst
    rw [z, hy] at e
    cases e
  have P1 := s1 _ _ hP
  refine ⟨_, rfl, r, 30, rfl, R1, by decide, by decide, fun v H2 v0 v1 R2 b2 => ⟨1, v, rfl, rfl, ?_⟩⟩
  have P2 := b2 _ _ (nPr _ R1 P1) P1
  refine ⟨_, rfl, _, rfl, r, 30, rfl, R2, by decide, by decide, fun v2 H3 w0 w1 R3 b3 => ⟨1, v2, rfl, rfl, fourV, fun p np => ?_⟩⟩
  have P3 := b3 _ _ (nPr _ R2 P2) P2
  have sp := Same.new np (.lst [.int (1 + v), .int 1, .int 30, .int (1 + v2)])
  have R4 := R3.same sp
  have P4 := sp _ _ P3
  refine ⟨p, rfl, ⟨_, SqL.here upd_same⟩, for_list (K := K) (a := p) (xs := [.int (1 + v), .int 1, .int 30, .int (1 + v2)]) (fun i σ H' => ∃ x3 : Option V, σ = [some (.ref a), some (.ref r), some (.int (1 + v)), x3, none, none] ∧ Same (upd H3 p (.lst [.int (1 + v), .int 1, .int 30, .int (1 + v2)])) H')
    ⟨none, rfl, Same.refl _⟩ (fun i σ H' _ ⟨_, _, e⟩ => SqL.here (e _ _ upd_same)) ?_ ?_⟩
  · rintro i x σ H' hi ⟨x3, rfl, sm⟩
    obtain ⟨n, rfl, n1, n2⟩ : ∃ n : Int, x = .int n ∧ 1 ≤ n ∧ n ≤ 30 := by
      match i, hi with
      | 0, hi => cases hi; exact ⟨_, rfl, by omega, by omega⟩
      | 1, hi => cases hi; exact ⟨_, rfl, by omega, by omega⟩
      | 2, hi => cases hi; exact ⟨_, rfl, by omega, by omega⟩
      | 3, hi => cases hi; exact ⟨_, rfl, by omega, by omega⟩
      | (k + 4), hi => cases hi
    refine ⟨_, rfl, n, rfl, fun _ _ => ⟨_, rfl, n.toNat, ?_, by omega, by omega, ?_⟩, fun z => (z ⟨n1, n2⟩).elim⟩
    · rw [show ((n.toNat : Nat) : Int) = n by omega]
      rfl
    · exact ⟨_, _, .int (shp (n.toNat - 1)), rfl, .int _, .int _, rfl, by show 0 < 12; decide, rfl, fun H5 s5 => ⟨true, rfl, iteF ⟨_, rfl, sm.trans s5⟩⟩⟩
  rintro σ H' ⟨x3, rfl, sm⟩
  have R5 := R4.same sm
  have P5 := sm _ _ P4
  clear sm sp R4 P4
  refine ⟨_, rfl, 1, 1 + v, rfl, ⟨by omega, by omega, by omega, by omega⟩, fun D hD => ?_⟩
  refine lc_range (lo := 1) (n := (1 + v - 1).toNat) (fun i G => Same H' G ∧ G D = some (.lst ((prts (1 + v).toNat i).map V.int))) ⟨Same.new hD _, upd_same⟩ ?_ ?_
  · rintro i G hi ⟨sm, hl⟩
    refine ⟨rfl, ?_⟩
    refine ⟨_, rfl, 1 + (i : Int), rfl, fun _ _ => ⟨_, rfl, _, rfl, 1 + v, 1 + (i : Int), rfl, rfl, 1 + v - (1 + (i : Int)), rfl, fun _ _ => ⟨_, _, rfl, rfl, .inl (shp_bd _ (by omega)), _, hl, ?_, fun b u z => (by rw [upd_ne (ne_of_none z hD)]; exact sm b u z), ?_⟩, fun z => (z ⟨by omega, by omega⟩).elim⟩, fun z => (z ⟨by omega, by omega⟩).elim⟩
    · rw [List.length_map, prts_len]
      exact small1000 (by omega)
    · rw [upd_same, prts_next, List.map_append, show (1 + (i : Int)).toNat - 1 = i by omega, show (1 + v - (1 + (i : Int))).toNat - 1 = (1 + v).toNat - 1 - (i + 1) by omega]
      rfl
  rintro G ⟨sm, hl⟩
  have R6 := R5.same sm
  have P6 := sm _ _ P5
  clear sm
  refine ⟨fun σ G' => σ = [some (.ref a), some (.ref r), some (.int (1 + v)), x3, some (.ref D), none] ∧ G' = G, ?_, ?_⟩
  · refine ⟨_, rfl, _, _, rfl, rfl, _, rfl, ?_⟩
    refine ite2 (fun c1 => ?_) (fun c1 => ?_)
    · have c1 : 1 < 1 + v := of_decide_eq_true c1
      refine ⟨_, rfl, 1 + v, rfl, fun _ _ => ⟨_, rfl, D, _, rfl, SqL.here hl, rfl, _, rfl, ite_no ?_ ⟨rfl, rfl⟩⟩, fun z => (z ⟨by omega, by omega⟩).elim⟩
      have z := shp_sum (1 + v).toNat (by omega) (by omega)
      rw [show (prts (1 + v).toNat (1 + v - 1).toNat).sum = shpS (1 + v).toNat by unfold prts shpS; rw [show (1 + v - 1).toNat = (1 + v).toNat - 1 by omega], ← z, decide_eq_true rfl]
      rfl
    · exact iteF ⟨rfl, rfl⟩
  rintro σ G' ⟨rfl, rfl⟩
  refine ⟨_, rfl, 10, 20, rfl, rfl, ⟨by decide, by decide, by decide⟩, _, rfl, r, 9, rfl, R6, by decide, by decide, fun u1 G1 u10 u11 R7 b7 => ⟨_, _, rfl, rfl, _, rfl, _, rfl, 10, 9, rfl, rfl, ⟨by decide, by decide, by decide⟩, r, _, rfl, R7, by decide, by decide, fun u2 G2 u20 u21 R8 b8 => ⟨_, _, rfl, rfl, ?_, fun pb nb => ?_⟩⟩⟩
  · exact fiveV
  have P7 := b7 _ _ (nPr _ R6 P6) P6
  have P8 := b8 _ _ (nPr _ R7 P7) P7
  have key : ∀ (i : Nat) (x : V), ([V.int 0, V.int (-1), V.int 31, V.int (10 ^ Int.toNat 20 + u1), V.int (-1 - u2)] : List V)[i]? = some x → ∃ n : Int, x = .int n ∧ ¬ (1 ≤ n ∧ n ≤ 30) := by
    have big : (10 : Int) ^ Int.toNat 20 = 100000000000000000000 := by decide +kernel
    intro i x hi
    match i, hi with
    | 0, hi => cases hi; exact ⟨_, rfl, by omega⟩
    | 1, hi => cases hi; exact ⟨_, rfl, by omega⟩
    | 2, hi => cases hi; exact ⟨_, rfl, by omega⟩
    | 3, hi => cases hi; exact ⟨_, rfl, by rw [big]; omega⟩
    | 4, hi => cases hi; exact ⟨_, rfl, by omega⟩
    | (k + 5), hi => cases hi
  have shE : SeqAt.shaped (.tuple [.str (en 6), .none]) = true := by decide +kernel
  have sb := Same.new nb (.lst [V.int 0, V.int (-1), V.int 31, V.int (10 ^ Int.toNat 20 + u1), V.int (-1 - u2)])
  refine ⟨_, rfl, pb, rfl, ⟨_, SqL.here upd_same⟩, fun D2 hD2 => ?_⟩
  refine lc_list (K := K) (a := pb) (xs := [V.int 0, V.int (-1), V.int 31, V.int (10 ^ Int.toNat 20 + u1), V.int (-1 - u2)]) (fun i G => LamX.ExtN (upd G2 pb (.lst [V.int 0, V.int (-1), V.int 31, V.int (10 ^ Int.toNat 20 + u1), V.int (-1 - u2)])) G ∧ LamX.Tabs [(Pt, lamQ)] G ∧ G D2 = some (.lst (List.replicate i (V.bl true))))
    ⟨LamX.ExtN.of (Same.new hD2 _), fun p hp => (by rw [List.mem_singleton.mp hp]; exact ⟨#[], Same.new hD2 _ _ _ (sb _ _ P8), by trivial, fun _ _ z => (nomatch z)⟩), upd_same⟩ (fun i G _ z => SqL.here (z.1 _ _ upd_same (fun _ => by intro y; cases y))) ?_ ?_
  · rintro i x G hi ⟨e, tb, hl⟩
    obtain ⟨n, rfl, hn⟩ := key i x hi
    refine ⟨rfl, ?_⟩
    refine ⟨tb, fun G3 e3 tb3 f' => ?_⟩
    refine ⟨_, rfl, n, rfl, fun h1 h2 => (hn ⟨h1, h2⟩).elim, fun _ => ?_⟩
    refine wTry (D := CS) (nm := en 6) (v := .non) (fun D dd H H' v z y => by rw [hfld] at y ⊢; exact y) rfl hW (by rw [hword]; exact if_pos rfl) (by rw [hfld]) (fun p5 G5 sm5 np5 => ?_)
    refine ⟨two_le, fun p6 np6 => ?_⟩
    have s5 := (sm5.trans (Same.new np5 (.tup [.str (en 6), .non]))).trans (Same.new np6 (.tup [.str (en 6), .non]))
    have l3 := e3 _ _ hl (fun _ => by intro y; cases y)
    refine ⟨.tuple [.str (en 6), .none], .tuple [.str (en 6), .none], Dp.tup (SqT.here (Same.new np6 _ _ _ upd_same)) (.cons (.str _) (.cons .non .nil)), Dp.tup (SqT.here upd_same) (.cons (.str _) (.cons .non .nil)), shE, shE, List.replicate i (V.bl true), s5 _ _ l3, ?_, ?_, ?_, ?_⟩
    · rw [List.length_replicate]
      have : i < 5 := (List.getElem?_eq_some_iff.mp hi).1
      exact small1000 (by omega)
    · exact fun b o z nt => by
        rw [upd_ne (ne_of_none z hD2)]
        exact s5 _ _ (e3 _ _ (e _ _ z nt) nt)
    · exact tabs_set tb3 l3 fun b o nb' z => by
        rw [upd_ne nb']
        exact s5 _ _ z
    · rw [upd_same, List.replicate_succ', SeqAt.eqv_refl _ (SeqAt.canLay_of_shaped shE)]
  · rintro G ⟨e, tb, hl⟩
    exact ⟨D2, List.replicate 5 true, rfl, SqL.here hl, q _⟩

end
theorem kit_own {K : PySem.W.Frag} {C c : Addr} {b : Bool} (ne : (Value.ref C == Value.ref c) = false) (h1 : PySem.W.isClsIn K c = true) (h2 : PySem.W.typeIn K (.ref c) = some (.type "type")) (h3 : PySem.W.subIn K (.ref C) (.ref c) = some b) : PySem.W.kitOne K (.ref C) (.ref c) = some b := by
  have e2 : ((PySem.W.clsIn K c).isSome && PySem.W.typeIn K (.ref c) == some (.type "type")) = true := by
    have h1' : (PySem.W.clsIn K c).isSome = true := h1
    rw [h1', h2] <;> rfl
  unfold PySem.W.kitOne
  rw [ne, if_neg (by decide)]
  show (if ((PySem.W.clsIn K c).isSome && PySem.W.typeIn K (.ref c) == some (.type "type")) = true then PySem.W.subIn K (.ref C) (.ref c) else none) = some b
  rw [if_pos e2]
  exact h3
theorem codeHd_mk {K : PySem.W.Frag} {cL Pt : Addr} {edL : Option Addr} {vsL : Array Value} {slL : Array (Option Value)} {f18 : Str} {t18 t7 t10 : Tok} {i7 i10 : Int} {b9 : Bool} (lC : K.lookup cL = some ⟨.type "code", edL, .fields vsL, slL⟩) (h11 : vsL[11]? = some (.ref Pt)) (h18 : vsL.getD 18 .none = .str f18 t18)
    (h7 : vsL.getD 7 .none = .int i7 t7) (h9 : vsL.getD 9 .none = .bool b9) (h10 : vsL.getD 10 .none = .int i10 t10) (ne : (cL != Pt) = true) : PySem.W.codeHdIn K cL Pt = true := by
  unfold PySem.W.codeHdIn
  rw [lC]
  simp only [h11, h18, h7, h9, h10, ne, beq_self_eq_true, Bool.and_true, Bool.and_self]
theorem all_mk {l : PySem.W.OpenLaw} {w : World} {K : PySem.W.Frag} {h : Heap} {mg : Str → Option Value} {fa : Addr} (X : K.In h) (G : h.Ns mainGlobals mg) (hfa : mg "law" = some (.ref fa)) (own : LamX.OwnTab K fa h)
    {g0 g1 g2 g3 g4 g5 g6 g7 g8 g9 : Addr}
    {od0 an0 od1 an1 od2 an2 od3 an3 od4 an4 od5 an5 od6 an6 od7 an7 od8 an8 od9 an9 : Option Addr}
    {sl0 sl1 sl2 sl3 sl4 sl5 sl6 sl7 sl8 sl9 : Array (Option Value)}
    {oc0 kV0 dc0 pm0 cd0 ct0 oc1 kV1 dc1 pm1 cd1 ct1 oc2 kV2 dc2 pm2 cd2 ct2 oc3 kV3 dc3 pm3 cd3 ct3 oc4 kV4 dc4 pm4 cd4 ct4 oc5 kV5 dc5 pm5 cd5 ct5 oc6 kV6 dc6 pm6 cd6 ct6 oc7 kV7 dc7 pm7 cd7 ct7 oc8 kV8 dc8 pm8 cd8 ct8 oc9 kV9 dc9 pm9 ct9 : Value}
    {cL Pt CT : Addr} {f18 : Str} {t18 t7 t10 : Tok} {i7 i10 : Int} {b9 : Bool} {edL : Option Addr} {vsL : Array Value} {slL : Array (Option Value)} {tkM : Tok}
    {x0 x1 x2 x3 x4 x5 x6 x7 x8 x9 x10 x11 x12 x13 x14 x15 x16 x17 x18 x19 : Addr}
    (a0 : PySem.W.nsIn K mainGlobals "_law_draws" = some (some (.ref g0))) (l0 : K.lookup g0 = some ⟨oc0, od0, .func (PySem.W.fnOf "_law_draws" "_law_draws" (defArgs s__law_draws) (defBody s__law_draws) (defScope s__law_draws) .none kV0 dc0 pm0 an0 cd0 ct0), sl0⟩) (c0 : PySem.W.codeIn K cd0 "_law_draws" = true) (k0 : PySem.W.keepIn K (.ref g0) = true)
    (a1 : PySem.W.nsIn K mainGlobals "_law_draw" = some (some (.ref g1))) (l1 : K.lookup g1 = some ⟨oc1, od1, .func (PySem.W.fnOf "_law_draw" "_law_draw" (defArgs s__law_draw) (defBody s__law_draw) (defScope s__law_draw) .none kV1 dc1 pm1 an1 cd1 ct1), sl1⟩) (c1 : PySem.W.codeIn K cd1 "_law_draw" = true) (k1 : PySem.W.keepIn K (.ref g1) = true)
    (a2 : PySem.W.nsIn K mainGlobals "_law_same" = some (some (.ref g2))) (l2 : K.lookup g2 = some ⟨oc2, od2, .func (PySem.W.fnOf "_law_same" "_law_same" (defArgs s__law_same) (defBody s__law_same) (defScope s__law_same) .none kV2 dc2 pm2 an2 cd2 ct2), sl2⟩) (c2 : PySem.W.codeIn K cd2 "_law_same" = true) (k2 : PySem.W.keepIn K (.ref g2) = true)
    (a3 : PySem.W.nsIn K mainGlobals "_law_catalan" = some (some (.ref g3))) (l3 : K.lookup g3 = some ⟨oc3, od3, .func (PySem.W.fnOf "_law_catalan" "_law_catalan" (defArgs s__law_catalan) (defBody s__law_catalan) (defScope s__law_catalan) .none kV3 dc3 pm3 an3 cd3 ct3), sl3⟩) (c3 : PySem.W.codeIn K cd3 "_law_catalan" = true) (k3 : PySem.W.keepIn K (.ref g3) = true)
    (a4 : PySem.W.nsIn K mainGlobals "_law_error_name" = some (some (.ref g4))) (l4 : K.lookup g4 = some ⟨oc4, od4, .func (PySem.W.fnOf "_law_error_name" "_law_error_name" (defArgs s__law_error_name) (defBody s__law_error_name) (defScope s__law_error_name) .none kV4 dc4 pm4 an4 cd4 ct4), sl4⟩) (c4 : PySem.W.codeIn K cd4 "_law_error_name" = true) (k4 : PySem.W.keepIn K (.ref g4) = true)
    (a5 : PySem.W.nsIn K mainGlobals "_law_error_field" = some (some (.ref g5))) (l5 : K.lookup g5 = some ⟨oc5, od5, .func (PySem.W.fnOf "_law_error_field" "_law_error_field" (defArgs s__law_error_field) (defBody s__law_error_field) (defScope s__law_error_field) .none kV5 dc5 pm5 an5 cd5 ct5), sl5⟩) (c5 : PySem.W.codeIn K cd5 "_law_error_field" = true) (k5 : PySem.W.keepIn K (.ref g5) = true)
    (a6 : PySem.W.nsIn K mainGlobals "shapes_of" = some (some (.ref g6))) (l6 : K.lookup g6 = some ⟨oc6, od6, .func (PySem.W.fnOf "shapes_of" "shapes_of" (defArgs s_shapes_of) (defBody s_shapes_of) (defScope s_shapes_of) .none kV6 dc6 pm6 an6 cd6 ct6), sl6⟩) (c6 : PySem.W.codeIn K cd6 "shapes_of" = true) (k6 : PySem.W.keepIn K (.ref g6) = true)
    (a7 : PySem.W.nsIn K mainGlobals "count_terms" = some (some (.ref g7))) (l7 : K.lookup g7 = some ⟨oc7, od7, .func (PySem.W.fnOf "count_terms" "count_terms" (defArgs s_count_terms) (defBody s_count_terms) (defScope s_count_terms) .none kV7 dc7 pm7 an7 cd7 ct7), sl7⟩) (c7 : PySem.W.codeIn K cd7 "count_terms" = true) (k7 : PySem.W.keepIn K (.ref g7) = true)
    (a8 : PySem.W.nsIn K mainGlobals "_law_try" = some (some (.ref g8))) (l8 : K.lookup g8 = some ⟨oc8, od8, .func (PySem.W.fnOf "_law_try" "_law_try" (defArgs s__law_try) (defBody s__law_try) (defScope s__law_try) .none kV8 dc8 pm8 an8 cd8 ct8), sl8⟩) (c8 : PySem.W.codeIn K cd8 "_law_try" = true) (k8 : PySem.W.keepIn K (.ref g8) = true)
    (a9 : PySem.W.nsIn K mainGlobals "law" = some (some (.ref g9))) (l9 : K.lookup g9 = some ⟨oc9, od9, .func (PySem.W.fnOf "law" "law" (defArgs s_law) (defBody s_law) (defScope s_law) .none kV9 dc9 pm9 an9 (.ref cL) ct9), sl9⟩) (c9 : PySem.W.codeIn K (.ref cL) "law" = true) (k9 : PySem.W.keepIn K (.ref g9) = true)
    (z_len : PySem.W.nsIn K mainGlobals "len" = some none)
    (z_list : PySem.W.nsIn K mainGlobals "list" = some none)
    (z_tuple : PySem.W.nsIn K mainGlobals "tuple" = some none)
    (z_dict : PySem.W.nsIn K mainGlobals "dict" = some none)
    (z_bool : PySem.W.nsIn K mainGlobals "bool" = some none)
    (z_isinstance : PySem.W.nsIn K mainGlobals "isinstance" = some none)
    (z_max : PySem.W.nsIn K mainGlobals "max" = some none)
    (z_min : PySem.W.nsIn K mainGlobals "min" = some none)
    (z_range : PySem.W.nsIn K mainGlobals "range" = some none)
    (z_all : PySem.W.nsIn K mainGlobals "all" = some none)
    (z_sorted : PySem.W.nsIn K mainGlobals "sorted" = some none)
    (z_enumerate : PySem.W.nsIn K mainGlobals "enumerate" = some none)
    (z_sum : PySem.W.nsIn K mainGlobals "sum" = some none)
    (z_str : PySem.W.nsIn K mainGlobals "str" = some none)
    (z_int : PySem.W.nsIn K mainGlobals "int" = some none)
    (q_M : PySem.W.nsIn K mainGlobals "MAX_COUNTED_SIZE" = some (some (.int 30 tkM)))
    (lC : K.lookup cL = some ⟨.type "code", edL, .fields vsL, slL⟩)
    (l11 : vsL[11]? = some (.ref Pt))
    (nP : K.lookup Pt = none)
    (v18 : vsL.getD 18 .none = .str f18 t18)
    (v7 : vsL.getD 7 .none = .int i7 t7)
    (v9 : vsL.getD 9 .none = .bool b9)
    (v10 : vsL.getD 10 .none = .int i10 t10)
    (vne : (cL != Pt) = true)
    (aT : PySem.W.nsIn K mainGlobals "TermError" = some (some (.ref CT)))
    (ax0 : PySem.W.nsIn K mainGlobals "InvalidTerm" = some (some (.ref x0)))
    (ax1 : PySem.W.nsIn K mainGlobals "InvalidText" = some (some (.ref x1)))
    (ax2 : PySem.W.nsIn K mainGlobals "InvalidPath" = some (some (.ref x2)))
    (ax3 : PySem.W.nsIn K mainGlobals "PathNotFound" = some (some (.ref x3)))
    (ax4 : PySem.W.nsIn K mainGlobals "NotRewritable" = some (some (.ref x4)))
    (ax5 : PySem.W.nsIn K mainGlobals "TooLarge" = some (some (.ref x5)))
    (ax6 : PySem.W.nsIn K mainGlobals "InvalidSize" = some (some (.ref x6)))
    (ax7 : PySem.W.nsIn K mainGlobals "InvalidIndex" = some (some (.ref x7)))
    (ax8 : PySem.W.nsIn K mainGlobals "InvalidWord" = some (some (.ref x8)))
    (ax9 : PySem.W.nsIn K mainGlobals "InvalidStep" = some (some (.ref x9)))
    (ax10 : PySem.W.nsIn K mainGlobals "InvalidElement" = some (some (.ref x10)))
    (ax11 : PySem.W.nsIn K mainGlobals "InvalidModel" = some (some (.ref x11)))
    (ax12 : PySem.W.nsIn K mainGlobals "NestingTooDeep" = some (some (.ref x12)))
    (ax13 : PySem.W.nsIn K mainGlobals "InvalidLabel" = some (some (.ref x13)))
    (ax14 : PySem.W.nsIn K mainGlobals "DuplicateName" = some (some (.ref x14)))
    (ax15 : PySem.W.nsIn K mainGlobals "UnknownName" = some (some (.ref x15)))
    (ax16 : PySem.W.nsIn K mainGlobals "LimitReached" = some (some (.ref x16)))
    (ax17 : PySem.W.nsIn K mainGlobals "InvalidCommand" = some (some (.ref x17)))
    (ax18 : PySem.W.nsIn K mainGlobals "EmptyHistory" = some (some (.ref x18)))
    (ax19 : PySem.W.nsIn K mainGlobals "InvalidSnapshot" = some (some (.ref x19)))
    (kn0 : (Value.ref x6 == Value.ref x0) = false)
    (ki0 : PySem.W.isClsIn K x0 = true)
    (ky0 : PySem.W.typeIn K (.ref x0) = some (.type "type"))
    (ks0 : PySem.W.subIn K (.ref x6) (.ref x0) = some false)
    (kn1 : (Value.ref x6 == Value.ref x1) = false)
    (ki1 : PySem.W.isClsIn K x1 = true)
    (ky1 : PySem.W.typeIn K (.ref x1) = some (.type "type"))
    (ks1 : PySem.W.subIn K (.ref x6) (.ref x1) = some false)
    (kn2 : (Value.ref x6 == Value.ref x2) = false)
    (ki2 : PySem.W.isClsIn K x2 = true)
    (ky2 : PySem.W.typeIn K (.ref x2) = some (.type "type"))
    (ks2 : PySem.W.subIn K (.ref x6) (.ref x2) = some false)
    (kn3 : (Value.ref x6 == Value.ref x3) = false)
    (ki3 : PySem.W.isClsIn K x3 = true)
    (ky3 : PySem.W.typeIn K (.ref x3) = some (.type "type"))
    (ks3 : PySem.W.subIn K (.ref x6) (.ref x3) = some false)
    (kn4 : (Value.ref x6 == Value.ref x4) = false)
    (ki4 : PySem.W.isClsIn K x4 = true)
    (ky4 : PySem.W.typeIn K (.ref x4) = some (.type "type"))
    (ks4 : PySem.W.subIn K (.ref x6) (.ref x4) = some false)
    (kn5 : (Value.ref x6 == Value.ref x5) = false)
    (ki5 : PySem.W.isClsIn K x5 = true)
    (ky5 : PySem.W.typeIn K (.ref x5) = some (.type "type"))
    (ks5 : PySem.W.subIn K (.ref x6) (.ref x5) = some false)
    (kn7 : (Value.ref x6 == Value.ref x7) = false)
    (ki7 : PySem.W.isClsIn K x7 = true)
    (ky7 : PySem.W.typeIn K (.ref x7) = some (.type "type"))
    (ks7 : PySem.W.subIn K (.ref x6) (.ref x7) = some false)
    (kn8 : (Value.ref x6 == Value.ref x8) = false)
    (ki8 : PySem.W.isClsIn K x8 = true)
    (ky8 : PySem.W.typeIn K (.ref x8) = some (.type "type"))
    (ks8 : PySem.W.subIn K (.ref x6) (.ref x8) = some false)
    (kn9 : (Value.ref x6 == Value.ref x9) = false)
    (ki9 : PySem.W.isClsIn K x9 = true)
    (ky9 : PySem.W.typeIn K (.ref x9) = some (.type "type"))
    (ks9 : PySem.W.subIn K (.ref x6) (.ref x9) = some false)
    (kn10 : (Value.ref x6 == Value.ref x10) = false)
    (ki10 : PySem.W.isClsIn K x10 = true)
    (ky10 : PySem.W.typeIn K (.ref x10) = some (.type "type"))
    (ks10 : PySem.W.subIn K (.ref x6) (.ref x10) = some false)
    (kn11 : (Value.ref x6 == Value.ref x11) = false)
    (ki11 : PySem.W.isClsIn K x11 = true)
    (ky11 : PySem.W.typeIn K (.ref x11) = some (.type "type"))
    (ks11 : PySem.W.subIn K (.ref x6) (.ref x11) = some false)
    (kn12 : (Value.ref x6 == Value.ref x12) = false)
    (ki12 : PySem.W.isClsIn K x12 = true)
    (ky12 : PySem.W.typeIn K (.ref x12) = some (.type "type"))
    (ks12 : PySem.W.subIn K (.ref x6) (.ref x12) = some false)
    (kn13 : (Value.ref x6 == Value.ref x13) = false)
    (ki13 : PySem.W.isClsIn K x13 = true)
    (ky13 : PySem.W.typeIn K (.ref x13) = some (.type "type"))
    (ks13 : PySem.W.subIn K (.ref x6) (.ref x13) = some false)
    (kn14 : (Value.ref x6 == Value.ref x14) = false)
    (ki14 : PySem.W.isClsIn K x14 = true)
    (ky14 : PySem.W.typeIn K (.ref x14) = some (.type "type"))
    (ks14 : PySem.W.subIn K (.ref x6) (.ref x14) = some false)
    (kn15 : (Value.ref x6 == Value.ref x15) = false)
    (ki15 : PySem.W.isClsIn K x15 = true)
    (ky15 : PySem.W.typeIn K (.ref x15) = some (.type "type"))
    (ks15 : PySem.W.subIn K (.ref x6) (.ref x15) = some false)
    (kn16 : (Value.ref x6 == Value.ref x16) = false)
    (ki16 : PySem.W.isClsIn K x16 = true)
    (ky16 : PySem.W.typeIn K (.ref x16) = some (.type "type"))
    (ks16 : PySem.W.subIn K (.ref x6) (.ref x16) = some false)
    (kn17 : (Value.ref x6 == Value.ref x17) = false)
    (ki17 : PySem.W.isClsIn K x17 = true)
    (ky17 : PySem.W.typeIn K (.ref x17) = some (.type "type"))
    (ks17 : PySem.W.subIn K (.ref x6) (.ref x17) = some false)
    (kn18 : (Value.ref x6 == Value.ref x18) = false)
    (ki18 : PySem.W.isClsIn K x18 = true)
    (ky18 : PySem.W.typeIn K (.ref x18) = some (.type "type"))
    (ks18 : PySem.W.subIn K (.ref x6) (.ref x18) = some false)
    (kn19 : (Value.ref x6 == Value.ref x19) = false)
    (ki19 : PySem.W.isClsIn K x19 = true)
    (ky19 : PySem.W.typeIn K (.ref x19) = some (.type "type"))
    (ks19 : PySem.W.subIn K (.ref x6) (.ref x19) = some false)
    (xg : PySem.W.findIn K (.ref x6) "__getattribute__" = some (some (.builtin "BaseException.__getattribute__")))
    (xk : PySem.W.findIn K (.ref x6) "__getattr__" = some none)
    (xs : PySem.W.subIn K (.ref x6) (.type "BaseException") = some true)
    (xd : PySem.W.hasDictIn K x6 = true)
    (xa : PySem.W.findIn K (.ref x6) "__class__" = some (some (.builtin "object.__class__")))
    (xn : PySem.W.specialIn K (.builtin "object.__class__") "__get__" = some (some (.builtin "getset_descriptor.__get__")))
    (xt : PySem.W.takesIn K (.builtin "object.__class__") = some true)
    (xm : PySem.W.mroIn K x6 (.type "object") = some true)
    (ye : PySem.W.subIn K (.ref CT) (.type "BaseException") = some true)
    (yd : PySem.W.hasDictIn K CT = true)
    (yt : PySem.W.typeIn K (.ref CT) = some (.type "type"))
    (ys : PySem.W.subIn K (.ref x6) (.ref CT) = some true)
    (xq : PySem.W.excIn K x6 [.type "ValueError", .type "Exception", .type "BaseException", .type "object"] "ValueError.__new__" = true)
    (xkp : PySem.W.keepIn K (.ref x6) = true)
    (xty : PySem.W.typeIn K (.ref x6) = some (.type "type")) :
    LamX.LawAtS l w K CX0 64 63 "_law_script" mg fa h := by
  have e := hfa.symm.trans (PySem.W.mg_of X G a9)
  cases e
  have F0 := fun_mk (st := s__law_draws) l0 c0 k0
  have d__law_draws : D K mg "_law_draws" s__law_draws ["_law_script"] _ _ := ⟨F0, F0.binds (ps := ["_law_script"]) fun _ _ _ _ _ _ us hl => match us, hl with | [_], _ => rfl, PySem.W.mg_of X G a0⟩
  have F1 := fun_mk (st := s__law_draw) l1 c1 k1
  have d__law_draw : D K mg "_law_draw" s__law_draw ["_law_rng", "_law_amount"] _ _ := ⟨F1, F1.binds (ps := ["_law_rng", "_law_amount"]) fun _ _ _ _ _ _ us hl => match us, hl with | [_, _], _ => rfl, PySem.W.mg_of X G a1⟩
  have F2 := fun_mk (st := s__law_same) l2 c2 k2
  have d__law_same : D K mg "_law_same" s__law_same ["_law_result", "_law_expected"] _ _ := ⟨F2, F2.binds (ps := ["_law_result", "_law_expected"]) fun _ _ _ _ _ _ us hl => match us, hl with | [_, _], _ => rfl, PySem.W.mg_of X G a2⟩
  have F3 := fun_mk (st := s__law_catalan) l3 c3 k3
  have d__law_catalan : D K mg "_law_catalan" s__law_catalan ["_law_many"] _ _ := ⟨F3, F3.binds (ps := ["_law_many"]) fun _ _ _ _ _ _ us hl => match us, hl with | [_], _ => rfl, PySem.W.mg_of X G a3⟩
  have F4 := fun_mk (st := s__law_error_name) l4 c4 k4
  have d__law_error_name : D K mg "_law_error_name" s__law_error_name ["_law_e"] _ _ := ⟨F4, F4.binds (ps := ["_law_e"]) fun _ _ _ _ _ _ us hl => match us, hl with | [_], _ => rfl, PySem.W.mg_of X G a4⟩
  have F5 := fun_mk (st := s__law_error_field) l5 c5 k5
  have d__law_error_field : D K mg "_law_error_field" s__law_error_field ["_law_e", "_law_word"] _ _ := ⟨F5, F5.binds (ps := ["_law_e", "_law_word"]) fun _ _ _ _ _ _ us hl => match us, hl with | [_, _], _ => rfl, PySem.W.mg_of X G a5⟩
  have F6 := fun_mk (st := s_shapes_of) l6 c6 k6
  have d_shapes_of : D K mg "shapes_of" s_shapes_of ["size"] _ _ := ⟨F6, F6.binds (ps := ["size"]) fun _ _ _ _ _ _ us hl => match us, hl with | [_], _ => rfl, PySem.W.mg_of X G a6⟩
  have F7 := fun_mk (st := s_count_terms) l7 c7 k7
  have d_count_terms : D K mg "count_terms" s_count_terms ["size"] _ _ := ⟨F7, F7.binds (ps := ["size"]) fun _ _ _ _ _ _ us hl => match us, hl with | [_], _ => rfl, PySem.W.mg_of X G a7⟩
  have F8 := fun_mk (st := s__law_try) l8 c8 k8
  have d__law_try : D K mg "_law_try" s__law_try ["_law_ask"] _ _ := ⟨F8, F8.binds (ps := ["_law_ask"]) fun _ _ _ _ _ _ us hl => match us, hl with | [_], _ => rfl, PySem.W.mg_of X G a8⟩
  have B : Blt mg := ⟨PySem.W.mg_none_of X G z_len, PySem.W.mg_none_of X G z_list, PySem.W.mg_none_of X G z_tuple, PySem.W.mg_none_of X G z_dict, PySem.W.mg_none_of X G z_bool, PySem.W.mg_none_of X G z_isinstance, PySem.W.mg_none_of X G z_max, PySem.W.mg_none_of X G z_min, PySem.W.mg_none_of X G z_range, PySem.W.mg_none_of X G z_all, PySem.W.mg_none_of X G z_sorted, PySem.W.mg_none_of X G z_enumerate, PySem.W.mg_none_of X G z_sum, PySem.W.mg_none_of X G z_str, PySem.W.mg_none_of X G z_int⟩
  have M : Errs mg (fun i => [x0, x1, x2, x3, x4, x5, x6, x7, x8, x9, x10, x11, x12, x13, x14, x15, x16, x17, x18, x19].getD i 0) := fun i hi => by
    match i, hi with
    | 0, _ => exact PySem.W.mg_of X G ax0
    | 1, _ => exact PySem.W.mg_of X G ax1
    | 2, _ => exact PySem.W.mg_of X G ax2
    | 3, _ => exact PySem.W.mg_of X G ax3
    | 4, _ => exact PySem.W.mg_of X G ax4
    | 5, _ => exact PySem.W.mg_of X G ax5
    | 6, _ => exact PySem.W.mg_of X G ax6
    | 7, _ => exact PySem.W.mg_of X G ax7
    | 8, _ => exact PySem.W.mg_of X G ax8
    | 9, _ => exact PySem.W.mg_of X G ax9
    | 10, _ => exact PySem.W.mg_of X G ax10
    | 11, _ => exact PySem.W.mg_of X G ax11
    | 12, _ => exact PySem.W.mg_of X G ax12
    | 13, _ => exact PySem.W.mg_of X G ax13
    | 14, _ => exact PySem.W.mg_of X G ax14
    | 15, _ => exact PySem.W.mg_of X G ax15
    | 16, _ => exact PySem.W.mg_of X G ax16
    | 17, _ => exact PySem.W.mg_of X G ax17
    | 18, _ => exact PySem.W.mg_of X G ax18
    | 19, _ => exact PySem.W.mg_of X G ax19
    | (k + 20), hi => exact absurd hi (by omega)
  have hI : Isw K (fun i => [x0, x1, x2, x3, x4, x5, x6, x7, x8, x9, x10, x11, x12, x13, x14, x15, x16, x17, x18, x19].getD i 0) x6 6 := ⟨by decide, fun i hi => by
    match i, hi with
    | 0, _ => exact kit_own kn0 ki0 ky0 ks0
    | 1, _ => exact kit_own kn1 ki1 ky1 ks1
    | 2, _ => exact kit_own kn2 ki2 ky2 ks2
    | 3, _ => exact kit_own kn3 ki3 ky3 ks3
    | 4, _ => exact kit_own kn4 ki4 ky4 ks4
    | 5, _ => exact kit_own kn5 ki5 ky5 ks5
    | 6, _ => exact if_pos (beq_self_eq_true _)
    | 7, _ => exact kit_own kn7 ki7 ky7 ks7
    | 8, _ => exact kit_own kn8 ki8 ky8 ks8
    | 9, _ => exact kit_own kn9 ki9 ky9 ks9
    | 10, _ => exact kit_own kn10 ki10 ky10 ks10
    | 11, _ => exact kit_own kn11 ki11 ky11 ks11
    | 12, _ => exact kit_own kn12 ki12 ky12 ks12
    | 13, _ => exact kit_own kn13 ki13 ky13 ks13
    | 14, _ => exact kit_own kn14 ki14 ky14 ks14
    | 15, _ => exact kit_own kn15 ki15 ky15 ks15
    | 16, _ => exact kit_own kn16 ki16 ky16 ks16
    | 17, _ => exact kit_own kn17 ki17 ky17 ks17
    | 18, _ => exact kit_own kn18 ki18 ky18 ks18
    | 19, _ => exact kit_own kn19 ki19 ky19 ks19
    | (k + 20), hi => exact absurd hi (by omega)⟩
  have hW : Wd K CT x6 none := ⟨⟨xg, xk, xs, xd, xa, xn, xt, xm⟩, rfl, PySem.W.exm_ref ye yd yt ys⟩
  have EC : ErrC K mg "InvalidSize" x6 := ⟨xq, PySem.W.mg_of X G ax6, xkp, xs, xty⟩
  have hT := own cL Pt _ _ _ _ _ _ l9 rfl rfl lC l11
  refine ⟨PySem.W.fnOf "law" "law" (defArgs s_law) (defBody s_law) (defScope s_law) .none kV9 dc9 pm9 an9 (.ref cL) ct9, [(cL, Pt)], spLawT K Pt, ?_, ?_, ?_, fun s v => .of_eq rfl, fun H a ns hl hb hH hS => ⟨a, ns, rfl, hS, hH _ (List.mem_singleton.mpr rfl), fun _ => rfl⟩, fun base _ _ hTB => ?_⟩
  · intro p hp
    rw [List.mem_singleton.mp hp]
    exact hT
  · intro p hp
    rw [List.mem_singleton.mp hp]
    exact nP
  · intro p hp
    rw [List.mem_singleton.mp hp]
    exact PySem.W.codeHd_of_K X (codeHd_mk lC l11 v18 v7 v9 v10 vne)
  · exact ok_law (word := fun D => if D = x6 then some (en 6) else none) (fld := fun _ _ _ v => v = .non) l9 c9 (hTB _ (List.mem_singleton.mpr rfl)) B rfl rfl M hI hW EC (PySem.W.mg_of X G aT) (PySem.W.mg_of X G q_M) d__law_draws d__law_draw d__law_same d__law_error_name d__law_error_field d__law_try d__law_catalan d_count_terms d_shapes_of
theorem walk {l : PySem.W.OpenLaw} {q : Program} {loose : List Str} {XP : (Str → Option Value) → Heap → Prop} {YP : World → Heap → Prop} {d : DefRec} {K : Params → PySem.W.Frag} (hn : l.most = some 63) (hdf : d.params.defaults = []) (hrec : ((recsOf q).any fun e => e.name == d.name) = true)
    (hY : ∀ (w : World) (h : Heap), YP w h → (K w.params).In h)
    (F : ∀ (w : World) (mg : Str → Option Value) (fa : Addr) (h : Heap), YP w h → (K w.params).In h → h.Ns mainGlobals mg → mg d.name = some (.ref fa) → LamX.OwnTab (K w.params) fa h → LamX.LawAtS l w (K w.params) CX0 64 63 "_law_script" mg fa h) :
    PySem.W.WalkO q loose XP YP l.row.toRowW d [] (fun f vs => PySem.call f vs) :=
  LamX.walk_ofOwn (n := 63) (k := 64) (x := "_law_script") (CX := fun _ => CX0) hn (by decide) hdf ⟨rfl, by decide, by decide⟩ hrec hY F fun _ _ _ _ _ z => z
end U
open PySem PySem.W PyProof.Rows
set_option maxRecDepth 100000 in
set_option maxHeartbeats 0 in
theorem PySem.Challenge.cw_uponboth_k05_number_of_terms_holds : PySem.Challenge.rw_uponboth_k05_number_of_terms.Holds := by
  w_on; o_law; k_head; (case hw => w_witness2)
  k_fill
  refine U.walk (l := PySem.Challenge.rw_uponboth_k05_number_of_terms) rfl rfl ?hrec (fun w h Y => PySem.W.km_in_of Y) ?F
  case hrec => decide +kernel
  case F =>
    intro w mg fa h Y KX G hmg own
    refine' U.all_mk KX G hmg own ?a0 ?l0 ?c0 ?k0 ?a1 ?l1 ?c1 ?k1 ?a2 ?l2 ?c2 ?k2 ?a3 ?l3 ?c3 ?k3 ?a4 ?l4 ?c4 ?k4 ?a5 ?l5 ?c5 ?k5 ?a6 ?l6 ?c6 ?k6 ?a7 ?l7 ?c7 ?k7 ?a8 ?l8 ?c8 ?k8 ?a9 ?l9 ?c9 ?k9 ?z_len ?z_list ?z_tuple ?z_dict ?z_bool ?z_isinstance ?z_max ?z_min ?z_range ?z_all ?z_sorted ?z_enumerate ?z_sum ?z_str ?z_int ?q_M ?lC ?l11 ?nP ?v18 ?v7 ?v9 ?v10 ?vne ?aT ?ax0 ?ax1 ?ax2 ?ax3 ?ax4 ?ax5 ?ax6 ?ax7 ?ax8 ?ax9 ?ax10 ?ax11 ?ax12 ?ax13 ?ax14 ?ax15 ?ax16 ?ax17 ?ax18 ?ax19 ?kn0 ?ki0 ?ky0 ?ks0 ?kn1 ?ki1 ?ky1 ?ks1 ?kn2 ?ki2 ?ky2 ?ks2 ?kn3 ?ki3 ?ky3 ?ks3 ?kn4 ?ki4 ?ky4 ?ks4 ?kn5 ?ki5 ?ky5 ?ks5 ?kn7 ?ki7 ?ky7 ?ks7 ?kn8 ?ki8 ?ky8 ?ks8 ?kn9 ?ki9 ?ky9 ?ks9 ?kn10 ?ki10 ?ky10 ?ks10 ?kn11 ?ki11 ?ky11 ?ks11 ?kn12 ?ki12 ?ky12 ?ks12 ?kn13 ?ki13 ?ky13 ?ks13 ?kn14 ?ki14 ?ky14 ?ks14 ?kn15 ?ki15 ?ky15 ?ks15 ?kn16 ?ki16 ?ky16 ?ks16 ?kn17 ?ki17 ?ky17 ?ks17 ?kn18 ?ki18 ?ky18 ?ks18 ?kn19 ?ki19 ?ky19 ?ks19 ?xg ?xk ?xs ?xd ?xa ?xn ?xt ?xm ?ye ?yd ?yt ?ys ?xq ?xkp ?xty
    (case a0 => k_is)
    (case l0 => k_is)
    (case c0 => k_is)
    (case k0 => k_is)
    (case a1 => k_is)
    (case l1 => k_is)
    (case c1 => k_is)
    (case k1 => k_is)
    (case a2 => k_is)
    (case l2 => k_is)
    (case c2 => k_is)
    (case k2 => k_is)
    (case a3 => k_is)
    (case l3 => k_is)
    (case c3 => k_is)
    (case k3 => k_is)
    (case a4 => k_is)
    (case l4 => k_is)
    (case c4 => k_is)
    (case k4 => k_is)
    (case a5 => k_is)
    (case l5 => k_is)
    (case c5 => k_is)
    (case k5 => k_is)
    (case a6 => k_is)
    (case l6 => k_is)
    (case c6 => k_is)
    (case k6 => k_is)
    (case a7 => k_is)
    (case l7 => k_is)
    (case c7 => k_is)
    (case k7 => k_is)
    (case a8 => k_is)
    (case l8 => k_is)
    (case c8 => k_is)
    (case k8 => k_is)
    (case a9 => k_is)
    (case l9 => k_is)
    (case c9 => k_is)
    (case k9 => k_is)
    (case z_len => k_is)
    (case z_list => k_is)
    (case z_tuple => k_is)
    (case z_dict => k_is)
    (case z_bool => k_is)
    (case z_isinstance => k_is)
    (case z_max => k_is)
    (case z_min => k_is)
    (case z_range => k_is)
    (case z_all => k_is)
    (case z_sorted => k_is)
    (case z_enumerate => k_is)
    (case z_sum => k_is)
    (case z_str => k_is)
    (case z_int => k_is)
    (case q_M => k_is)
    (case lC => k_is)
    (case l11 => rfl)
    (case nP => (first | rfl | with_unfolding_all rfl | decide +revert))
    (case v18 => rfl)
    (case v7 => rfl)
    (case v9 => rfl)
    (case v10 => rfl)
    (case vne => rfl)
    (case aT => k_is)
    (case ax0 => k_is)
    (case ax1 => k_is)
    (case ax2 => k_is)
    (case ax3 => k_is)
    (case ax4 => k_is)
    (case ax5 => k_is)
    (case ax6 => k_is)
    (case ax7 => k_is)
    (case ax8 => k_is)
    (case ax9 => k_is)
    (case ax10 => k_is)
    (case ax11 => k_is)
    (case ax12 => k_is)
    (case ax13 => k_is)
    (case ax14 => k_is)
    (case ax15 => k_is)
    (case ax16 => k_is)
    (case ax17 => k_is)
    (case ax18 => k_is)
    (case ax19 => k_is)
    (case kn0 => rfl)
    (case ki0 => k_is)
    (case ky0 => k_is)
    (case ks0 => k_is)
    (case kn1 => rfl)
    (case ki1 => k_is)
    (case ky1 => k_is)
    (case ks1 => k_is)
    (case kn2 => rfl)
    (case ki2 => k_is)
    (case ky2 => k_is)
    (case ks2 => k_is)
    (case kn3 => rfl)
    (case ki3 => k_is)
    (case ky3 => k_is)
    (case ks3 => k_is)
    (case kn4 => rfl)
    (case ki4 => k_is)
    (case ky4 => k_is)
    (case ks4 => k_is)
    (case kn5 => rfl)
    (case ki5 => k_is)
    (case ky5 => k_is)
    (case ks5 => k_is)
    (case kn7 => rfl)
    (case ki7 => k_is)
    (case ky7 => k_is)
    (case ks7 => k_is)
    (case kn8 => rfl)
    (case ki8 => k_is)
    (case ky8 => k_is)
    (case ks8 => k_is)
    (case kn9 => rfl)
    (case ki9 => k_is)
    (case ky9 => k_is)
    (case ks9 => k_is)
    (case kn10 => rfl)
    (case ki10 => k_is)
    (case ky10 => k_is)
    (case ks10 => k_is)
    (case kn11 => rfl)
    (case ki11 => k_is)
    (case ky11 => k_is)
    (case ks11 => k_is)
    (case kn12 => rfl)
    (case ki12 => k_is)
    (case ky12 => k_is)
    (case ks12 => k_is)
    (case kn13 => rfl)
    (case ki13 => k_is)
    (case ky13 => k_is)
    (case ks13 => k_is)
    (case kn14 => rfl)
    (case ki14 => k_is)
    (case ky14 => k_is)
    (case ks14 => k_is)
    (case kn15 => rfl)
    (case ki15 => k_is)
    (case ky15 => k_is)
    (case ks15 => k_is)
    (case kn16 => rfl)
    (case ki16 => k_is)
    (case ky16 => k_is)
    (case ks16 => k_is)
    (case kn17 => rfl)
    (case ki17 => k_is)
    (case ky17 => k_is)
    (case ks17 => k_is)
    (case kn18 => rfl)
    (case ki18 => k_is)
    (case ky18 => k_is)
    (case ks18 => k_is)
    (case kn19 => rfl)
    (case ki19 => k_is)
    (case ky19 => k_is)
    (case ks19 => k_is)
    (case xg => k_is)
    (case xk => k_is)
    (case xs => k_is)
    (case xd => k_is)
    (case xa => k_is)
    (case xn => k_is)
    (case xt => k_is)
    (case xm => k_is)
    (case ye => k_is)
    (case yd => k_is)
    (case yt => k_is)
    (case ys => k_is)
    (case xq => k_exc)
    (case xkp => k_is)
    (case xty => k_is)
