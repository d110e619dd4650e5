import PyProof.Rows.All
import Wide.All
import OpenK.AllK
import Wide.FinOn
import HandS.Base
import HandS.Call
import HandS.List
import HandS.Comp
import HandS.Ends
import HandS.Words
import HandS.WordsList
import HandS.IsInst
import HandS.Codes
import HandS.ForMost
import HandS.ForExc
import HandS.FStr
import HandS.Style
import HandS.Hot
import HandS.HotCalls
import HandS.Lambda
import HandS.ExcIs
import HandS.Rev
import HandS.More
import HandS.StrMore
import PyProof.StrBlock2
import PyProof.FactsAll.list_3
import HandS.TupAny
import HandS.TupMul
import HandS.Defaults
import KE.KRevSl
import KE.KDflt
import KE.GoesMore
import HandS.EndTab
import HandS.EndOwn
import KE.KNestM
import HandS.Conv
import HandS.Iter
import HandS.Star
import HandS.Nested
import HandS.Dict
import HandS.More
import HandS.Sort
import HandS.DictComp
import HandS.Keys
import HandS.SortInts
import KE.KDictDisplayH
import KE.KDictLaws
import HandS.DictTup
import HandS.Walk
import HandS.SortRule
import PyProof.NeKinds
import PySem.Challenge.RW_uponboth_k82_whole_composed_homomorphism
set_option Elab.async false
set_option linter.all false
set_option maxRecDepth 100000
set_option maxHeartbeats 4000000
namespace U
open PySem L2
/-! ### what stands behind the top: a def by its name; the built-in names -/
structure D (K : PySem.W.Frag) (mg : Str → Option Value) (x : Str) (st : Stmt) (ps : List Str) (f : Addr) (fd : FuncData) : Prop where
  F : Fun K x x st f fd
  b : Binds K fd ps []
  m : mg x = some (.ref f)

/-! ### trees -/
inductive Tree where
  | L
  | N (l r : Tree)
namespace Tree
def sz : Tree → Nat
  | L => 1
  | N l r => sz l + sz r
def dp : Tree → Nat
  | L => 0
  | N l r => max (dp l) (dp r) + 1
def d : Tree → PyData
  | L => .tuple []
  | N l r => .tuple [d l, d r]
theorem sz_pos : ∀ t : Tree, 0 < t.sz
  | L => Nat.zero_lt_one
  | N l r => by
    have h := sz_pos l
    show 0 < l.sz + r.sz
    omega
theorem d_lay : ∀ t : Tree, t.d.canLay0 = true
  | L => rfl
  | N l r => by
    show ((PyData.canLay0 l.d) && ((PyData.canLay0 r.d) && true)) = true
    rw [d_lay l, d_lay r]
    rfl
theorem d_depth : ∀ t : Tree, t.d.depth = t.dp + 1
  | L => rfl
  | N l r => by
    show max l.d.depth (max r.d.depth 0) + 1 = max l.dp r.dp + 1 + 1
    rw [d_depth l, d_depth r]
    omega
theorem shaped {t : Tree} (h : t.dp ≤ 63) : SeqAt.shaped t.d = true := by
  unfold SeqAt.shaped
  rw [d_lay, d_depth, decide_eq_true (by omega)]
  rfl
def isL : Tree → Bool
  | L => true
  | N _ _ => false
theorem eqvL (t : Tree) : PyData.eqv t.d (.tuple []) = t.isL := by cases t <;> rfl
end Tree
abbrev TA (K : PySem.W.Frag) (H : Hp) (v : V) (t : Tree) : Prop := Dp K H v t.d
theorem shapedE : SeqAt.shaped (.tuple []) = true := by decide +kernel

/-! ### heaps: what is a tuple stays one -/
def Tp (H H' : Hp) : Prop := ∀ b xs, Rd H b (.tup xs) → Rd H' b (.tup xs)
theorem Tp.refl (H : Hp) : Tp H H := fun _ _ h => h
theorem Tp.trans {H H1 H2 : Hp} (a : Tp H H1) (b : Tp H1 H2) : Tp H H2 := fun c o h => b c o (a c o h)
theorem Tp.same {H H' : Hp} (e : Same H H') : Tp H H' := fun b xs h => by
  rcases h with h | ⟨o, h⟩
  · exact .inl (e _ _ h)
  · exact .inr ⟨o, e _ _ h⟩
def But (r : Addr) (H H' : Hp) : Prop := ∀ b o, b ≠ r → H b = some o → H' b = some o
theorem But.trans {r : Addr} {H H1 H2 : Hp} (a : But r H H1) (b : But r H1 H2) : But r H H2 := fun c o n h => b c o n (a c o n h)
theorem But.same {r : Addr} {H H' : Hp} (e : Same H H') : But r H H' := fun b o _ h => e b o h
theorem But.set {r : Addr} {H : Hp} {o : HO} : But r H (upd H r o) := fun b z n h => by rw [upd_ne n]; exact h
theorem Tp.but {r : Addr} {H H' : Hp} {ys : List V} (hr : H r = some (.lst ys)) (e : But r H H') : Tp H H' := fun b xs h => by
  rcases h with h | ⟨o, h⟩
  · exact .inl (e _ _ (ne_of h hr (by intro z; cases z)) h)
  · exact .inr ⟨o, e _ _ (ne_of h hr (by intro z; cases z)) h⟩
theorem Same.new {H : Hp} {p : Addr} (h : H p = none) (o : HO) : Same H (upd H p o) := fun b u q => by rw [upd_ne (ne_of_none q h)]; exact q
theorem Tp.sqT {K : PySem.W.Frag} {H H' : Hp} {a : Addr} {xs : List V} (e : Tp H H') (h : SqT K H a xs) : SqT K H' a xs := by
  rcases h with h | h
  · exact .inl (e _ _ h)
  · exact .inr h
theorem SqT.here {K : PySem.W.Frag} {H : Hp} {a : Addr} {xs : List V} (h : H a = some (.tup xs)) : SqT K H a xs := .inl (.inl h)
theorem SqL.here {K : PySem.W.Frag} {H : Hp} {a : Addr} {xs : List V} (h : H a = some (.lst xs)) : SqL K H a xs := .inl (.inl h)

section
variable {K : PySem.W.Frag} {H H' : Hp}
theorem ta_leaf {a : Addr} (h : SqT K H a []) : TA K H (.ref a) .L := Dp.tup h .nil
theorem ta_node {a : Addr} {x y : V} {l r : Tree} (h : SqT K H a [x, y]) (hl : TA K H x l) (hr : TA K H y r) : TA K H (.ref a) (.N l r) := Dp.tup h (.cons hl (.cons hr .nil))
theorem ta_invL {v : V} (h : TA K H v .L) : ∃ a, v = .ref a ∧ SqT K H a [] := by
  cases h with
  | tup hs ha =>
    cases ha
    exact ⟨_, rfl, hs⟩
theorem ta_invN {v : V} {l r : Tree} (h : TA K H v (.N l r)) : ∃ a x y, v = .ref a ∧ SqT K H a [x, y] ∧ TA K H x l ∧ TA K H y r := by
  cases h with
  | tup hs ha =>
    cases ha with
    | cons h1 h2 =>
      cases h2 with
      | cons h3 h4 =>
        cases h4
        exact ⟨_, _, _, rfl, hs, h1, h3⟩
theorem ta_inv : ∀ {v : V} {t : Tree}, TA K H v t → ∃ a xs, v = .ref a ∧ SqT K H a xs
  | _, .L, h => by
    obtain ⟨a, e, q⟩ := ta_invL h
    exact ⟨a, _, e, q⟩
  | _, .N _ _, h => by
    obtain ⟨a, x, y, e, q, _⟩ := ta_invN h
    exact ⟨a, _, e, q⟩
theorem ta_mono (e : Tp H H') : ∀ {t : Tree} {v : V}, TA K H v t → TA K H' v t
  | .L, v, h => by
    obtain ⟨a, rfl, q⟩ := ta_invL h
    exact ta_leaf (e.sqT q)
  | .N l r, v, h => by
    obtain ⟨a, x, y, rfl, q, h1, h2⟩ := ta_invN h
    exact ta_node (e.sqT q) (ta_mono e h1) (ta_mono e h2)
mutual
theorem dp_same (e : Same H H') : ∀ (d : PyData) {v : V}, Dp K H v d → Dp K H' v d
  | .none, _, h => by
    cases h
    exact .non
  | .bool b, _, h => by
    cases h
    exact .bl b
  | .int i, _, h => by
    cases h
    exact .int i
  | .str x, _, h => by
    cases h
    exact .str x
  | .list ds, _, h => by
    cases h with
    | lst hs ha => exact .lst (e.seq hs) (dp_sameAll e ds ha)
  | .tuple ds, _, h => by
    cases h with
    | tup hs ha => exact .tup ((Tp.same e).sqT hs) (dp_sameAll e ds ha)
  | .dict _, _, h => by cases h
theorem dp_sameAll (e : Same H H') : ∀ (ds : List PyData) {vs : List V}, DpAll K H vs ds → DpAll K H' vs ds
  | [], _, h => by
    cases h
    exact .nil
  | d :: ds, _, h => by
    cases h with
    | cons h1 h2 => exact .cons (dp_same e d h1) (dp_sameAll e ds h2)
end
end
theorem one_le : 1 ≤ sizeLine := by decide
theorem two_le : 2 ≤ sizeLine := by decide
theorem zero_le' : 0 ≤ sizeLine := by decide
theorem four_le : 4 ≤ sizeLine := by decide
theorem ite_eq {b c : Bool} {A B : Prop} (e : b = c) (h : if c = true then A else B) : if b = true then A else B := e ▸ h
theorem ite_yes {b : Bool} {A B : Prop} (e : b = true) (h : A) : if b = true then A else B := by rw [if_pos e]; exact h
theorem ite_no {b : Bool} {A B : Prop} (e : b = false) (h : B) : if b = true then A else B := by rw [e]; exact iteF h
theorem tyx_tup {K : PySem.W.Frag} {H : Hp} {a : Addr} {xs : List V} (h : SqT K H a xs) : TyX K H (.ref a) (.type "tuple") := by
  rcases h with (h | ⟨o, h⟩) | ⟨o, its, n, h, c, _⟩
  · exact .base (.tup h)
  · exact .fTuple h
  · exact .kTuple h c
theorem tyx_lst {K : PySem.W.Frag} {H : Hp} {a : Addr} {xs : List V} (h : SqL K H a xs) : TyX K H (.ref a) (.type "list") := by
  rcases h with (h | ⟨o, h⟩) | ⟨o, its, n, h, c, _⟩
  · exact .base (.lst h)
  · exact .base (.frz h)
  · exact .kList h c
def Tree.nodes : Tree → Nat
  | .L => 1
  | .N l r => l.nodes + r.nodes + 1
/-! ### enumerate(a text): each sign in a new pair -/
def ItES (z : Str) : It :=
  ⟨fun j _ => j < z.cps.size, fun j G v G' => ∃ q c, v = .ref q ∧ G q = none ∧ G' = upd G q (.tup [.int (j : Nat), .str ⟨#[c]⟩]) ∧ z.cps[j]? = some c, fun j _ => z.cps.size ≤ j⟩
theorem draws_text {Pr : Program} {wo : World} {Ar : Around} (calm : Ar.handled = none) (it : Addr) (z : Str) (tk : Tok) :
    PySem.Draws Pr wo Ar it [it] z.cps.size (fun j v => ∃ c u, z.cps[j]? = some c ∧ v = .str ⟨#[c]⟩ u) (fun j g => g.IsStrIter it (PySem.strIterType z) z tk j) := by
  unfold PySem.strIterType
  cases z.cps.all (· < 128)
  · exact PySem.Draws.strWide calm it z tk
  · exact PySem.Draws.strAscii calm it z tk
theorem turn_ES {Pr : Program} {wo : World} {Kf : PySem.W.Frag} {ts : List Expr} {nn : Nat} {tp : Pos} (en it : Addr) (z : Str) (tk : Tok) :
    Turn Pr wo Kf (.Tuple ts nn tp) (ItES z) [en, it] en (fun j g => (∃ old, PySem.IsEnum g en it ((j : Nat) : Int) old) ∧ g.IsStrIter it (PySem.strIterType z) z tk j ∧ en ≠ it ∧ j ≤ z.cps.size) where
  mem := List.mem_cons_self
  obj := fun j g st b hb => by
    obtain ⟨⟨old, h1⟩, ⟨ob, h2, h3, h4⟩, _⟩ := st
    rcases List.mem_cons.mp hb with rfl | hb
    · exact ⟨_, h1, fun v q => nomatch q⟩
    · cases List.mem_singleton.mp hb
      refine ⟨ob, h2, fun v q => ?_⟩
      rw [h4] at q
      cases q
  keep := fun j g g' st kk => by
    obtain ⟨⟨old, h1⟩, ⟨ob, h2, h3⟩, h5⟩ := st
    exact ⟨⟨old, kk en List.mem_cons_self _ h1⟩, ⟨ob, kk it (List.mem_cons_of_mem _ List.mem_cons_self) _ h2, h3⟩, h5⟩
  item := by
    intro X e1 e2 e3 calm j pins s σ G Ex inv fp st lt
    cases e1
    cases e2
    cases e3
    obtain ⟨⟨old, h1⟩, h2, ne, le⟩ := st
    have l1 : en < s.heap.objs.size := Heap.lt_size h1
    have l2 : it < s.heap.objs.size := by
      obtain ⟨_, y, _⟩ := h2
      exact Heap.lt_size y
    refine PySem.wpAny_pyNext_enum_itemD (draws_text (show X.A.in1.handled = none from inv.ok.hd calm) it z tk) h1 h2 lt ne (fun y => ne (List.mem_singleton.mp y)) fun u g' t2 hu out h2' hT sz kp => ?_
    obtain ⟨c, u', hc, rfl⟩ := hu
    refine ⟨_, rfl, PySem.wpAny_letOwnedTupleGo_enum (s := { s with heap := g', toks := t2 + 1 }) out fun g'' h1' sb => ?_⟩
    have hT' : g''.get? s.heap.objs.size = some { cls := .type "tuple", data := .seq #[.int j t2, .str ⟨#[c]⟩ u'] } := (sb.2 _ (Nat.ne_of_gt l1)).trans hT
    have made : ObjOk X.prog X.w (upd G s.heap.objs.size (.tup [.int (j : Nat), .str ⟨#[c]⟩])) g'' s.heap.objs.size (.tup [.int (j : Nat), .str ⟨#[c]⟩]) :=
      ⟨two_le, [.int j t2, .str ⟨#[c]⟩ u'], .cons ⟨_, rfl⟩ (.cons ⟨_, rfl⟩ .nil), ⟨_, hT', rfl, _, rfl⟩⟩
    have inv' : Inv X pins σ (upd G s.heap.objs.size (.tup [.int (j : Nat), .str ⟨#[c]⟩])) { s with heap := g'', toks := t2 + 1 } := by
      refine Inv.turnedNew (ch := [en, it]) inv (fun b ob nb y => ?_) fp (Nat.le_refl _) made
      have n1 : b ≠ en := fun y => nb (by rw [y]; exact List.mem_cons_self)
      have n2 : b ≠ it := fun y => nb (by rw [y]; exact List.mem_cons_of_mem _ List.mem_cons_self)
      exact (sb.2 b n1).trans (kp b ob n1 n2 y)
    refine ⟨.ref s.heap.objs.size, _, inv', rfl, ⟨_, c, rfl, inv.hok.fresh (Nat.le_refl _), rfl, hc⟩, ⟨⟨.str ⟨#[c]⟩ u', ?_⟩, ?_, ne, lt⟩, fun b hb => ?_⟩
    · rw [show (((j + 1 : Nat) : Nat) : Int) = (j : Int) + 1 by omega]
      exact h1'
    · obtain ⟨ob, y1, y2⟩ := h2'
      exact ⟨ob, (sb.2 it (Ne.symm ne)).trans y1, y2⟩
    · have lb : b < s.heap.objs.size := by
        rcases List.mem_cons.mp hb with rfl | hb
        · exact l1
        · cases List.mem_singleton.mp hb
          exact l2
      rw [upd_ne (Nat.ne_of_lt lb)]
      exact (fp b hb).1
  done := by
    intro X e1 e2 e3 calm j pins s σ G Ex inv fp st ge
    cases e1
    cases e2
    cases e3
    obtain ⟨⟨old, h1⟩, h2, ne, le⟩ := st
    have ej : j = z.cps.size := Nat.le_antisymm le ge
    subst ej
    obtain ⟨f0, f1, f2, f3, f4, f5⟩ := fp it (List.mem_cons_of_mem _ List.mem_cons_self)
    exact PySem.wpAny_pyNext_enum_endD (draws_text (show X.A.in1.handled = none from inv.ok.hd calm) it z tk) h1 h2 fun g' eb => ⟨rfl, inv.turned (t' := s.toks) (fun b o nb y => eb b o nb y) f0 f1 f3 f4 f5⟩
  self := fun Ar j s Q Ex st y => by
    obtain ⟨⟨_, h1⟩, _⟩ := st
    exact PySem.wpAny_pyIter_enum h1 y
def iES (ta : L2.TA) : TI := fun σ G R => ta σ G fun vs G1 => ∃ z : Str, vs = [.str z] ∧ R (ItES z) G1
theorem pi_ES {X : Cx} {ex : Expr} {ta : L2.TA} {p pos tp : Pos} {ts : List Expr} {nn : Nat} (gl : Gl X "enumerate") (mm : X.mg "enumerate" = none) (ha : PA X [ex] ta) (hs : starEach [ex] X.env = [(false, eval ex X.env)] := by rfl) :
    PI X (.Tuple ts nn tp) (.Call (.Name "enumerate" p) [ex] [] pos) (iES ta) := by
  refine ⟨fun pins s σ G R inv y => ?_⟩
  refine PyProof.Rows.Call_ (ld_blt inv gl mm PyProof.Rows.boot_enumerate (PyProof.Rows.callWith_type1 (thn (ha.run pos pins s σ G _ inv y) fun us s1 ⟨vs, G1, inv1, r1, q1⟩ => ?_) hs rfl))
  obtain ⟨z, rfl, q⟩ := q1
  cases r1 with
  | cons r rr =>
    cases rr
    obtain ⟨tk, rfl⟩ := r
    refine PySem.call_enumerate_str fun g' h1 h2 sz kp => PySem.wpAny_pyIter_enum h1 ?_
    refine ⟨s1.heap.objs.size + 1, [s1.heap.objs.size + 1, s1.heap.objs.size], _, _, G1, rfl, inv1.kept (t' := s1.toks) kp, turn_ES (s1.heap.objs.size + 1) s1.heap.objs.size z tk, ⟨⟨.none, h1⟩, h2, Nat.succ_ne_self _, Nat.zero_le _⟩, fun b hb => ?_, q⟩
    have ge : s1.heap.objs.size ≤ b := by
      rcases List.mem_cons.mp hb with rfl | hb
      · exact Nat.le_succ _
      · cases List.mem_singleton.mp hb
        exact Nat.le_refl _
    exact inv1.fpOk ge (inv1.hok.fresh ge)
theorem for_ES {z : Str} {g : TG} {tb : TS} {D : Ends} {σ : L2.St} {G : Hp} (Pv : Nat → L2.St → Hp → Prop) (h0 : Pv 0 σ G)
    (hs : ∀ j c σ G, z.cps[j]? = some c → Pv j σ G → ∀ q, G q = none → g (.ref q) σ (upd G q (.tup [.int (j : Nat), .str ⟨#[c]⟩])) fun σ2 G2 => tb { D with nx := Pv (j + 1), ct := Pv (j + 1), bk := D.nx } σ2 G2) (hd : ∀ σ G, Pv z.cps.size σ G → D.nx σ G) :
    ∃ Wd : Nat → Nat → L2.St → Hp → Prop, (∃ m, Wd 0 m σ G) ∧ ∀ j m σ G, Wd j m σ G →
      ((ItES z).stop j G ∧ D.nx σ G) ∨ ((ItES z).go j G ∧ ∃ Nn : L2.St → Hp → Prop, (∀ σ' G', Nn σ' G' → ∃ m', m' < m ∧ Wd (j + 1) m' σ' G') ∧ ∀ v G', (ItES z).yld j G v G' → g v σ G' fun σ2 G2 => tb { D with nx := Nn, ct := Nn, bk := D.nx } σ2 G2) := by
  refine ⟨fun j m σ G => m = z.cps.size - j ∧ j ≤ z.cps.size ∧ Pv j σ G, ⟨_, rfl, Nat.zero_le _, h0⟩, ?_⟩
  rintro j m σ G ⟨rfl, le, pv⟩
  rcases Nat.lt_or_ge j z.cps.size with lt | ge
  · refine .inr ⟨lt, Pv (j + 1), fun σ' G' y => ⟨z.cps.size - (j + 1), by omega, rfl, lt, y⟩, fun v G' y => ?_⟩
    obtain ⟨q, c, rfl, nq, rfl, hc⟩ := y
    exact hs j c σ G hc pv q nq
  · have ej : j = z.cps.size := Nat.le_antisymm le ge
    subst ej
    exact .inl ⟨Nat.le_refl _, hd σ G pv⟩
/-! ### iterators at their end while an exception is handled -/
section
variable {Pr : Program} {wo : World} {Ar : Around} {Ex : Value → Shared → Prop} {st : Shared}
open HotX
/-- a StopIteration, made and raised there: all that stood stands -/
theorem stop_hot {α : Type} {xh : Addr} {Qa : α → Shared → Prop} (hot : HotAt Ar xh st.heap) (k : ∀ g (a : Addr), (∀ b o, st.heap.get? b = some o → g.get? b = some o) → (∃ o, g.get? a = some o ∧ o.cls = .type "StopIteration") → Ex (.ref a) { st with heap := g }) :
    wpAny (model Pr wo) Ar (newExc (.type "StopIteration") [] >>= fun e => (raiseNew e : Sem α)) Qa Ex st := by
  obtain ⟨hh, oe, ve, e1, e2, e3⟩ := hot
  simp only [newExc, newTuple]
  refine wpAny_bind (wpAny_bind (wpAny_newObj_type (wpAny_bind (m := firstArgMember _ _) (wpAny_of_eq (a := Value.none) (by first | rfl | (simp only [firstArgMember]; rfl)) (wpAny_newObj_type ?_ (by size_fits)))) (by size_fits)))
  refine raiseNew_hot (x1 := xh) ⟨hh, oe, ve, Heap.get?_push_of_some _ (Heap.get?_push_of_some _ e1), e2, e3⟩ (Nat.ne_of_lt (Heap.lt_size (Heap.get?_push_of_some _ e1))) (Heap.get?_push_size _ rfl) rfl (by first | (simp; done) | (simp; omega)) ?_
  refine k _ _ (fun b o y => ?_) ⟨_, Heap.get?_update_self _ (Heap.get?_push_size _ rfl) rfl, rfl⟩
  rw [Heap.get?_update_other _ _ (Nat.ne_of_gt (Heap.lt_size (Heap.get?_push_of_some _ y)))]
  exact Heap.get?_push_of_some _ (Heap.get?_push_of_some _ y)
theorem list_end_hot {ite lis xh : Addr} {j : Nat} {its : Array Value} {Qn : Option Value → Shared → Prop} (hot : HotAt Ar xh st.heap) (nxi : xh ≠ ite) (hi : st.heap.IsListIter ite lis j) (hL : st.heap.IsList lis its) (out : its[j]? = none)
    (k : ∀ g, Heap.ExtBut ite st.heap g → Qn none { st with heap := g }) : wpAny (model Pr wo) Ar (pyNext (.ref ite)) Qn Ex st := by
  obtain ⟨oi, h1, h2, h3⟩ := id hi
  obtain ⟨ol, h4, _, nl, h5⟩ := hL
  obtain ⟨hh, oe, ve, e1, e2, e3⟩ := hot
  unfold pyNext
  refine wpAny_bind (wpAny_attempt (wpAny_callSpecial?_slot (name := Str.ofString "__next__") hi.typeIs PySem.slot_listiter_next (wpAny_call_entry PySem.slot_listiter_next hi.typeIs PySem.entry_listiter_next ?_ (PySem.args_listiter_next _))))
  show wpAny _ _ (field (.ref ite) 0 >>= _) _ _ st
  refine wpAny_bind (wpAny_field h1 h3 (x := .ref lis) rfl ?_)
  show wpAny _ _ (if (Value.ref lis == Value.none) = true then _ else _) _ _ st
  rw [if_neg (show ¬ ((Value.ref lis == Value.none) = true) from Bool.false_ne_true)]
  show wpAny _ _ (field (.ref ite) 1 >>= _) _ _ st
  refine wpAny_bind (wpAny_field h1 h3 (x := .int j 0) rfl ?_)
  show wpAny _ _ (seqItems? (.ref lis) >>= _) _ _ st
  refine wpAny_bind (wpAny_seqItems h4 h5 ?_)
  simp only [Int.toNat_natCast, out]
  refine wpAny_bind (wpAny_rule (wpAny_bind (wpAny_setField h1 h3 (by simp) ?_)))
  have hot' : HotAt Ar.in1 xh (st.heap.update ite (Obj.mapFields (·.setIfInBounds 0 Value.none))) := ⟨hh, oe, ve, by rw [Heap.get?_update_other _ _ nxi.symm]; exact e1, e2, e3⟩
  refine stop_hot hot' fun g a kp ha => ?_
  obtain ⟨oa, y1, y2⟩ := ha
  refine wpAny_bind (wpAny_isInstance (T := "StopIteration") (b := true) ⟨oa, y1, y2⟩ PySem.isSubtype_stop (wpAny_pure (k _ fun b o nb y => kp b o ?_)))
  rw [Heap.get?_update_other _ _ (Ne.symm nb)]
  exact y
theorem tuple_end_hot {ite tup xh : Addr} {j : Nat} {its : Array Value} {Qn : Option Value → Shared → Prop} (hot : HotAt Ar xh st.heap) (nxi : xh ≠ ite) (hi : PyProof.Rows.IsTupIter st.heap ite tup j) (hT : PyProof.Rows.IsTup st.heap tup its) (out : its[j]? = none)
    (k : ∀ g, Heap.ExtBut ite st.heap g → Qn none { st with heap := g }) : wpAny (model Pr wo) Ar (pyNext (.ref ite)) Qn Ex st := by
  obtain ⟨oi, h1, h2, h3⟩ := id hi
  obtain ⟨ol, h4, _, nl, h5⟩ := hT
  obtain ⟨hh, oe, ve, e1, e2, e3⟩ := hot
  unfold pyNext
  refine wpAny_bind (wpAny_attempt (wpAny_callSpecial?_slot (name := Str.ofString "__next__") hi.typeIs PySem.F.slot_tuple_iterator_next (wpAny_call_entry PySem.F.slot_tuple_iterator_next hi.typeIs PySem.F.entry_tuple_iterator_next ?_ (PySem.F.args_tuple_iterator_next_1 _))))
  show wpAny _ _ (field (.ref ite) 0 >>= _) _ _ st
  refine wpAny_bind (wpAny_field h1 h3 (x := .ref tup) rfl ?_)
  show wpAny _ _ (if (Value.ref tup == Value.none) = true then _ else _) _ _ st
  rw [if_neg (show ¬ ((Value.ref tup == Value.none) = true) from Bool.false_ne_true)]
  show wpAny _ _ (field (.ref ite) 1 >>= _) _ _ st
  refine wpAny_bind (wpAny_field h1 h3 (x := .int j 0) rfl ?_)
  show wpAny _ _ (seqItems? (.ref tup) >>= _) _ _ st
  refine wpAny_bind (wpAny_seqItems h4 h5 ?_)
  simp only [Int.toNat_natCast, out]
  refine wpAny_bind (wpAny_rule (wpAny_bind (wpAny_setField h1 h3 (by simp) ?_)))
  have hot' : HotAt Ar.in1 xh (st.heap.update ite (Obj.mapFields (·.setIfInBounds 0 Value.none))) := ⟨hh, oe, ve, by rw [Heap.get?_update_other _ _ nxi.symm]; exact e1, e2, e3⟩
  refine stop_hot hot' fun g a kp ha => ?_
  obtain ⟨oa, y1, y2⟩ := ha
  refine wpAny_bind (wpAny_isInstance (T := "StopIteration") (b := true) ⟨oa, y1, y2⟩ PySem.isSubtype_stop (wpAny_pure (k _ fun b o nb y => kp b o ?_)))
  rw [Heap.get?_update_other _ _ (Ne.symm nb)]
  exact y
/-- a, b = a tuple, there -/
theorem unpack_hot {tup xh : Addr} {its : Array Value} {Ql : List Value → Shared → Prop} (hot : HotAt Ar xh st.heap) (hT : PyProof.Rows.IsTup st.heap tup its)
    (k : ∀ g, Heap.ExtBut st.heap.objs.size st.heap g → Ql its.toList { st with heap := g }) : wpAny (model Pr wo) Ar (unpackItems (.ref tup) its.size none) Ql Ex st := by
  have nt : tup ≠ st.heap.objs.size := by
    obtain ⟨o, y, _⟩ := hT
    exact Nat.ne_of_lt (Heap.lt_size y)
  obtain ⟨hh, oe, ve, e1, e2, e3⟩ := hot
  have nx : xh ≠ st.heap.objs.size := Nat.ne_of_lt (Heap.lt_size e1)
  unfold unpackItems
  refine wpAny_bind ?_
  unfold notIterableAtAll
  refine wpAny_bind (wpAny_specialOf hT.typeIs PyProof.Rows.slot_tuple_iter.lookup (wpAny_pure ?_))
  simp only [Bool.false_eq_true, if_false]
  refine wpAny_bind (wpAny_holding (PyProof.Rows.iter_tuple hT (wpAny_bind (wpAny_holding (PyProof.Rows.draw_tuple nt its.size 0 _ _ ⟨_, Heap.get?_push_size _ rfl, rfl, rfl⟩ (hT.push _) (by omega) fun g1 hi1 sb1 => ?_)))))
  rw [show List.take its.size (List.drop 0 its.toList) = its.toList by rw [List.drop_zero]; exact List.take_of_length_le (by simp), if_neg (by simp)]
  have hT1 : PyProof.Rows.IsTup g1 tup its := (hT.push _).extBut sb1.extBut nt
  have hot1 : HotAt Ar xh g1 := ⟨hh, oe, ve, sb1.extBut _ _ nx (Heap.get?_push_of_some _ e1), e2, e3⟩
  refine wpAny_bind (wpAny_holding (tuple_end_hot (st := { st with heap := g1 }) hot1 nx hi1 hT1 (by simp) fun g2 eb2 => ?_))
  simp only [Option.isSome_none, Bool.false_eq_true, if_false]
  exact wpAny_pure (k g2 fun b o nb y => eb2 b o nb (sb1.extBut b o nb (Heap.get?_push_of_some _ y)))
end
/-! ### a context in which an exception is handled that stood when it began -/
structure HotB (X : Cx) (xh : Addr) (oh : Obj) : Prop where
  hnd : X.A.handled = some (.ref xh)
  obj : X.s_0.heap.get? xh = some oh
  dat : ∃ vs : Array Value, oh.data = .fields vs ∧ vs[2]? = some .none
  unt : X.H_0 xh = none
  nfs : xh ∉ X.fs
  nex : xh ∉ X.ex
section
variable {X : Cx} {pins : List (Addr × Obj)} {σ : L2.St} {H : Hp} {s : Shared} {xh : Addr} {oh : Obj}
theorem HotB.get (h : HotB X xh oh) (I : Inv X pins σ H s) : s.heap.get? xh = some oh := I.base.keep xh oh h.obj h.unt h.nfs h.nex
theorem HotB.hot (h : HotB X xh oh) (I : Inv X pins σ H s) : HotX.HotAt X.A xh s.heap := by
  obtain ⟨vs, d1, d2⟩ := h.dat
  exact ⟨h.hnd, oh, vs, h.get I, d1, d2⟩
theorem HotB.none (h : HotB X xh oh) (I : Inv X pins σ H s) : H xh = Option.none := I.base.free xh oh h.obj h.unt h.nex
theorem HotB.nloc (h : HotB X xh oh) (I : Inv X pins σ H s) : xh ≠ X.env.locals := fun z => by
  obtain ⟨m, ⟨o, es, ep, e1, e2, _⟩, _⟩ := I.loc
  obtain ⟨vs, d1, _⟩ := h.dat
  have g := h.get I
  rw [z, e1] at g
  cases g
  rw [d1] at e2
  cases e2
theorem HotB.blk (h : HotB X xh oh) (I : Inv X pins σ H s) (scope : Scope) (ce : Env) {fp : List Addr} (hf : xh ∉ fp) : HotB (X.blk s H scope ce fp) xh oh :=
  ⟨h.hnd, h.get I, h.dat, h.none I, fun z => (List.mem_cons.mp (I.stkSub xh z)).elim (h.nloc I) h.nfs, hf⟩
/-- (a, b) = a tuple, there -/
theorem pg_tupB {es : List Expr} {k : Nat} {t : TGs} {n : Nat} {pos : Pos} (hb : HotB X xh oh) (h : PGs X es t)
    (hn : (assignEach es X.env).length = n := by rfl) (hst : (assignEach es X.env).findIdx? (·.1) = Option.none := by rfl) : PG X (.Tuple es k pos) (gTup X.K n t) := by
  refine ⟨fun pins s σ H v u Q I r y => ?_⟩
  obtain ⟨a, xs, rfl, hq, hl, y⟩ := y
  cases r
  obtain ⟨its, rv, hT, hz⟩ := I.tuple hq
  have e1 : (assignEach es X.env).length = its.toArray.size := by
    rw [List.size_toArray, hn, ← hl, rv.length]
  rw [PyProof.Rows.assign_Tuple]
  refine wpAny_bind (wpAny_standAt ?_)
  unfold unpack
  rw [e1, hst]
  refine wpAny_bind (wpAny_holding (unpack_hot (hb.hot I) hT fun g eb => ?_))
  have I1 : Inv X pins σ H { s with heap := g } := I.kept (t' := s.toks) fun b o e => eb b o (Nat.ne_of_lt (Heap.lt_size e)) e
  exact h.run pins _ σ H xs _ Q I1 (by simpa using rv) y
/-- [elt for tg in a list if ..], there -/
def tLcB (K : PySem.W.Frag) (tl : TE) (g : TG) (tt : TT) (te : TE) (vs : List Nat) : TE := fun σ H Q => tl σ H fun x H1 => ∃ a xs, x = .ref a ∧ SqL K H1 a xs ∧ ∀ D, H1 D = Option.none → ∃ Pv : Nat → Hp → Prop, Pv 0 (upd H1 D (.lst [])) ∧ (∀ i G, i ≤ xs.length → Pv i G → SqL K G a xs) ∧
  (∀ i v G, xs[i]? = some v → Pv i G → g v (wipe σ vs) G fun σ2 G2 => wipe σ2 vs = wipe σ vs ∧ tt σ2 G2 fun b G3 => if b = true then te σ2 G3 fun y G4 => ∃ acc, G4 D = some (.lst acc) ∧ acc.length < sizeLine ∧ Pv (i + 1) (upd G4 D (.lst (acc ++ [y]))) else Pv (i + 1) G3) ∧ ∀ G, Pv xs.length G → Q (.ref D) G
theorem pe_lcB {elt tg iter : Expr} {ifs : List Expr} {scope : Scope} {own : List (Str × Nat)} {pos : Pos} {tl : TE} {g : TG} {tt : TT} {te : TE} (hb : HotB X xh oh) (hN : X.N.Nodup) (hi : PE X iter tl) (ok : BlkOk X.N X.env.scope scope own)
    (hg : ∀ (s : Shared) (H : Hp) (C : Addr) (cl : List (Str × Addr)) (fp : List Addr), HotB (X.blk s H scope (compEnvC scope cl C X.env) fp) xh oh → PG (X.blk s H scope (compEnvC scope cl C X.env) fp) tg g)
    (ht : ∀ (s : Shared) (H : Hp) (C : Addr) (cl : List (Str × Addr)) (fp : List Addr), PTs (X.blk s H scope (compEnvC scope cl C X.env) fp) ifs tt)
    (he : ∀ (s : Shared) (H : Hp) (C : Addr) (cl : List (Str × Addr)) (fp : List Addr), PE (X.blk s H scope (compEnvC scope cl C X.env) fp) elt te) (hs : ∀ x, foldedSetIterable iter X.env x = pure x := by intro _; rfl) :
    PE X (.ListComp elt [⟨tg, iter, ifs, 0⟩] scope pos) (tLcB X.K tl g tt te (own.map (·.2))) := by
  refine ⟨fun pins s σ H Q I h => ?_⟩
  rw [eval_ListComp]
  have hfree : ∀ y ∈ scope.names, y.2 = .free → ∃ c, X.env.cells.lookup y.1 = some c := fun y hy e => (ok.free y hy e).elim (fun k => I.ok.has _ (.inl k)) (fun k => I.ok.has _ (.inr k))
  refine wpAny_comprehension_free (use := Option.none) rfl hs (closure_ok hfree) ok.kind (fun y hy e => by rw [ok.uniq y hy, e]) (thn (hi.run pins s σ H _ I h) fun xv s1 ⟨x, H1, I1, r1, a, xs, ex, hL, k⟩ => ?_)
  subst ex
  cases r1
  obtain ⟨its, rv, hl, hz⟩ := I1.list hL
  refine PySem.wpAny_pyIter_list hl.isList ?_
  -- the iterator's object, the new list, the block's frame
  have I2 : Inv X pins σ H1 { s1 with heap := s1.heap.push { cls := .type "list_iterator", data := .fields #[.ref a, .int 0 0] } } := I1.kept (t' := s1.toks) fun b o e => Heap.get?_push_of_some _ e
  have hit2 : ({ s1 with heap := s1.heap.push { cls := .type "list_iterator", data := .fields #[.ref a, .int 0 0] } } : Shared).heap.IsListIter s1.heap.objs.size a 0 := ⟨_, Heap.get?_push_size _ rfl, rfl, rfl⟩
  have it0 : H1 s1.heap.objs.size = Option.none := I1.hok.fresh (Nat.le_refl _)
  have fit : FpOk X pins H1 s1.heap.objs.size := I1.fpOk (Nat.le_refl _) it0
  have nxi : xh ≠ s1.heap.objs.size := Nat.ne_of_lt (Heap.lt_size (hb.get I1))
  have ltit : s1.heap.objs.size < ({ s1 with heap := s1.heap.push { cls := .type "list_iterator", data := .fields #[.ref a, .int 0 0] } } : Shared).heap.objs.size := by
    show _ < (s1.heap.push _).objs.size
    rw [Heap.size_push]
    exact Nat.lt_succ_self _
  generalize ({ s1 with heap := s1.heap.push { cls := .type "list_iterator", data := .fields #[.ref a, .int 0 0] } } : Shared) = s2 at *
  generalize s1.heap.objs.size = it at *
  refine wpAny_newObj_type (newEnv_comp ?_) (by show 0 ≤ sizeLine; decide)
  obtain ⟨Pv, p0, pl, pt, pd⟩ := k s2.heap.objs.size (I2.hok.fresh (Nat.le_refl _))
  have I3 : Inv X pins σ (upd H1 s2.heap.objs.size (.lst [])) { s2 with heap := s2.heap.push { cls := .type "list", data := .seq ([] : List Value).toArray } } :=
    I2.laid (t' := s2.toks) (fun b o e => Heap.get?_push_of_some _ e) (Nat.le_refl _) ⟨Nat.zero_le _, [], 0, .nil, Heap.get?_push_size _ rfl⟩
  have hit3 : ({ s2 with heap := s2.heap.push { cls := .type "list", data := .seq ([] : List Value).toArray } } : Shared).heap.IsListIter it a 0 := by
    obtain ⟨o, y1, y2⟩ := hit2
    exact ⟨o, Heap.get?_push_of_some _ y1, y2⟩
  have lt3 : it < ({ s2 with heap := s2.heap.push { cls := .type "list", data := .seq ([] : List Value).toArray } } : Shared).heap.objs.size := by
    show _ < (s2.heap.push _).objs.size
    rw [Heap.size_push]
    exact Nat.lt_succ_of_lt ltit
  have fit3 : FpOk X pins (upd H1 s2.heap.objs.size (.lst [])) it := ⟨by rw [upd_ne (Nat.ne_of_lt ltit)]; exact it0, fit.2⟩
  generalize hDD : s2.heap.objs.size = D at *
  generalize ({ s2 with heap := s2.heap.push { cls := .type "list", data := .seq ([] : List Value).toArray } } : Shared) = s3 at *
  generalize upd H1 D (.lst []) = H3 at *
  have I4 := block_start I3 ok hN (fp := [it]) fun b hm => by
    rw [List.mem_singleton.mp hm]
    exact ⟨fit3, lt3⟩
  -- the block's context, by letters
  have hotB := fun ce => hb.blk I3 scope ce (fp := [it]) fun z => nxi (List.mem_singleton.mp z)
  have pg := fun cl => hg s3 H3 s3.heap.objs.size cl [it] (hotB _)
  have pts := fun cl => ht s3 H3 s3.heap.objs.size cl [it]
  have pe := fun cl => he s3 H3 s3.heap.objs.size cl [it]
  have hit4 : ({ s3 with heap := pushCells (s3.heap.push { cls := .type "dict", data := .dict #[] }) scope.names } : Shared).heap.IsListIter it a 0 := by
    obtain ⟨o, y1, y2⟩ := hit3
    exact ⟨o, pushCells_keeps _ _ _ _ (Heap.get?_push_of_some _ y1), y2⟩
  show codeAny _ _ (.compStart (.ListComp elt [⟨tg, iter, ifs, 0⟩] scope pos) 0 (.ref it) (.ref D) (compEnvC scope (cellsFrom (s3.heap.objs.size + 1) scope.names (cloFrom X.env.cells scope.names [])) s3.heap.objs.size X.env)) (compPost (model X.prog X.w) X.A X.xe Option.none (EP X pins σ Q) (.ref D) s3.heap.objs.size) { s3 with heap := pushCells (s3.heap.push { cls := .type "dict", data := .dict #[] }) scope.names }
  specialize pg (cellsFrom (s3.heap.objs.size + 1) scope.names (cloFrom X.env.cells scope.names []))
  specialize pts (cellsFrom (s3.heap.objs.size + 1) scope.names (cloFrom X.env.cells scope.names []))
  specialize pe (cellsFrom (s3.heap.objs.size + 1) scope.names (cloFrom X.env.cells scope.names []))
  have eL : (compEnvC scope (cellsFrom (s3.heap.objs.size + 1) scope.names (cloFrom X.env.cells scope.names [])) s3.heap.objs.size X.env).locals = s3.heap.objs.size := rfl
  generalize compEnvC scope (cellsFrom (s3.heap.objs.size + 1) scope.names (cloFrom X.env.cells scope.names [])) s3.heap.objs.size X.env = ce at *
  generalize ({ s3 with heap := pushCells (s3.heap.push { cls := .type "dict", data := .dict #[] }) scope.names } : Shared) = s4 at *
  have hb4 := hotB ce
  have mem1 : it ∈ [it] := List.mem_singleton.mpr rfl
  have fpk : ∀ {σ' : L2.St} {G : Hp} {s' : Shared}, Inv (X.blk s3 H3 scope ce [it]) [] σ' G s' → G it = Option.none → FpOk (X.blk s3 H3 scope ce [it]) [] G it := fun {σ' G s'} J g0 =>
    ⟨g0, (J.ok.exf it mem1).1, J.ok.exfs it mem1, .inl mem1, fun y c e => (J.ok.exf it mem1).2 y c e, fun p hp => absurd (show p ∈ ([] : List (Addr × Obj)) ++ [] from hp) (by simp)⟩
  have loop : ∀ s4 : Shared, Inv (X.blk s3 H3 scope ce [it]) [] (wipe σ (own.map (·.2))) H3 s4 → s4.heap.IsListIter it a 0 → codeAny (model X.prog X.w) X.A (.compLoop (.ListComp elt [⟨tg, iter, ifs, 0⟩] scope pos) 0 (.ref it) (.ref D) ce) (compPost (model X.prog X.w) X.A X.xe Option.none (EP X pins σ Q) (.ref D) s3.heap.objs.size) s4 := by
    intro s4 I4 hit4
    refine compLoop_any (fun n s' => ∃ j G, n = xs.length - j ∧ j ≤ xs.length ∧ Inv (X.blk s3 H3 scope ce [it]) [] (wipe σ (own.map (·.2))) G s' ∧ s'.heap.IsListIter it a j ∧ G it = Option.none ∧ Pv j G) ?_ _ ⟨0, H3, rfl, Nat.zero_le _, I4, hit4, fit3.1, p0⟩
    rintro n s5 ⟨j, G, rfl, le, I5, hi5, g5, pv⟩
    have hL5 : SqL (X.blk s3 H3 scope ce [it]).K G a xs := pl j G le pv
    obtain ⟨its5, rv5, hl5, hz5⟩ := I5.list hL5
    obtain ⟨f0, f1, f2, f3, f4, f5⟩ := fpk I5 g5
    rcases Nat.lt_or_ge j xs.length with lt | ge
    · obtain ⟨u, hu, ru⟩ := rv5.get (List.getElem?_eq_getElem lt)
      refine PySem.wpAny_pyNext_list_item hi5 hl5.isList (x := u) (by simpa using hu) fun g6 hi6 sb6 => ?_
      have I6 : Inv (X.blk s3 H3 scope ce [it]) [] (wipe σ (own.map (·.2))) G { s5 with heap := g6 } := I5.turned (t' := s5.toks) (fun b o nb e => (sb6.2 b nb).trans e) f0 f1 f3 f4 f5
      obtain ⟨o6, y1, y2, y3⟩ := id hi6
      refine go_of (s := { s5 with heap := g6 }) y1 y2 y3 (by decide) ?_
      have I6p := I6.pinned (fp := [it]) (fun b hm => by rw [List.mem_singleton.mp hm]; exact fpk I6 g5) (fun b hm => by rw [List.mem_singleton.mp hm]; exact ⟨o6, y1, fun v z => by rw [y3] at z; cases z⟩)
      refine thnF (pg.run _ _ _ G _ u _ I6p ru (pt j _ G (List.getElem?_eq_getElem lt) pv)) fun _ s8 ⟨σ8, H8, I8, hw8, q8⟩ => ?_
      refine thnF (pts.run _ s8 σ8 H8 _ I8 q8) fun b s9 ⟨H9, I9, q9⟩ => ?_
      have fin : ∀ {s' : Shared} {G' : Hp}, Inv (X.blk s3 H3 scope ce [it]) ([] ++ pinsAt [it] g6) σ8 G' s' → Pv (j + 1) G' → ∃ m, m < xs.length - j ∧ ∃ j' G', m = xs.length - j' ∧ j' ≤ xs.length ∧ Inv (X.blk s3 H3 scope ce [it]) [] (wipe σ (own.map (·.2))) G' s' ∧ s'.heap.IsListIter it a j' ∧ G' it = Option.none ∧ Pv j' G' := fun {s' G'} J nx => by
        have pin := J.pin (it, o6) (List.mem_append_right _ (List.mem_append_right _ (mem_pinsAt mem1 y1)))
        have hln : (wipe σ (own.map (·.2))).length = σ8.length := by rw [← hw8, wipe_length]
        refine ⟨xs.length - (j + 1), by omega, j + 1, G', rfl, lt, (J.unpinned (pins := [])).weak hln (fun i v e => ?_), ⟨o6, pin.1, y2, y3⟩, pin.2.1, nx⟩
        rw [← hw8] at e
        exact (wipe_some e).1
      cases b with
      | false =>
        simp only [Bool.false_eq_true, if_false] at q9 ⊢
        exact fin I9 q9
      | true =>
        simp only [if_true] at q9 ⊢
        refine thnF (pe.run _ s9 σ8 H9 _ I9 q9) fun z s10 ⟨yv, H10, I10, r10, acc, hD10, hz10, nx⟩ => ?_
        exact app_ok (X := X.blk s3 H3 scope ce [it]) I10 hD10 hz10 r10 fun s11 I11 => fin I11 nx
    · have ej : j = xs.length := Nat.le_antisymm le ge
      subst ej
      refine list_end_hot (hb4.hot I5) nxi hi5 hl5.isList (by have := rv5.length; simp; omega) fun g6 eb => ?_
      have I6 : Inv (X.blk s3 H3 scope ce [it]) [] (wipe σ (own.map (·.2))) G { s5 with heap := g6 } := I5.turned (t' := s5.toks) (fun b o nb e => eb b o nb e) f0 f1 f3 f4 f5
      have I7 : Inv X pins σ G { s5 with heap := g6 } := I3.call' (ch := [it]) I6.os I6.base I6.hok I6.bare fun b hm => by
        rw [List.mem_singleton.mp hm]
        exact ⟨fit3.2.2.2.1, fit3.2.1, fit3.2.2.2.2.1, fit3.2.2.2.2.2⟩
      have nC : G s3.heap.objs.size = Option.none := by
        have z : G ce.locals = Option.none := I6.free
        rw [eL] at z
        exact z
      obtain ⟨m, hn, _⟩ := I6.loc
      have hn : g6.Ns ce.locals m := hn
      rw [eL] at hn
      obtain ⟨k0, k1, k2, k3, k4, k5⟩ := I3.fpOk (Nat.le_refl _) nC
      exact ⟨m, hn, fun g7 sb => ⟨.ref D, G, I7.turned (t' := s5.toks) (fun b o nb e => (sb.2 b nb).trans e) k0 k1 k3 k4 k5, rfl, pd G pv⟩⟩
  refine codeAny_compStart_list (loop s4 I4 hit4) ?_
  exact PySem.wpAny_pyIter_listiter hit4 (loop s4 I4 hit4)
end
open PySem.Spec PyProof.Rows
/-! ### isinstance of the handled exception, wherever it was handed -/
def rIsB (K : PySem.W.Frag) (D xh : Addr) : List V → Hp → VK → Prop := fun vs H Q => ∃ (c : V) (u : Value) (b : Bool), vs = [.ref xh, c] ∧ ClsV c u ∧ PySem.W.kitOne K (.ref D) u = some b ∧ Q (.bl b) H
theorem call_isB {X : Cx} {xh D : Addr} {oh : Obj} (hb : HotB X xh oh) (C : ExcC X.K D) (hc : oh.cls = .ref D) (hd : oh.dict = none) : CallR X (.builtin "isinstance") (rIsB X.K D xh) := by
  intro pins s σ H vs us Q I r y
  obtain ⟨c, u, b, rfl, kc, e, q⟩ := y
  obtain ⟨u1, u2, rfl, r1, r2⟩ := vals2 r
  cases (show u1 = Value.ref xh from r1)
  have e2 := kc.eq r2
  subst e2
  obtain ⟨ws, d1, _⟩ := hb.dat
  have J : PySem.W.InstAt s.heap xh oh D none := by
    have g := hb.get I
    obtain ⟨oc, od, oda, osl⟩ := oh
    dsimp only at hc hd d1
    subst hc hd d1
    exact ⟨g, rfl, rfl, trivial⟩
  exact PySem.W.kia_one (PySem.W.handS_kitx_exc C.hg C.hk C.hs C.hd C.ha C.hn C.ht C.hm) I.kIn J e (fun z => nomatch z) fun tk => ⟨.bl b, H, I.tok tk, rfl, q⟩
/-! ### a def called while an exception is handled, that exception told -/
structure HotP (A : Around) (outer : List Env) (H : Hp) (s : Shared) (xh : Addr) (oh : Obj) : Prop where
  hnd : A.handled = some (.ref xh)
  dat : ∃ vs : Array Value, oh.data = .fields vs ∧ vs[2]? = some .none
  pin : L2H.PinOk outer H s (xh, oh)
theorem HotP.b {CX : CXT} {P : Program} {w : World} {K : PySem.W.Frag} {mg : Str → Option Value} {base : Heap} {N : List Str} {qual : Str} {scope : Scope} {f : Addr} {cd : Value} {A : Around} {outer : List Env} {s : Shared} {H : Hp} {E : XK} {xh : Addr} {oh : Obj} (h : HotP A outer H s xh oh) :
    HotB (L2H.cxH CX P w K mg base N qual scope f cd A outer s H E (xh, oh)) xh oh := ⟨h.hnd, h.pin.get, h.dat, h.pin.free, h.pin.nofs, fun z => nomatch (show xh ∈ ([] : List Addr) from z)⟩
/-- its promise: sp with the exception told -/
def FnB (P : Program) (w : World) (K : PySem.W.Frag) (mg : Str → Option Value) (base : Heap) (k : Nat) (f : Addr) (fd : FuncData) (ps : List Str) (sp : Addr → Value → Option Addr → Sp) : Prop :=
  ∀ (A : Around) (outer : List Env) (s : Shared) (H : Hp) (args : Args) (us : List Value) (vs : List V) (Q : VK) (xh : Addr) (oh : Obj), L2H.RoomH k A → HotP A outer H s xh oh → Env0 P w K mg base A outer s H → BindsTo s fd args (ps.zip us) → Vals vs us → vs.length = ps.length → sp xh oh.cls oh.dict vs H Q E0 →
    codeAny (model P w) A (.call (.ref f) args) (CR CX0 outer P w H s Q E0) s
theorem Fun.okB {P : Program} {w : World} {K : PySem.W.Frag} {mg : Str → Option Value} {base : Heap} {x qual : Str} {st : Stmt} {f : Addr} {fd : FuncData} {N ps : List Str} {k : Nat} {sp : Addr → Value → Option Addr → Sp} (F : L2.Fun K x qual st f fd) (S : FnScope N ps (defScope st))
    (body : ∀ (cdv : Value) (A : Around) (outer : List Env) (s : Shared) (H : Hp) (vs : List V) (Q : VK) (xh : Addr) (oh : Obj), L2H.RoomH k (A.deeper (PyProof.Rows.envOfC qual (defScope st) s.heap.objs.size f cdv)) → HotB (L2H.cxH CX0 P w K mg base N qual (defScope st) f cdv A outer s H E0 (xh, oh)).nox xh oh → sp xh oh.cls oh.dict vs H Q E0 →
      ∃ t, PSs (L2H.cxH CX0 P w K mg base N qual (defScope st) f cdv A outer s H E0 (xh, oh)).nox (defBody st) t ∧ t { nx := fun _ H' => Q .non H', rt := Q } (L2.start N vs) H) : FnB P w K mg base (k + 1) f fd ps sp := by
  obtain ⟨oc, od, kV, doc, pm, an, cdv, ct, osl, rfl, lk, hcd⟩ := F.ex
  intro A outer s H args us vs Q xh oh hr hp e0 hb r hl hsp
  have KX : K.In s.heap := e0.mod.kin.keeps fun b o e => (e0.bs b o e).1
  have hkind : ∀ y ∈ ps.zip us, (defScope st).names.lookup y.1 = some .local ∨ ((defScope st).names.lookup y.1 = some .cell ∧ ((cellsFrom (s.heap.objs.size + 1) (defScope st).names []).lookup y.1).isSome = true) := by
    rintro ⟨n, v⟩ hy
    exact (S.par n (List.of_mem_zip hy).1).imp id fun q => ⟨q, PySem.W.cellsFrom_some _ _ _ (.inl q)⟩
  refine codeAny_call_function hr.depth (KX _ _ lk) rfl S.co S.gen rfl (PySem.W.codeRec_of KX hcd) (hb _ _ _ _ (wpAny_newFunctionEnv_cells S.kind hkind fun env he s1 y => ?_))
  subst he
  refine ⟨(e0.mod.nolimit.keeps fun b o e => (e0.bs b o e).1).keeps y.toInCall.keep, codeAny_func ?_⟩
  have hB := hp.b (CX := CX0) (P := P) (w := w) (K := K) (mg := mg) (base := base) (N := N) (qual := qual) (scope := defScope st) (f := f) (cd := cdv) (E := E0)
  obtain ⟨t, ht, hq⟩ := body cdv A outer s H vs Q xh oh (hr.deeper _) ⟨hB.hnd, hB.obj, hB.dat, hB.unt, hB.nfs, hB.nex⟩ hsp
  have I : Inv (L2H.cxH CX0 P w K mg base N qual (defScope st) f cdv A outer s H E0 (xh, oh)) [] (L2.start N vs) H s1 := L2H.inv_startH S hp.pin e0 hl r y
  refine wpAny_mono (ht.run [] s1 (L2.start N vs) H _ (I.wish _) hq) (fun fl s' z => ?_) fun _ _ z => z.elim
  have z' : SP (L2H.cxH CX0 P w K mg base N qual (defScope st) f cdv A outer s H E0 (xh, oh)) [] { nx := fun _ H' => Q .non H', rt := Q } fl s' := z.unwish
  cases fl with
  | ret u =>
    obtain ⟨v, σ', H', J, rv, q⟩ := z'
    exact ⟨v, H', J.os, J.bare, J.base, J.hok, rv, q⟩
  | next =>
    obtain ⟨σ', H', J, q⟩ := z'
    exact ⟨V.non, H', J.os, J.bare, J.base, J.hok, rfl, q⟩
  | brk => exact z'.elim fun _ y => y.elim fun _ y => y.2.elim
  | cont => exact z'.elim fun _ y => y.elim fun _ y => y.2.elim
/-! ### calls of such defs, out of the suite or out of another such def -/
structure HotG (X : Cx) (xh : Addr) (oh : Obj) : Prop where
  hnd : X.A.handled = some (.ref xh)
  dat : ∃ vs : Array Value, oh.data = .fields vs ∧ vs[2]? = some .none
  at_ : ∀ {pins : List (Addr × Obj)} {σ : L2.St} {H : Hp} {s : Shared}, Inv X pins σ H s → s.heap.get? xh = some oh ∧ H xh = none ∧ xh ≠ X.env.locals ∧ xh ∉ X.fs
theorem HotB.g {X : Cx} {xh : Addr} {oh : Obj} (h : HotB X xh oh) : HotG X xh oh := ⟨h.hnd, h.dat, fun I => ⟨h.get I, h.none I, h.nloc I, h.nfs⟩⟩
theorem hotG_suite {X : Cx} {a : Addr} {oe : Obj} {pn : List (Addr × Obj)} {cls : Value} {d : Option Addr} (hz : L2N.Zn cls d oe) (hf : ∃ vs, oe.data = .fields vs) : HotG (X.suite a ((a, oe) :: pn)) a oe := by
  obtain ⟨vs, e⟩ := hf
  refine ⟨rfl, ⟨vs, e, hz.2.2 vs e⟩, fun I => ?_⟩
  obtain ⟨h1, h2, h3, h4, _⟩ := I.pin (a, oe) (List.mem_append_left _ List.mem_cons_self)
  exact ⟨h1, h2, h3, h4⟩
theorem HotG.p {X : Cx} {xh : Addr} {oh : Obj} (h : HotG X xh oh) {pins : List (Addr × Obj)} {σ : L2.St} {H : Hp} {s : Shared} (I : Inv X pins σ H s) : HotP X.A X.stack H s xh oh := by
  obtain ⟨h1, h2, h3, h4⟩ := h.at_ I
  obtain ⟨vs, d1, d2⟩ := h.dat
  exact ⟨h.hnd, h.dat, h1, h2, fun z => (List.mem_cons.mp (I.stkSub xh z)).elim h3 h4, fun v z => by rw [d1] at z; cases z⟩
def tCallG (sp : Addr → Value → Option Addr → Sp) (xh : Addr) (cls : Value) (dd : Option Addr) (n : Nat) (t : L2.TA) : TE := fun σ H Q => t σ H fun vs H1 => vs.length = n ∧ sp xh cls dd vs H1 Q E0
theorem pe_callG {X : Cx} {k : Nat} {f : Addr} {fd : FuncData} {ps : List Str} {sp : Addr → Value → Option Addr → Sp} {xh : Addr} {oh : Obj} {x : Str} {p pos : Pos} {e : Expr} {es : List Expr} {t : L2.TA} (G : FnB X.prog X.w X.K X.mg X.base k f fd ps sp) (hr : L2H.RoomH k X.A) (hg : HotG X xh oh) {cls : Value} {dd : Option Addr} (hcl : oh.cls = cls) (hdd : oh.dict = dd) (gl : Gl X x) (hm : X.mg x = some (.ref f)) (hk : PySem.W.keepIn X.K (.ref f) = true) (hb : Binds X.K fd ps [])
    (ha : PA X (e :: es) t) (hdb : (x == ("__debug__" : Str)) = false := by decide) (he : starEach (e :: es) X.env = (false, eval e X.env) :: starEach es X.env := by rfl) (hpl : (backTo pos (starEach es X.env)).any (·.1) = false := by rfl) :
    PE X (.Call (.Name x p) (e :: es) [] pos) (tCallG sp xh cls dd ps.length t) := by
  subst hcl hdd
  refine ⟨fun pins s σ H Q I y => ?_⟩
  refine wpAny_Call_Name_kw (ld_glob I gl hm (PySem.W.callWith_K (h₀ := X.base) I.ok.mod.kin hk (thn (ha.run pos pins s σ H _ I y) fun us s1 ⟨vs, H1, I1, r, q⟩ => ⟨I1.kIn, ?_⟩) he hpl) hdb)
  obtain ⟨hl, q⟩ := q
  have hu : us.length = ps.length := by rw [← r.length, hl]
  have hbb : BindsTo s1 fd ⟨us, []⟩ (ps.zip us) := by
    have z := hb s1 us I1.kIn (by rw [List.append_nil]; exact hu)
    rw [List.append_nil] at z
    exact z
  refine wpAny_call (codeAny_mono (G X.A X.stack s1 H1 ⟨us, []⟩ us vs Q xh oh hr (hg.p I1) I1.env0 hbb r hl q) fun rs s' hq => ?_)
  cases rs with
  | error e => exact False.elim hq
  | ok fl =>
    cases fl with
    | ret u => exact I1.after hq
    | next => exact False.elim hq
    | brk => exact False.elim hq
    | cont => exact False.elim hq
/-! ### a lambda without parameters handed to a def, its errors told with their context -/
def lamCxN (X : Cx) (A : Around) (outer : List Env) (s : Shared) (H : Hp) (E : XK) (scope : Scope) (f c : Addr) : Cx :=
  (LamX.lamCx X A outer s H E scope f c).wish fun e s' => wpAny (model X.prog X.w) (A.deeper (LamX.lamEnv X scope s.heap.objs.size f c)) (leaving (LamX.lamEnv X scope s.heap.objs.size f c) e) (fun _ s2 => L2N.CX X.prog X.w outer H s E e s2) (fun e2 s2 => L2N.CX X.prog X.w outer H s E e2 s2) s'
theorem pe_actN {X : Cx} {pins : List (Addr × Obj)} {σ : L2.St} {H : Hp} {s : Shared} {CXg : CXT} {Eg : XK} {Ng : List Str} {qg : Str} {sg : Scope} {g f c : Addr} {cdg pm ctv : Value} {params : Arguments} {body : Expr} {scope : Scope} {k i : Nat} {a : Str} {pn : List (Addr × Obj)} {xe : Value → Shared → Prop} {W : WX} {E : L2.St → XK} {tb : XK → TE} {p1 p2 : Pos}
    (I : Inv X pins σ H s) (L : LamX.LamS X.env.scope scope) (hf : s.heap.get? f = some (PySem.W.kla_obj "<lambda>" (X.env.qual ++ "<lambda>") params body scope (cloFrom X.env.cells scope.names []) pm c ctv)) (hfn : H f = none) (hfr : f ∉ frs X.stack)
    (hbind : bindArgs (PySem.W.kla_fn "<lambda>" (X.env.qual ++ "<lambda>") params body scope (cloFrom X.env.cells scope.names []) pm (.ref c) ctv) ⟨[], []⟩ = pure [])
    (tk : L2N.Takes ((cxOf CXg X.prog X.w X.K X.mg X.base Ng qg sg g cdg X.A X.stack s H Eg).tr pn xe) W) (hW : ∀ cls d σ2 H2, E σ2 cls d H2 → W cls d σ2 H2) (hr : Room (k + 1) (X.A.deeper (envOfC qg sg s.heap.objs.size g cdg)))
    (hbody : ∀ (A : Around) (outer : List Env) (s : Shared) (H : Hp) (E : XK), Room k (A.deeper (LamX.lamEnv X scope s.heap.objs.size f c)) → PE (lamCxN X A outer s H E scope f c) body (tb E))
    (hN : Ng[i]? = some a) (hv : Vis sg a) (hd : (a == ("__debug__" : Str)) = false := by decide) (hcd : (a == ("__classdict__" : Str)) = false := by decide) :
    PE ((cxOf CXg X.prog X.w X.K X.mg X.base Ng qg sg g cdg X.A X.stack s H Eg).tr pn xe) (.Call (.Name a p1) [] [] p2) (fun σZ HZ Q => σZ[i]? = some (some (.ref f)) ∧ HZ c = some (LamX.CodeO c (X.env.qual ++ "<lambda>")) ∧ tb (E σZ) σ HZ Q) := by
  refine ⟨fun pz sz σz Hz Q Iz ⟨hs, hc, y⟩ => ?_⟩
  refine wpAny_Call_Name_kw (thn ((pe_var (pos := p1) (i := i) hN hv hd hcd).run pz sz σz Hz (fun v H1 => v = .ref f ∧ H1 = Hz) Iz ⟨.ref f, hs, rfl, rfl⟩) fun u s1 ⟨v, H1, I1, r1, ev, eH⟩ => ?_)
  subst ev eH
  cases (show u = Value.ref f from r1)
  have of1 := I1.base.keep f _ hf hfn hfr (fun z => nomatch (show f ∈ ([] : List Addr) from z))
  refine PySem.W.callWith_F0 ⟨_, _, _, _, of1⟩ ?_
  obtain ⟨⟨oc, vs, t, hoc, hdc, hvc⟩, _, _⟩ := I1.hok c _ hc
  have run : codeAny (model X.prog X.w) (X.A.deeper (envOfC qg sg s.heap.objs.size g cdg)) (.call (.ref f) ⟨[], []⟩) (CR (L2N.CX X.prog X.w) (envOfC qg sg s.heap.objs.size g cdg :: X.stack) X.prog X.w H1 s1 Q (E σz)) s1 := by
    refine PySem.W.kla_callFunE hr.depth of1 rfl L.co L.gen rfl ⟨c, oc, vs, t, rfl, hoc, hdc, hvc⟩ ?_
    rw [hbind]
    refine wpAny_pure (wpAny_newFunctionEnv (fun y hy => (L.own y hy).2) (fun y hy => absurd hy (by simp)) (fun g1 hns hsb => ⟨I1.nolimit.fresh _ hsb, ?_⟩) L.kind)
    have kp : ∀ b o, s1.heap.get? b = some o → g1.get? b = some o := fun b o e => hsb.extBut b o (Nat.ne_of_lt (Heap.lt_size e)) (Heap.get?_push_of_some _ e)
    have J := LamX.lam_start2 (E := E σz) (f := f) (c' := c) (tk := s1.toks + ([] : List (Str × Value)).length) I L I1.env0 hr.hd I1.base hns kp
    refine PySem.W.kla_codeExpr (wpAny_mono ((hbody _ _ s1 H1 (E σz) (hr.deeper _)).run [] _ _ H1 Q (J.wish _) y) (fun v s3 ⟨w3, H3, J3, rv, q⟩ => ⟨w3, H3, J3.os, J3.bare, J3.base, J3.hok, rv, q⟩) fun e s3 z => z)
  refine wpAny_call (codeAny_mono run fun rs s2 hq => ?_)
  cases rs with
  | error e => exact tk e s2 (L2N.XE.of_call I1 (fun cls d H' h => hW cls d σz H' h) hq)
  | ok fl =>
    cases fl with
    | ret u => exact I1.after hq
    | next => exact False.elim hq
    | brk => exact False.elim hq
    | cont => exact False.elim hq
/-- the def that calls what it got; TT: what it makes of the lambda's reading -/
def GivesN (X : Cx) (Ng : List Str) (x : Str) (sg : Scope) (g : Addr) (cdg : Value) (bg : List Stmt) (a q : Str) (TT : (XK → Hp → VK → Prop) → Hp → VK → Prop) : Prop :=
  ∀ (k : Nat) (f c : Addr) (s : Shared) (H : Hp) (Q : VK) (tl : XK → Hp → VK → Prop), Room k (X.A.deeper (envOfC x sg s.heap.objs.size g cdg)) → 40 ≤ k →
    (∀ (W : WX) (pn : List (Addr × Obj)) (xe : Value → Shared → Prop) (E : L2.St → XK) (p1 p2 : Pos), L2N.Takes ((cxOf CX0 X.prog X.w X.K X.mg X.base Ng x sg g cdg X.A X.stack s H E0).tr pn xe) W → (∀ cls d σ2 H2, E σ2 cls d H2 → W cls d σ2 H2) →
      PE ((cxOf CX0 X.prog X.w X.K X.mg X.base Ng x sg g cdg X.A X.stack s H E0).tr pn xe) (.Call (.Name a p1) [] [] p2) (fun σZ HZ Q => σZ[0]? = some (some (.ref f)) ∧ HZ c = some (LamX.CodeO c q) ∧ tl (E σZ) HZ Q)) →
    H c = some (LamX.CodeO c q) → TT tl H Q →
    ∃ t, PSs (cxOf CX0 X.prog X.w X.K X.mg X.base Ng x sg g cdg X.A X.stack s H E0).nox bg t ∧ t { nx := fun _ H' => Q .non H', rt := Q } (L2.start Ng [.ref f]) H
theorem pe_lamN {X : Cx} {T : List (Addr × Str)} {TT : (XK → Hp → VK → Prop) → Hp → VK → Prop} {x a : Str} {g c P : Addr} {k : Nat} {pg : Arguments} {bg : List Stmt} {sg : Scope} {dV kV doc pm cdv ct oc : Value} {an od : Option Addr} {osl : Array (Option Value)} {Ng : List Str}
    {params : Arguments} {body : Expr} {scope : Scope} {t : XK → TE} {p lpos pos : Pos} (hg : Gl X x) (hm : X.mg x = some (.ref g)) (hk : PySem.W.keepIn X.K (.ref g) = true)
    (lk : X.K.lookup g = some ⟨oc, od, .func (PySem.W.fnOf x x pg bg sg dV kV doc pm an cdv ct), osl⟩) (hcg : PySem.W.codeIn X.K cdv x = true) (hb : Binds X.K (PySem.W.fnOf x x pg bg sg dV kV doc pm an cdv ct) [a] []) (Sg : FnScope Ng [a] sg) (hNg : Ng[0]? = some a) (hva : Vis sg a)
    (hG : GivesN X Ng x sg g cdv bg a (X.env.qual ++ "<lambda>") TT) (TB : LamX.TabB X.base X.mg c P) (hcode : X.env.code = .ref c) (hmT : (P, X.env.qual ++ "<lambda>") ∈ T) (hu : ∀ p ∈ T, p.1 = P → p.2 = X.env.qual ++ "<lambda>") (hr : Room (k + 2) X.A) (k40 : 40 ≤ k + 1) (L : LamX.LamS X.env.scope scope) (hdef : defaultsOf params X.env = ([], []))
    (hbind : ∀ (q : Str) (cl : List (Str × Addr)) (pm cv ctv : Value), bindArgs (PySem.W.kla_fn "<lambda>" q params body scope cl pm cv ctv) ⟨[], []⟩ = pure [])
    (hbody : ∀ (A : Around) (outer : List Env) (s : Shared) (H : Hp) (E : XK) (f c2 : Addr), Room k (A.deeper (LamX.lamEnv X scope s.heap.objs.size f c2)) → PE (lamCxN X A outer s H E scope f c2) body (t E))
    (hdb : (x == ("__debug__" : Str)) = false := by decide) (hd : (a == ("__debug__" : Str)) = false := by decide) (hcd : (a == ("__classdict__" : Str)) = false := by decide) :
    PE X (.Call (.Name x p) [.Lambda params body scope lpos] [] pos) (LamX.tLam T TT t) := by
  refine ⟨fun pins s σ H Q I ⟨hT, y⟩ => ?_⟩
  refine wpAny_Call_Name_kw (ld_glob I hg hm (PySem.W.callWith_K (h₀ := X.base) I.ok.mod.kin hk ?_ (by rfl) (by rfl)) hdb)
  show wpAny _ _ (spliced ((false, eval (.Lambda params body scope lpos) X.env) :: backTo pos (starEach [] X.env))) _ _ s
  refine Calls.spliced_cons (LamX.lam_make2 I TB hcode hmT hu hT hdef (L.has I.ok) fun f c2 pm2 ctv H1 s1 I1 eN T1 hf hfn hfr hco => Calls.spliced_nil ⟨I1.kIn, ?_⟩)
  have run : codeAny (model X.prog X.w) X.A (.call (.ref g) ⟨[.ref f], []⟩) (CR CX0 X.stack X.prog X.w H1 s1 Q E0) s1 := by
    refine LamX.run_ofS (N := Ng) (ps := [a]) (us := [.ref f]) (vs := [.ref f]) lk hcg Sg hr I1.env0 (hb s1 [.ref f] I1.kIn rfl) (.cons rfl .nil) rfl fun hr2 => ?_
    obtain ⟨t2, ht2, hq2⟩ := hG _ f c2 s1 H1 Q (fun E H' Q' => t E σ H' Q') hr2 k40 (fun W pn xe E p1 p2 tk hW => pe_actN (i := 0) I1 L hf hfn hfr (hbind _ _ _ _ _) tk hW hr2 (fun A outer s H E hr3 => hbody A outer s H E f c2 hr3) hNg hva hd hcd) hco (y H1 eN T1)
    exact ⟨t2, ht2.nox, hq2⟩
  refine wpAny_call (codeAny_mono run fun rs s2 hq => ?_)
  cases rs with
  | error e => exact (show False from hq).elim
  | ok fl =>
    cases fl with
    | ret u => exact I1.after hq
    | next => exact False.elim hq
    | brk => exact False.elim hq
    | cont => exact False.elim hq
/-! ### try: return ('value', ask()) / except TermError as e: the error's word and field -/
/-- a class that TermError names -/
structure Wd (K : PySem.W.Frag) (CT D : Addr) (dd : Option Addr) : Prop where
  exc : ExcC K D
  nod : dd = none
  mat : PySem.W.exmOne K (.ref D) (.ref CT) = some true
def spName (K : PySem.W.Frag) (CT : Addr) (word : Addr → Option Str) : Addr → Value → Option Addr → Sp := fun xh cls dd vs H Q _ => ∃ (D : Addr) (nm : Str), cls = .ref D ∧ Wd K CT D dd ∧ word D = some nm ∧ vs = [.ref xh] ∧ ∀ H', Same H H' → Q (.str nm) H'
def spField (word : Addr → Option Str) (fld : Addr → Option Addr → Hp → V → Prop) : Addr → Value → Option Addr → Sp := fun xh cls dd vs H Q _ => ∃ (D : Addr) (nm : Str) (v : V), cls = .ref D ∧ word D = some nm ∧ fld D dd H v ∧ vs = [.ref xh, .str nm] ∧ ∀ H', Same H H' → Q v H'
def tSuite (K : PySem.W.Frag) (CT : Addr) (word : Addr → Option Str) (fld : Addr → Option Addr → Hp → V → Prop) (a : Addr) (cls : Value) (d : Option Addr) : TS :=
  tSeq (tAsg (tCallG (spName K CT word) a cls d 1 (tCons (tVar 1) tNil)) (gName 2)) (tRet (tTup (tCons (tVar 2) (tCons (tCallG (spField word fld) a cls d 2 (tCons (tVar 1) (tCons (tVar 2) tNil))) tNil))))
def TTry (K : PySem.W.Frag) (CT : Addr) (word : Addr → Option Str) (fld : Addr → Option Addr → Hp → V → Prop) : (XK → Hp → VK → Prop) → Hp → VK → Prop := fun tl H Q =>
  ∀ f : Addr, tl (fun cls d H2 => wAs K (.ref CT) 1 (tSuite K CT word fld) (fun _ _ _ _ => False) { nx := fun _ H' => Q .non H', rt := Q } cls d [some (.ref f), none, none] H2) H
    (fun v H' => 2 ≤ sizeLine ∧ ∀ p, H' p = none → Q (.ref p) (upd H' p (.tup [.str ("value" : Str), v])))
theorem wTry {K : PySem.W.Frag} {CT : Addr} {word : Addr → Option Str} {fld : Addr → Option Addr → Hp → V → Prop} {Q : VK} {n : L2.St → Hp → Prop} {cls : Value} {dd : Option Addr} {f D : Addr} {nm : Str} {v : V} {H' : Hp}
    (hst : ∀ D dd H H' v, Same H H' → fld D dd H v → fld D dd H' v) (e : cls = .ref D) (hw : Wd K CT D dd) (ew : word D = some nm) (hf : fld D dd H' v) (h : ∀ (p : Addr) (H2 : Hp), Same H' H2 → H2 p = none → Q (.ref p) (upd H2 p (.tup [.str nm, v]))) :
    wAs K (.ref CT) 1 (tSuite K CT word fld) (fun _ _ _ _ => False) { nx := n, rt := Q } cls dd [some (.ref f), none, none] H' := by
  subst e
  refine ⟨true, hw.mat, fun _ a _ => ?_, fun z => nomatch z⟩
  refine ⟨_, rfl, rfl, D, nm, rfl, hw, ew, rfl, fun H1 k1 => ?_⟩
  refine ⟨_, rfl, _, rfl, _, rfl, rfl, D, nm, v, rfl, ew, hst _ _ _ _ _ k1 hf, rfl, fun H2 k2 => ⟨by show 2 ≤ sizeLine; decide, fun p hp => h p H2 (k1.trans k2) hp⟩⟩
theorem try_gives {X : Cx} {x q : Str} {sg : Scope} {g CT fN fF : Addr} {cdg : Value} {fdN fdF : FuncData} {word : Addr → Option Str} {fld : Addr → Option Addr → Hp → V → Prop} {j1 n1 n2 : Nat} {q1 q2 q3 q4 q5 q6 q7 q8 q9 p1 p2 p3 p4 p5 p6 p7 p8 p9 q10 q11 : Pos}
    (s0 : sg.names.lookup ("_law_ask" : Str) = some .local) (s1 : sg.names.lookup ("_law_e" : Str) = some .local) (s2 : sg.names.lookup ("_law_word" : Str) = some .local) (g1 : sg.names.lookup ("TermError" : Str) = some .globalImplicit) (g2 : sg.names.lookup ("_law_error_name" : Str) = some .globalImplicit) (g3 : sg.names.lookup ("_law_error_field" : Str) = some .globalImplicit)
    (mT : X.mg ("TermError" : Str) = some (.ref CT)) (mN : X.mg ("_law_error_name" : Str) = some (.ref fN)) (mF : X.mg ("_law_error_field" : Str) = some (.ref fF)) (kN : PySem.W.keepIn X.K (.ref fN) = true) (kF : PySem.W.keepIn X.K (.ref fF) = true) (bN : Binds X.K fdN [("_law_e" : Str)] []) (bF : Binds X.K fdF [("_law_e" : Str), "_law_word"] [])
    (GN : FnB X.prog X.w X.K X.mg X.base 3 fN fdN [("_law_e" : Str)] (spName X.K CT word)) (GF : FnB X.prog X.w X.K X.mg X.base 3 fF fdF [("_law_e" : Str), "_law_word"] (spField word fld)) :
    GivesN X [("_law_ask" : Str), "_law_e", "_law_word"] x sg g cdg [.Try [.Return (some (.Tuple [.Constant (.str ("value" : Str)) j1 p1, .Call (.Name ("_law_ask" : Str) p2) [] [] p3] n1 p4)) p5] [.ExceptHandler (some (.Name ("TermError" : Str) p6)) (some ("_law_e" : Str)) [.Assign [.Name ("_law_word" : Str) q1] (.Call (.Name ("_law_error_name" : Str) q2) [.Name ("_law_e" : Str) q3] [] q4) q5, .Return (some (.Tuple [.Name ("_law_word" : Str) q6, .Call (.Name ("_law_error_field" : Str) q7) [.Name ("_law_e" : Str) q8, .Name ("_law_word" : Str) q9] [] p7] n2 p8)) p9] q10] [] [] q11] ("_law_ask" : Str) q (TTry X.K CT word fld) := by
  intro k f c s H Q tl hr k40 act hc y
  have hr3 := hr.mono (show 3 ≤ k by omega)
  have nd : ([("_law_ask" : Str), "_law_e", "_law_word"] : List Str).Nodup := by decide +kernel
  refine ⟨_, pss_one (L2N.ps_try_as (i := 1) (c := .ref CT) (tb := fun W => tRet (tTup (tCons (tC (.str ("value" : Str))) (tCons (fun σZ HZ Q => σZ[0]? = some (some (.ref f)) ∧ HZ c = some (LamX.CodeO c q) ∧ tl (fun cls d H2 => W cls d σZ H2) HZ Q) tNil))))
    (ts := tSuite X.K CT word fld) (Wout := fun _ _ _ _ => False) rfl rfl nd rfl s1 ⟨g1, by decide +kernel, .inl mT⟩ (fun _ _ ⟨_, _, _, _, _, _, _, _, _, _, _, _, _, _, _, _, z⟩ => z.elim)
    (fun W pn xe tk _ => pss_one (ps_ret (pe_tup (pa_cons pe_str (pa_cons (act W pn xe (fun σ2 cls d H2 => W cls d σ2 H2) _ _ tk (fun _ _ _ _ h => h)) pa_nil)))))
    (fun a oe cls d pn hz hf => pss_cons (ps_set (i := 2) nd rfl (.inl s2) (by exact pe_callG (X := Cx.suite (cxOf CX0 X.prog X.w X.K X.mg X.base [("_law_ask" : Str), "_law_e", "_law_word"] x sg g cdg X.A X.stack s H E0).nox a ((a, oe) :: pn)) GN ⟨hr3.dp, hr3.un⟩ (hotG_suite hz hf) hz.1 hz.2.1 g2 mN kN bN (pa_cons (pe_var (i := 1) rfl (.inl s1)) pa_nil)))
      (pss_one (ps_ret (pe_tup (pa_cons (pe_var (i := 2) rfl (.inl s2)) (pa_cons (by exact pe_callG (X := Cx.suite (cxOf CX0 X.prog X.w X.K X.mg X.base [("_law_ask" : Str), "_law_e", "_law_word"] x sg g cdg X.A X.stack s H E0).nox a ((a, oe) :: pn)) GF ⟨hr3.dp, hr3.un⟩ (hotG_suite hz hf) hz.1 hz.2.1 g3 mF kF bF (pa_cons (pe_var (i := 1) rfl (.inl s1)) (pa_cons (pe_var (i := 2) rfl (.inl s2)) pa_nil))) pa_nil))))))), ?_⟩
  exact ⟨rfl, hc, y f⟩
section OPN
open PySem PySem.Spec PyProof.Rows
/-! ### len(o) by an own __len__ -/
def rLenO (C : Addr) (sp : Sp) (E : XK) : List V → Hp → VK → Prop := fun xs H Q => ∃ (a dx : Addr) (fs : List (Str × V)), xs = [V.ref a] ∧ H a = some (.ins C dx fs) ∧ sp [.ref a] H (fun z H' => ∃ i : Int, z = .int i ∧ 0 ≤ i ∧ i < 2 ^ 63 ∧ Q (.int i) H') E
theorem call_lenO {X : Cx} {CX : CXT} {C g : Addr} {n : Nat} {fd : FuncData} {ps : List Str} {sp : Sp} {E : XK} (hs : PySem.W.findIn X.K (.ref C) "__len__" = some (some (.ref g))) (hf : PySem.W.isFn X.K (.ref g) = true) (F : FnOk X.prog X.w X.K X.mg X.base CX n g fd ps sp) (hr : Room (n + 1) X.A) (hb : Binds X.K fd ps []) (hx : Passes CX X E) : CallR X (.builtin "len") (rLenO C sp E) := by
  intro pins s σ H xs us Q I r h
  obtain ⟨a, dx, fs, rfl, e, q⟩ := h
  obtain ⟨u, rfl, ru⟩ := r.one
  cases (show u = Value.ref a from ru)
  obtain ⟨mA, O, _, _, _, _⟩ := ins_get I.hok e
  obtain ⟨od, J, _⟩ := O.look
  have r2 : Vals [V.ref a] [Value.ref a] := .cons rfl .nil
  have hl : ([Value.ref a] ++ []).length = ps.length := by
    have z := F.len _ _ _ _ q
    rw [List.append_nil]
    exact z
  refine Calls.call_function_entry PySem.kind_len PySem.plain_len PySem.entry_len (PySem.args_len1 _) ?_
  unfold Builtin.«len»
  refine wpAny_bind (m := oneArg "len" _) (wpAny_pure ?_)
  refine wpAny_bind (m := callSpecial? (.ref a) (Str.ofString "__len__")) (PySem.W.special_fn I.kIn J hs (beq_iff_eq.mp hf) (wpAny_mono (Q := EP X pins σ fun z H' => ∃ i : Int, z = .int i ∧ 0 ≤ i ∧ i < 2 ^ 63 ∧ Q (.int i) H') (E := X.xe) (wpAny_call (codeAny_mono (F.run X.A.in1 X.stack s H ⟨[.ref a], []⟩ [.ref a] [.ref a] _ E hr.in1 I.env0.in1 (by have z := hb s [.ref a] I.kIn hl; rw [List.append_nil] at z; exact z) r2 q) fun r s' hq => ?_)) (fun v s' hv => ?_) fun _ _ y => y))
  · cases r with
    | error e => exact hx pins σ H s e s' I hq
    | ok fl =>
      cases fl with
      | ret u => exact I.after hq
      | next => exact False.elim hq
      | brk => exact False.elim hq
      | cont => exact False.elim hq
  · obtain ⟨z, H', I', rz, i, rfl, h0, h1, qz⟩ := hv
    obtain ⟨t, rfl⟩ := (show ∃ t, v = Value.int i t from rz)
    refine wpAny_bind (wpAny_holding (wpAny_pure ?_))
    refine wpAny_bind (wpAny_letGo ?_)
    show wpAny _ _ (if i < 0 then _ else _) _ _ _
    rw [if_neg (by omega)]
    show wpAny _ _ (if i ≥ 2 ^ 63 then _ else _) _ _ _
    rw [if_neg (by omega)]
    exact wpAny_bind (wpAny_mkInt (wpAny_pure ⟨_, rfl, V.int i, H', I'.tok _, ⟨_, rfl⟩, qz⟩))
end OPN
/-! ### the tables: rows up to their periods, and what follows of them -/
def ent (row : List Nat) (b : Nat) : Nat := row.getD ((b - 1) % row.length) 0
def chain (N e : Nat) (up : List (List Nat)) : Nat → List Nat → Bool
  | v, [] => Nat.beq v N
  | v, x :: r => Nat.blt v N && (Nat.blt e v && (Nat.beq x (ent (up.getD (v - e - 1) []) (e + 1)) && chain N e up x r))
def rowOk (N e : Nat) (up : List (List Nat)) : List Nat → Bool
  | [] => false
  | v :: r => Nat.beq v (e + 1) && (Nat.beq (N % (r.length + 1)) 0 && chain N e up v r)
def chk (N : Nat) : Nat → List (List Nat) → Bool
  | _, [] => false
  | e, [r] => Nat.beq e N && (r == List.range' 1 N)
  | e, r :: s :: up => rowOk N e (s :: up) r && chk N (e + 1) (s :: up)
structure RowG (N : Nat) (R : Nat → List Nat) (e : Nat) (r : List Nat) : Prop where
  ne : 0 < r.length
  hd : r.getD 0 0 = e + 1
  lst : r.getD (r.length - 1) 0 = N
  dv : N % r.length = 0
  step : ∀ j, j + 1 < r.length → e < r.getD j 0 ∧ r.getD j 0 < N ∧ r.getD (j + 1) 0 = ent (R (r.getD j 0)) (e + 1)
theorem chain_of {N e : Nat} {up : List (List Nat)} : ∀ (r : List Nat) (v : Nat), chain N e up v r = true →
    (v :: r).getD r.length 0 = N ∧ ∀ j, j + 1 < (v :: r).length → e < (v :: r).getD j 0 ∧ (v :: r).getD j 0 < N ∧ (v :: r).getD (j + 1) 0 = ent (up.getD ((v :: r).getD j 0 - e - 1) []) (e + 1)
  | [], v, h => by
    refine ⟨Nat.eq_of_beq_eq_true h, fun j hj => ?_⟩
    simp at hj
  | x :: r, v, h => by
    have h : (Nat.blt v N && (Nat.blt e v && (Nat.beq x (ent (up.getD (v - e - 1) []) (e + 1)) && chain N e up x r))) = true := h
    rw [Bool.and_eq_true, Bool.and_eq_true, Bool.and_eq_true] at h
    obtain ⟨h1, h2, h3, h4⟩ := h
    obtain ⟨i1, i2⟩ := chain_of r x h4
    refine ⟨by simpa using i1, fun j hj => ?_⟩
    cases j with
    | zero => exact ⟨Nat.le_of_ble_eq_true h2, Nat.le_of_ble_eq_true h1, Nat.eq_of_beq_eq_true h3⟩
    | succ j =>
      have := i2 j (by simpa using hj)
      simpa using this
theorem chk_of {N : Nat} : ∀ (up : List (List Nat)) (e : Nat), chk N e up = true → e ≤ N ∧ up.length + e = N + 1 ∧ up.getD (N - e) [] = List.range' 1 N ∧ ∀ e', e ≤ e' → e' < N → RowG N (fun x => up.getD (x - e) []) e' (up.getD (e' - e) [])
  | [], e, h => by cases h
  | [r], e, h => by
    have h : (Nat.beq e N && (r == List.range' 1 N)) = true := h
    rw [Bool.and_eq_true] at h
    obtain rfl := Nat.eq_of_beq_eq_true h.1
    refine ⟨Nat.le_refl _, by simp; omega, ?_, fun e' h1 h2 => absurd h1 (by omega)⟩
    rw [Nat.sub_self]
    simpa using h.2
  | r :: s :: up, e, h => by
    have h : (rowOk N e (s :: up) r && chk N (e + 1) (s :: up)) = true := h
    rw [Bool.and_eq_true] at h
    obtain ⟨a1, a2, a3, a4⟩ := chk_of (s :: up) (e + 1) h.2
    have sh : ∀ x, e + 1 ≤ x → (r :: s :: up).getD (x - e) [] = (s :: up).getD (x - (e + 1)) [] := fun x hx => by
      obtain ⟨k, rfl⟩ : ∃ k, x = e + 1 + k := ⟨x - (e + 1), by omega⟩
      rw [show e + 1 + k - e = k + 1 by omega, show e + 1 + k - (e + 1) = k by omega]
      rfl
    refine ⟨by omega, by simp only [List.length_cons] at a2 ⊢; omega, by rw [sh N (by omega)]; exact a3, fun e' h1 h2 => ?_⟩
    rcases Nat.eq_or_lt_of_le h1 with rfl | h3
    · cases r with
      | nil => cases h.1
      | cons v r =>
        have z : (Nat.beq v (e + 1) && (Nat.beq (N % (r.length + 1)) 0 && chain N e (s :: up) v r)) = true := h.1
        rw [Bool.and_eq_true, Bool.and_eq_true] at z
        obtain ⟨z1, z2, z3⟩ := z
        obtain ⟨c1, c2⟩ := chain_of r v z3
        rw [show ((v :: r) :: s :: up).getD (e - e) [] = v :: r by rw [Nat.sub_self]; rfl]
        refine ⟨by simp, Nat.eq_of_beq_eq_true z1, c1, Nat.eq_of_beq_eq_true z2, fun j hj => ?_⟩
        obtain ⟨d1, d2, d3⟩ := c2 j hj
        refine ⟨d1, d2, d3.trans ?_⟩
        show _ = ent (((v :: r) :: s :: up).getD ((v :: r).getD j 0 - e) []) (e + 1)
        rw [sh _ d1, show (v :: r).getD j 0 - (e + 1) = (v :: r).getD j 0 - e - 1 by omega]
    · have g := a4 e' h3 h2
      rw [sh e' h3]
      refine ⟨g.ne, g.hd, g.lst, g.dv, fun j hj => ?_⟩
      obtain ⟨d1, d2, d3⟩ := g.step j hj
      refine ⟨d1, d2, d3.trans ?_⟩
      show ent ((s :: up).getD (_ - (e + 1)) []) _ = ent ((r :: s :: up).getD (_ - e) []) _
      rw [sh _ (by omega)]
/-- the rows of a table with N elements -/
structure Good (N : Nat) (T : List (List Nat)) : Prop where
  len : T.length = N
  pos : 0 < N
  top : T.getD (N - 1) [] = List.range' 1 N
  row : ∀ e, 1 ≤ e → e < N → RowG N (fun x => T.getD (x - 1) []) e (T.getD (e - 1) [])
theorem good_of {N : Nat} {T : List (List Nat)} (h : chk N 1 T = true) : Good N T := by
  obtain ⟨a1, a2, a3, a4⟩ := chk_of T 1 h
  exact ⟨by omega, a1, a3, a4⟩
def opT (T : List (List Nat)) (a b : Nat) : Nat := ent (T.getD (a - 1) []) b
section
variable {N : Nat} {T : List (List Nat)}
theorem lv_top (g : Good N T) {b : Nat} (h1 : 1 ≤ b) (h2 : b ≤ N) : opT T N b = b := by
  unfold opT ent
  rw [g.top, List.length_range', Nat.mod_eq_of_lt (by omega), List.getD_eq_getElem?_getD, List.getElem?_range' (by omega)]
  simp
  omega
theorem lv_one (g : Good N T) {a : Nat} (h1 : 1 ≤ a) (h2 : a < N) : opT T a 1 = a + 1 := by
  have r := g.row a h1 h2
  unfold opT ent
  rw [Nat.sub_self, Nat.zero_mod]
  exact r.hd
theorem lv_suc (g : Good N T) {a b : Nat} (h1 : 1 ≤ a) (h2 : a < N) (hb : 1 ≤ b) : opT T a (b + 1) = opT T (opT T a b) (a + 1) := by
  have r := g.row a h1 h2
  have hne : 0 < (T.getD (a - 1) []).length := r.ne
  have hlst : (T.getD (a - 1) []).getD ((T.getD (a - 1) []).length - 1) 0 = N := r.lst
  have hhd : (T.getD (a - 1) []).getD 0 0 = a + 1 := r.hd
  have hj := Nat.mod_lt (b - 1) hne
  have e1 : opT T a b = (T.getD (a - 1) []).getD ((b - 1) % (T.getD (a - 1) []).length) 0 := rfl
  have e2 : opT T a (b + 1) = (T.getD (a - 1) []).getD (b % (T.getD (a - 1) []).length) 0 := rfl
  have hm : b % (T.getD (a - 1) []).length = ((b - 1) % (T.getD (a - 1) []).length + 1) % (T.getD (a - 1) []).length := by
    rw [Nat.mod_add_mod, show b - 1 + 1 = b by omega]
  generalize hJ : (b - 1) % (T.getD (a - 1) []).length = j at *
  by_cases c : j + 1 < (T.getD (a - 1) []).length
  · have s := (r.step j c).2.2
    rw [e2, hm, Nat.mod_eq_of_lt c, e1]
    exact s
  · have hj' : j + 1 = (T.getD (a - 1) []).length := by omega
    rw [e2, hm, hj', Nat.mod_self, e1, show j = (T.getD (a - 1) []).length - 1 by omega, hlst, hhd, lv_top g (by omega) (by omega)]
theorem lv_gt (g : Good N T) {a b : Nat} (h1 : 1 ≤ a) (h2 : a < N) : a < opT T a b ∧ opT T a b ≤ N := by
  have r := g.row a h1 h2
  have hne : 0 < (T.getD (a - 1) []).length := r.ne
  have hlst : (T.getD (a - 1) []).getD ((T.getD (a - 1) []).length - 1) 0 = N := r.lst
  have hj := Nat.mod_lt (b - 1) hne
  have e1 : opT T a b = (T.getD (a - 1) []).getD ((b - 1) % (T.getD (a - 1) []).length) 0 := rfl
  rw [e1]
  generalize (b - 1) % (T.getD (a - 1) []).length = j at *
  by_cases c : j + 1 < (T.getD (a - 1) []).length
  · have s := r.step j c
    exact ⟨s.1, Nat.le_of_lt s.2.1⟩
  · rw [show j = (T.getD (a - 1) []).length - 1 by omega, hlst]
    omega
theorem lv_rng (g : Good N T) {a b : Nat} (h1 : 1 ≤ a) (h2 : a ≤ N) (h3 : 1 ≤ b) (h4 : b ≤ N) : 1 ≤ opT T a b ∧ opT T a b ≤ N := by
  rcases Nat.eq_or_lt_of_le h2 with rfl | h
  · rw [lv_top g h3 h4]
    exact ⟨h3, h4⟩
  · have := lv_gt (b := b) g h1 h
    omega
theorem lv_last (g : Good N T) {a : Nat} (h1 : 1 ≤ a) (h2 : a ≤ N) : opT T a N = N := by
  rcases Nat.eq_or_lt_of_le h2 with rfl | h
  · exact lv_top g h1 (Nat.le_refl _)
  · have r := g.row a h1 h
    have hne : 0 < (T.getD (a - 1) []).length := r.ne
    have hlst : (T.getD (a - 1) []).getD ((T.getD (a - 1) []).length - 1) 0 = N := r.lst
    have hdv : N % (T.getD (a - 1) []).length = 0 := r.dv
    show (T.getD (a - 1) []).getD ((N - 1) % (T.getD (a - 1) []).length) 0 = N
    generalize (T.getD (a - 1) []).length = p at *
    have e : (N - 1) % p = p - 1 := by
      have p0 := g.pos
      obtain ⟨k, hk⟩ := Nat.dvd_of_mod_eq_zero hdv
      have k0 : 0 < k := by
        rcases Nat.eq_zero_or_pos k with rfl | z
        · omega
        · exact z
      obtain ⟨m, rfl⟩ : ∃ m, k = m + 1 := ⟨k - 1, by omega⟩
      rw [hk, Nat.mul_succ, show p * m + p - 1 = (p - 1) + p * m by omega, Nat.add_mul_mod_self_left, Nat.mod_eq_of_lt (by omega)]
    rw [e, hlst]
theorem lv_ld (g : Good N T) : ∀ (k a : Nat), 1 ≤ a → a ≤ N → N - a ≤ k → ∀ (m b : Nat), 1 ≤ b → b ≤ N → N - b ≤ m → ∀ c, 1 ≤ c → c ≤ N → opT T a (opT T b c) = opT T (opT T a b) (opT T a c) := by
  intro k
  induction k with
  | zero =>
    intro a a1 a2 a3 m b b1 b2 _ c c1 c2
    obtain rfl : a = N := by omega
    have := lv_rng g b1 b2 c1 c2
    rw [lv_top g this.1 this.2, lv_top g b1 b2, lv_top g c1 c2]
  | succ k ihk =>
    intro a a1 a2 a3
    rcases Nat.eq_or_lt_of_le a2 with ha | ha
    · exact ihk a a1 a2 (by omega)
    intro m
    induction m with
    | zero =>
      intro b b1 b2 b3 c c1 c2
      obtain rfl : b = N := by omega
      have := lv_rng g a1 a2 c1 c2
      rw [lv_top g c1 c2, lv_last g a1 a2, lv_top g this.1 this.2]
    | succ m ihm =>
      intro b b1 b2 b3
      rcases Nat.eq_or_lt_of_le b2 with hb | hb
      · exact ihm b b1 b2 (by omega)
      intro c c1
      induction c with
      | zero => omega
      | succ c ihc =>
        intro c2
        rcases Nat.eq_zero_or_pos c with rfl | c0
        · rw [Nat.zero_add, lv_one g b1 hb, lv_one g a1 ha]
          exact lv_suc g a1 ha b1
        · have x := lv_gt (b := c) g b1 hb
          have y := lv_gt (b := b) g a1 ha
          have z := lv_rng g a1 a2 c0 (Nat.le_of_lt c2)
          rw [lv_suc g b1 hb c0, ihm (opT T b c) (by omega) x.2 (by omega) (b + 1) (by omega) (by omega), ihc c0 (by omega), lv_suc g a1 ha b1,
            ← ihk (opT T a b) (by omega) y.2 (by omega) N (opT T a c) z.1 z.2 (by omega) (a + 1) (by omega) (by omega), ← lv_suc g a1 ha c0]
theorem lv_dist (g : Good N T) {a b c : Nat} (a1 : 1 ≤ a) (a2 : a ≤ N) (b1 : 1 ≤ b) (b2 : b ≤ N) (c1 : 1 ≤ c) (c2 : c ≤ N) : opT T a (opT T b c) = opT T (opT T a b) (opT T a c) :=
  lv_ld g N a a1 a2 (by omega) N b b1 b2 (by omega) c c1 c2
end
def tb0 : List (List Nat) := [[1]]
def tb1 : List (List Nat) := [[2], List.range' 1 2]
def tb2 : List (List Nat) := [[2, 4], [3, 4], [4], List.range' 1 4]
def tb3 : List (List Nat) := [[2, 4, 6, 8], [3, 4, 7, 8], [4, 8], [5, 6, 7, 8], [6, 8], [7, 8], [8], List.range' 1 8]
def tb4 : List (List Nat) := [[2, 12, 14, 16], [3, 12, 15, 16], [4, 8, 12, 16], [5, 6, 7, 8, 13, 14, 15, 16], [6, 8, 14, 16], [7, 8, 15, 16], [8, 16], [9, 10, 11, 12, 13, 14, 15, 16], [10, 12, 14, 16], [11, 12, 15, 16], [12, 16], [13, 14, 15, 16], [14, 16], [15, 16], [16], List.range' 1 16]
def tb5 : List (List Nat) := [[2, 12, 14, 16, 18, 28, 30, 32], [3, 12, 15, 16, 19, 28, 31, 32], [4, 8, 12, 16, 20, 24, 28, 32], [5, 6, 7, 8, 13, 14, 15, 16, 21, 22, 23, 24, 29, 30, 31, 32], [6, 24, 30, 32], [7, 24, 31, 32], [8, 16, 24, 32], [9, 10, 11, 12, 13, 14, 15, 16, 25, 26, 27, 28, 29, 30, 31, 32], [10, 28, 30, 32], [11, 28, 31, 32], [12, 16, 28, 32], [13, 14, 15, 16, 29, 30, 31, 32], [14, 16, 30, 32], [15, 16, 31, 32], [16, 32], [17, 18, 19, 20, 21, 22, 23, 24, 25, 26, 27, 28, 29, 30, 31, 32], [18, 28, 30, 32], [19, 28, 31, 32], [20, 24, 28, 32], [21, 22, 23, 24, 29, 30, 31, 32], [22, 24, 30, 32], [23, 24, 31, 32], [24, 32], [25, 26, 27, 28, 29, 30, 31, 32], [26, 28, 30, 32], [27, 28, 31, 32], [28, 32], [29, 30, 31, 32], [30, 32], [31, 32], [32], List.range' 1 32]
def tb6 : List (List Nat) := [[2, 12, 14, 48, 50, 60, 62, 64], [3, 12, 15, 48, 51, 60, 63, 64], [4, 8, 12, 16, 20, 24, 28, 32, 36, 40, 44, 48, 52, 56, 60, 64], [5, 6, 7, 8, 45, 46, 47, 48, 53, 54, 55, 56, 61, 62, 63, 64], [6, 56, 62, 64], [7, 56, 63, 64], [8, 48, 56, 64], [9, 10, 11, 12, 45, 46, 47, 48, 57, 58, 59, 60, 61, 62, 63, 64], [10, 60, 62, 64], [11, 60, 63, 64], [12, 48, 60, 64], [13, 14, 15, 16, 29, 30, 31, 32, 45, 46, 47, 48, 61, 62, 63, 64], [14, 48, 62, 64], [15, 48, 63, 64], [16, 32, 48, 64], [17, 18, 19, 20, 21, 22, 23, 24, 25, 26, 27, 28, 29, 30, 31, 32, 49, 50, 51, 52, 53, 54, 55, 56, 57, 58, 59, 60, 61, 62, 63, 64], [18, 28, 30, 32, 50, 60, 62, 64], [19, 28, 31, 32, 51, 60, 63, 64], [20, 24, 28, 32, 52, 56, 60, 64], [21, 22, 23, 24, 29, 30, 31, 32, 53, 54, 55, 56, 61, 62, 63, 64], [22, 56, 62, 64], [23, 56, 63, 64], [24, 32, 56, 64], [25, 26, 27, 28, 29, 30, 31, 32, 57, 58, 59, 60, 61, 62, 63, 64], [26, 60, 62, 64], [27, 60, 63, 64], [28, 32, 60, 64], [29, 30, 31, 32, 61, 62, 63, 64], [30, 32, 62, 64], [31, 32, 63, 64], [32, 64], [33, 34, 35, 36, 37, 38, 39, 40, 41, 42, 43, 44, 45, 46, 47, 48, 49, 50, 51, 52, 53, 54, 55, 56, 57, 58, 59, 60, 61, 62, 63, 64], [34, 44, 46, 48, 50, 60, 62, 64], [35, 44, 47, 48, 51, 60, 63, 64], [36, 40, 44, 48, 52, 56, 60, 64], [37, 38, 39, 40, 45, 46, 47, 48, 53, 54, 55, 56, 61, 62, 63, 64], [38, 56, 62, 64], [39, 56, 63, 64], [40, 48, 56, 64], [41, 42, 43, 44, 45, 46, 47, 48, 57, 58, 59, 60, 61, 62, 63, 64], [42, 60, 62, 64], [43, 60, 63, 64], [44, 48, 60, 64], [45, 46, 47, 48, 61, 62, 63, 64], [46, 48, 62, 64], [47, 48, 63, 64], [48, 64], [49, 50, 51, 52, 53, 54, 55, 56, 57, 58, 59, 60, 61, 62, 63, 64], [50, 60, 62, 64], [51, 60, 63, 64], [52, 56, 60, 64], [53, 54, 55, 56, 61, 62, 63, 64], [54, 56, 62, 64], [55, 56, 63, 64], [56, 64], [57, 58, 59, 60, 61, 62, 63, 64], [58, 60, 62, 64], [59, 60, 63, 64], [60, 64], [61, 62, 63, 64], [62, 64], [63, 64], [64], List.range' 1 64]
def tb7 : List (List Nat) := [[2, 12, 14, 112, 114, 124, 126, 128], [3, 12, 15, 48, 51, 60, 63, 64, 67, 76, 79, 112, 115, 124, 127, 128], [4, 8, 12, 80, 84, 88, 92, 96, 100, 104, 108, 112, 116, 120, 124, 128], [5, 6, 7, 8, 109, 110, 111, 112, 117, 118, 119, 120, 125, 126, 127, 128], [6, 120, 126, 128], [7, 120, 127, 128], [8, 112, 120, 128], [9, 10, 11, 12, 109, 110, 111, 112, 121, 122, 123, 124, 125, 126, 127, 128], [10, 124, 126, 128], [11, 124, 127, 128], [12, 112, 124, 128], [13, 14, 15, 80, 93, 94, 95, 96, 109, 110, 111, 112, 125, 126, 127, 128], [14, 112, 126, 128], [15, 112, 127, 128], [16, 32, 48, 64, 80, 96, 112, 128], [17, 18, 19, 20, 21, 22, 23, 24, 25, 26, 27, 28, 29, 30, 31, 32, 49, 50, 51, 52, 53, 54, 55, 56, 57, 58, 59, 60, 61, 62, 63, 64, 81, 82, 83, 84, 85, 86, 87, 88, 89, 90, 91, 92, 93, 94, 95, 96, 113, 114, 115, 116, 117, 118, 119, 120, 121, 122, 123, 124, 125, 126, 127, 128], [18, 28, 30, 96, 114, 124, 126, 128], [19, 28, 31, 96, 115, 124, 127, 128], [20, 24, 28, 32, 52, 56, 60, 64, 84, 88, 92, 96, 116, 120, 124, 128], [21, 22, 23, 24, 93, 94, 95, 96, 117, 118, 119, 120, 125, 126, 127, 128], [22, 120, 126, 128], [23, 120, 127, 128], [24, 96, 120, 128], [25, 26, 27, 28, 93, 94, 95, 96, 121, 122, 123, 124, 125, 126, 127, 128], [26, 124, 126, 128], [27, 124, 127, 128], [28, 96, 124, 128], [29, 30, 31, 32, 61, 62, 63, 64, 93, 94, 95, 96, 125, 126, 127, 128], [30, 96, 126, 128], [31, 96, 127, 128], [32, 64, 96, 128], [33, 34, 35, 36, 37, 38, 39, 40, 41, 42, 43, 44, 45, 46, 47, 48, 49, 50, 51, 52, 53, 54, 55, 56, 57, 58, 59, 60, 61, 62, 63, 64, 97, 98, 99, 100, 101, 102, 103, 104, 105, 106, 107, 108, 109, 110, 111, 112, 113, 114, 115, 116, 117, 118, 119, 120, 121, 122, 123, 124, 125, 126, 127, 128], [34, 44, 46, 112, 114, 124, 126, 128], [35, 44, 47, 112, 115, 124, 127, 128], [36, 40, 44, 48, 52, 56, 60, 64, 100, 104, 108, 112, 116, 120, 124, 128], [37, 38, 39, 40, 109, 110, 111, 112, 117, 118, 119, 120, 125, 126, 127, 128], [38, 120, 126, 128], [39, 120, 127, 128], [40, 112, 120, 128], [41, 42, 43, 44, 109, 110, 111, 112, 121, 122, 123, 124, 125, 126, 127, 128], [42, 124, 126, 128], [43, 124, 127, 128], [44, 112, 124, 128], [45, 46, 47, 48, 61, 62, 63, 64, 109, 110, 111, 112, 125, 126, 127, 128], [46, 112, 126, 128], [47, 112, 127, 128], [48, 64, 112, 128], [49, 50, 51, 52, 53, 54, 55, 56, 57, 58, 59, 60, 61, 62, 63, 64, 113, 114, 115, 116, 117, 118, 119, 120, 121, 122, 123, 124, 125, 126, 127, 128], [50, 60, 62, 64, 114, 124, 126, 128], [51, 60, 63, 64, 115, 124, 127, 128], [52, 56, 60, 64, 116, 120, 124, 128], [53, 54, 55, 56, 61, 62, 63, 64, 117, 118, 119, 120, 125, 126, 127, 128], [54, 120, 126, 128], [55, 120, 127, 128], [56, 64, 120, 128], [57, 58, 59, 60, 61, 62, 63, 64, 121, 122, 123, 124, 125, 126, 127, 128], [58, 124, 126, 128], [59, 124, 127, 128], [60, 64, 124, 128], [61, 62, 63, 64, 125, 126, 127, 128], [62, 64, 126, 128], [63, 64, 127, 128], [64, 128], [65, 66, 67, 68, 69, 70, 71, 72, 73, 74, 75, 76, 77, 78, 79, 80, 81, 82, 83, 84, 85, 86, 87, 88, 89, 90, 91, 92, 93, 94, 95, 96, 97, 98, 99, 100, 101, 102, 103, 104, 105, 106, 107, 108, 109, 110, 111, 112, 113, 114, 115, 116, 117, 118, 119, 120, 121, 122, 123, 124, 125, 126, 127, 128], [66, 76, 78, 112, 114, 124, 126, 128], [67, 76, 79, 112, 115, 124, 127, 128], [68, 72, 76, 80, 84, 88, 92, 96, 100, 104, 108, 112, 116, 120, 124, 128], [69, 70, 71, 72, 109, 110, 111, 112, 117, 118, 119, 120, 125, 126, 127, 128], [70, 120, 126, 128], [71, 120, 127, 128], [72, 112, 120, 128], [73, 74, 75, 76, 109, 110, 111, 112, 121, 122, 123, 124, 125, 126, 127, 128], [74, 124, 126, 128], [75, 124, 127, 128], [76, 112, 124, 128], [77, 78, 79, 80, 93, 94, 95, 96, 109, 110, 111, 112, 125, 126, 127, 128], [78, 112, 126, 128], [79, 112, 127, 128], [80, 96, 112, 128], [81, 82, 83, 84, 85, 86, 87, 88, 89, 90, 91, 92, 93, 94, 95, 96, 113, 114, 115, 116, 117, 118, 119, 120, 121, 122, 123, 124, 125, 126, 127, 128], [82, 92, 94, 96, 114, 124, 126, 128], [83, 92, 95, 96, 115, 124, 127, 128], [84, 88, 92, 96, 116, 120, 124, 128], [85, 86, 87, 88, 93, 94, 95, 96, 117, 118, 119, 120, 125, 126, 127, 128], [86, 120, 126, 128], [87, 120, 127, 128], [88, 96, 120, 128], [89, 90, 91, 92, 93, 94, 95, 96, 121, 122, 123, 124, 125, 126, 127, 128], [90, 124, 126, 128], [91, 124, 127, 128], [92, 96, 124, 128], [93, 94, 95, 96, 125, 126, 127, 128], [94, 96, 126, 128], [95, 96, 127, 128], [96, 128], [97, 98, 99, 100, 101, 102, 103, 104, 105, 106, 107, 108, 109, 110, 111, 112, 113, 114, 115, 116, 117, 118, 119, 120, 121, 122, 123, 124, 125, 126, 127, 128], [98, 108, 110, 112, 114, 124, 126, 128], [99, 108, 111, 112, 115, 124, 127, 128], [100, 104, 108, 112, 116, 120, 124, 128], [101, 102, 103, 104, 109, 110, 111, 112, 117, 118, 119, 120, 125, 126, 127, 128], [102, 120, 126, 128], [103, 120, 127, 128], [104, 112, 120, 128], [105, 106, 107, 108, 109, 110, 111, 112, 121, 122, 123, 124, 125, 126, 127, 128], [106, 124, 126, 128], [107, 124, 127, 128], [108, 112, 124, 128], [109, 110, 111, 112, 125, 126, 127, 128], [110, 112, 126, 128], [111, 112, 127, 128], [112, 128], [113, 114, 115, 116, 117, 118, 119, 120, 121, 122, 123, 124, 125, 126, 127, 128], [114, 124, 126, 128], [115, 124, 127, 128], [116, 120, 124, 128], [117, 118, 119, 120, 125, 126, 127, 128], [118, 120, 126, 128], [119, 120, 127, 128], [120, 128], [121, 122, 123, 124, 125, 126, 127, 128], [122, 124, 126, 128], [123, 124, 127, 128], [124, 128], [125, 126, 127, 128], [126, 128], [127, 128], [128], List.range' 1 128]
def tb8 : List (List Nat) := [[2, 12, 14, 240, 242, 252, 254, 256], [3, 12, 15, 48, 51, 60, 63, 192, 195, 204, 207, 240, 243, 252, 255, 256], [4, 8, 12, 208, 212, 216, 220, 224, 228, 232, 236, 240, 244, 248, 252, 256], [5, 6, 7, 8, 237, 238, 239, 240, 245, 246, 247, 248, 253, 254, 255, 256], [6, 248, 254, 256], [7, 248, 255, 256], [8, 240, 248, 256], [9, 10, 11, 12, 237, 238, 239, 240, 249, 250, 251, 252, 253, 254, 255, 256], [10, 252, 254, 256], [11, 252, 255, 256], [12, 240, 252, 256], [13, 14, 15, 208, 221, 222, 223, 224, 237, 238, 239, 240, 253, 254, 255, 256], [14, 240, 254, 256], [15, 240, 255, 256], [16, 32, 48, 64, 80, 96, 112, 128, 144, 160, 176, 192, 208, 224, 240, 256], [17, 18, 19, 20, 21, 22, 23, 24, 25, 26, 27, 28, 29, 30, 31, 32, 177, 178, 179, 180, 181, 182, 183, 184, 185, 186, 187, 188, 189, 190, 191, 192, 209, 210, 211, 212, 213, 214, 215, 216, 217, 218, 219, 220, 221, 222, 223, 224, 241, 242, 243, 244, 245, 246, 247, 248, 249, 250, 251, 252, 253, 254, 255, 256], [18, 28, 30, 224, 242, 252, 254, 256], [19, 28, 31, 224, 243, 252, 255, 256], [20, 24, 28, 32, 180, 184, 188, 192, 212, 216, 220, 224, 244, 248, 252, 256], [21, 22, 23, 24, 221, 222, 223, 224, 245, 246, 247, 248, 253, 254, 255, 256], [22, 248, 254, 256], [23, 248, 255, 256], [24, 224, 248, 256], [25, 26, 27, 28, 221, 222, 223, 224, 249, 250, 251, 252, 253, 254, 255, 256], [26, 252, 254, 256], [27, 252, 255, 256], [28, 224, 252, 256], [29, 30, 31, 32, 189, 190, 191, 192, 221, 222, 223, 224, 253, 254, 255, 256], [30, 224, 254, 256], [31, 224, 255, 256], [32, 192, 224, 256], [33, 34, 35, 36, 37, 38, 39, 40, 41, 42, 43, 44, 45, 46, 47, 48, 177, 178, 179, 180, 181, 182, 183, 184, 185, 186, 187, 188, 189, 190, 191, 192, 225, 226, 227, 228, 229, 230, 231, 232, 233, 234, 235, 236, 237, 238, 239, 240, 241, 242, 243, 244, 245, 246, 247, 248, 249, 250, 251, 252, 253, 254, 255, 256], [34, 44, 46, 240, 242, 252, 254, 256], [35, 44, 47, 240, 243, 252, 255, 256], [36, 40, 44, 48, 180, 184, 188, 192, 228, 232, 236, 240, 244, 248, 252, 256], [37, 38, 39, 40, 237, 238, 239, 240, 245, 246, 247, 248, 253, 254, 255, 256], [38, 248, 254, 256], [39, 248, 255, 256], [40, 240, 248, 256], [41, 42, 43, 44, 237, 238, 239, 240, 249, 250, 251, 252, 253, 254, 255, 256], [42, 252, 254, 256], [43, 252, 255, 256], [44, 240, 252, 256], [45, 46, 47, 48, 189, 190, 191, 192, 237, 238, 239, 240, 253, 254, 255, 256], [46, 240, 254, 256], [47, 240, 255, 256], [48, 192, 240, 256], [49, 50, 51, 52, 53, 54, 55, 56, 57, 58, 59, 60, 61, 62, 63, 64, 113, 114, 115, 116, 117, 118, 119, 120, 121, 122, 123, 124, 125, 126, 127, 128, 177, 178, 179, 180, 181, 182, 183, 184, 185, 186, 187, 188, 189, 190, 191, 192, 241, 242, 243, 244, 245, 246, 247, 248, 249, 250, 251, 252, 253, 254, 255, 256], [50, 60, 62, 192, 242, 252, 254, 256], [51, 60, 63, 192, 243, 252, 255, 256], [52, 56, 60, 64, 116, 120, 124, 128, 180, 184, 188, 192, 244, 248, 252, 256], [53, 54, 55, 56, 189, 190, 191, 192, 245, 246, 247, 248, 253, 254, 255, 256], [54, 248, 254, 256], [55, 248, 255, 256], [56, 192, 248, 256], [57, 58, 59, 60, 189, 190, 191, 192, 249, 250, 251, 252, 253, 254, 255, 256], [58, 252, 254, 256], [59, 252, 255, 256], [60, 192, 252, 256], [61, 62, 63, 64, 125, 126, 127, 128, 189, 190, 191, 192, 253, 254, 255, 256], [62, 192, 254, 256], [63, 192, 255, 256], [64, 128, 192, 256], [65, 66, 67, 68, 69, 70, 71, 72, 73, 74, 75, 76, 77, 78, 79, 80, 81, 82, 83, 84, 85, 86, 87, 88, 89, 90, 91, 92, 93, 94, 95, 96, 97, 98, 99, 100, 101, 102, 103, 104, 105, 106, 107, 108, 109, 110, 111, 112, 113, 114, 115, 116, 117, 118, 119, 120, 121, 122, 123, 124, 125, 126, 127, 128, 193, 194, 195, 196, 197, 198, 199, 200, 201, 202, 203, 204, 205, 206, 207, 208, 209, 210, 211, 212, 213, 214, 215, 216, 217, 218, 219, 220, 221, 222, 223, 224, 225, 226, 227, 228, 229, 230, 231, 232, 233, 234, 235, 236, 237, 238, 239, 240, 241, 242, 243, 244, 245, 246, 247, 248, 249, 250, 251, 252, 253, 254, 255, 256], [66, 76, 78, 240, 242, 252, 254, 256], [67, 76, 79, 112, 115, 124, 127, 128, 195, 204, 207, 240, 243, 252, 255, 256], [68, 72, 76, 208, 212, 216, 220, 224, 228, 232, 236, 240, 244, 248, 252, 256], [69, 70, 71, 72, 237, 238, 239, 240, 245, 246, 247, 248, 253, 254, 255, 256], [70, 248, 254, 256], [71, 248, 255, 256], [72, 240, 248, 256], [73, 74, 75, 76, 237, 238, 239, 240, 249, 250, 251, 252, 253, 254, 255, 256], [74, 252, 254, 256], [75, 252, 255, 256], [76, 240, 252, 256], [77, 78, 79, 208, 221, 222, 223, 224, 237, 238, 239, 240, 253, 254, 255, 256], [78, 240, 254, 256], [79, 240, 255, 256], [80, 96, 112, 128, 208, 224, 240, 256], [81, 82, 83, 84, 85, 86, 87, 88, 89, 90, 91, 92, 93, 94, 95, 96, 113, 114, 115, 116, 117, 118, 119, 120, 121, 122, 123, 124, 125, 126, 127, 128, 209, 210, 211, 212, 213, 214, 215, 216, 217, 218, 219, 220, 221, 222, 223, 224, 241, 242, 243, 244, 245, 246, 247, 248, 249, 250, 251, 252, 253, 254, 255, 256], [82, 92, 94, 224, 242, 252, 254, 256], [83, 92, 95, 224, 243, 252, 255, 256], [84, 88, 92, 96, 116, 120, 124, 128, 212, 216, 220, 224, 244, 248, 252, 256], [85, 86, 87, 88, 221, 222, 223, 224, 245, 246, 247, 248, 253, 254, 255, 256], [86, 248, 254, 256], [87, 248, 255, 256], [88, 224, 248, 256], [89, 90, 91, 92, 221, 222, 223, 224, 249, 250, 251, 252, 253, 254, 255, 256], [90, 252, 254, 256], [91, 252, 255, 256], [92, 224, 252, 256], [93, 94, 95, 96, 125, 126, 127, 128, 221, 222, 223, 224, 253, 254, 255, 256], [94, 224, 254, 256], [95, 224, 255, 256], [96, 128, 224, 256], [97, 98, 99, 100, 101, 102, 103, 104, 105, 106, 107, 108, 109, 110, 111, 112, 113, 114, 115, 116, 117, 118, 119, 120, 121, 122, 123, 124, 125, 126, 127, 128, 225, 226, 227, 228, 229, 230, 231, 232, 233, 234, 235, 236, 237, 238, 239, 240, 241, 242, 243, 244, 245, 246, 247, 248, 249, 250, 251, 252, 253, 254, 255, 256], [98, 108, 110, 240, 242, 252, 254, 256], [99, 108, 111, 240, 243, 252, 255, 256], [100, 104, 108, 112, 116, 120, 124, 128, 228, 232, 236, 240, 244, 248, 252, 256], [101, 102, 103, 104, 237, 238, 239, 240, 245, 246, 247, 248, 253, 254, 255, 256], [102, 248, 254, 256], [103, 248, 255, 256], [104, 240, 248, 256], [105, 106, 107, 108, 237, 238, 239, 240, 249, 250, 251, 252, 253, 254, 255, 256], [106, 252, 254, 256], [107, 252, 255, 256], [108, 240, 252, 256], [109, 110, 111, 112, 125, 126, 127, 128, 237, 238, 239, 240, 253, 254, 255, 256], [110, 240, 254, 256], [111, 240, 255, 256], [112, 128, 240, 256], [113, 114, 115, 116, 117, 118, 119, 120, 121, 122, 123, 124, 125, 126, 127, 128, 241, 242, 243, 244, 245, 246, 247, 248, 249, 250, 251, 252, 253, 254, 255, 256], [114, 124, 126, 128, 242, 252, 254, 256], [115, 124, 127, 128, 243, 252, 255, 256], [116, 120, 124, 128, 244, 248, 252, 256], [117, 118, 119, 120, 125, 126, 127, 128, 245, 246, 247, 248, 253, 254, 255, 256], [118, 248, 254, 256], [119, 248, 255, 256], [120, 128, 248, 256], [121, 122, 123, 124, 125, 126, 127, 128, 249, 250, 251, 252, 253, 254, 255, 256], [122, 252, 254, 256], [123, 252, 255, 256], [124, 128, 252, 256], [125, 126, 127, 128, 253, 254, 255, 256], [126, 128, 254, 256], [127, 128, 255, 256], [128, 256], [129, 130, 131, 132, 133, 134, 135, 136, 137, 138, 139, 140, 141, 142, 143, 144, 145, 146, 147, 148, 149, 150, 151, 152, 153, 154, 155, 156, 157, 158, 159, 160, 161, 162, 163, 164, 165, 166, 167, 168, 169, 170, 171, 172, 173, 174, 175, 176, 177, 178, 179, 180, 181, 182, 183, 184, 185, 186, 187, 188, 189, 190, 191, 192, 193, 194, 195, 196, 197, 198, 199, 200, 201, 202, 203, 204, 205, 206, 207, 208, 209, 210, 211, 212, 213, 214, 215, 216, 217, 218, 219, 220, 221, 222, 223, 224, 225, 226, 227, 228, 229, 230, 231, 232, 233, 234, 235, 236, 237, 238, 239, 240, 241, 242, 243, 244, 245, 246, 247, 248, 249, 250, 251, 252, 253, 254, 255, 256], [130, 140, 142, 240, 242, 252, 254, 256], [131, 140, 143, 176, 179, 188, 191, 192, 195, 204, 207, 240, 243, 252, 255, 256], [132, 136, 140, 208, 212, 216, 220, 224, 228, 232, 236, 240, 244, 248, 252, 256], [133, 134, 135, 136, 237, 238, 239, 240, 245, 246, 247, 248, 253, 254, 255, 256], [134, 248, 254, 256], [135, 248, 255, 256], [136, 240, 248, 256], [137, 138, 139, 140, 237, 238, 239, 240, 249, 250, 251, 252, 253, 254, 255, 256], [138, 252, 254, 256], [139, 252, 255, 256], [140, 240, 252, 256], [141, 142, 143, 208, 221, 222, 223, 224, 237, 238, 239, 240, 253, 254, 255, 256], [142, 240, 254, 256], [143, 240, 255, 256], [144, 160, 176, 192, 208, 224, 240, 256], [145, 146, 147, 148, 149, 150, 151, 152, 153, 154, 155, 156, 157, 158, 159, 160, 177, 178, 179, 180, 181, 182, 183, 184, 185, 186, 187, 188, 189, 190, 191, 192, 209, 210, 211, 212, 213, 214, 215, 216, 217, 218, 219, 220, 221, 222, 223, 224, 241, 242, 243, 244, 245, 246, 247, 248, 249, 250, 251, 252, 253, 254, 255, 256], [146, 156, 158, 224, 242, 252, 254, 256], [147, 156, 159, 224, 243, 252, 255, 256], [148, 152, 156, 160, 180, 184, 188, 192, 212, 216, 220, 224, 244, 248, 252, 256], [149, 150, 151, 152, 221, 222, 223, 224, 245, 246, 247, 248, 253, 254, 255, 256], [150, 248, 254, 256], [151, 248, 255, 256], [152, 224, 248, 256], [153, 154, 155, 156, 221, 222, 223, 224, 249, 250, 251, 252, 253, 254, 255, 256], [154, 252, 254, 256], [155, 252, 255, 256], [156, 224, 252, 256], [157, 158, 159, 160, 189, 190, 191, 192, 221, 222, 223, 224, 253, 254, 255, 256], [158, 224, 254, 256], [159, 224, 255, 256], [160, 192, 224, 256], [161, 162, 163, 164, 165, 166, 167, 168, 169, 170, 171, 172, 173, 174, 175, 176, 177, 178, 179, 180, 181, 182, 183, 184, 185, 186, 187, 188, 189, 190, 191, 192, 225, 226, 227, 228, 229, 230, 231, 232, 233, 234, 235, 236, 237, 238, 239, 240, 241, 242, 243, 244, 245, 246, 247, 248, 249, 250, 251, 252, 253, 254, 255, 256], [162, 172, 174, 240, 242, 252, 254, 256], [163, 172, 175, 240, 243, 252, 255, 256], [164, 168, 172, 176, 180, 184, 188, 192, 228, 232, 236, 240, 244, 248, 252, 256], [165, 166, 167, 168, 237, 238, 239, 240, 245, 246, 247, 248, 253, 254, 255, 256], [166, 248, 254, 256], [167, 248, 255, 256], [168, 240, 248, 256], [169, 170, 171, 172, 237, 238, 239, 240, 249, 250, 251, 252, 253, 254, 255, 256], [170, 252, 254, 256], [171, 252, 255, 256], [172, 240, 252, 256], [173, 174, 175, 176, 189, 190, 191, 192, 237, 238, 239, 240, 253, 254, 255, 256], [174, 240, 254, 256], [175, 240, 255, 256], [176, 192, 240, 256], [177, 178, 179, 180, 181, 182, 183, 184, 185, 186, 187, 188, 189, 190, 191, 192, 241, 242, 243, 244, 245, 246, 247, 248, 249, 250, 251, 252, 253, 254, 255, 256], [178, 188, 190, 192, 242, 252, 254, 256], [179, 188, 191, 192, 243, 252, 255, 256], [180, 184, 188, 192, 244, 248, 252, 256], [181, 182, 183, 184, 189, 190, 191, 192, 245, 246, 247, 248, 253, 254, 255, 256], [182, 248, 254, 256], [183, 248, 255, 256], [184, 192, 248, 256], [185, 186, 187, 188, 189, 190, 191, 192, 249, 250, 251, 252, 253, 254, 255, 256], [186, 252, 254, 256], [187, 252, 255, 256], [188, 192, 252, 256], [189, 190, 191, 192, 253, 254, 255, 256], [190, 192, 254, 256], [191, 192, 255, 256], [192, 256], [193, 194, 195, 196, 197, 198, 199, 200, 201, 202, 203, 204, 205, 206, 207, 208, 209, 210, 211, 212, 213, 214, 215, 216, 217, 218, 219, 220, 221, 222, 223, 224, 225, 226, 227, 228, 229, 230, 231, 232, 233, 234, 235, 236, 237, 238, 239, 240, 241, 242, 243, 244, 245, 246, 247, 248, 249, 250, 251, 252, 253, 254, 255, 256], [194, 204, 206, 240, 242, 252, 254, 256], [195, 204, 207, 240, 243, 252, 255, 256], [196, 200, 204, 208, 212, 216, 220, 224, 228, 232, 236, 240, 244, 248, 252, 256], [197, 198, 199, 200, 237, 238, 239, 240, 245, 246, 247, 248, 253, 254, 255, 256], [198, 248, 254, 256], [199, 248, 255, 256], [200, 240, 248, 256], [201, 202, 203, 204, 237, 238, 239, 240, 249, 250, 251, 252, 253, 254, 255, 256], [202, 252, 254, 256], [203, 252, 255, 256], [204, 240, 252, 256], [205, 206, 207, 208, 221, 222, 223, 224, 237, 238, 239, 240, 253, 254, 255, 256], [206, 240, 254, 256], [207, 240, 255, 256], [208, 224, 240, 256], [209, 210, 211, 212, 213, 214, 215, 216, 217, 218, 219, 220, 221, 222, 223, 224, 241, 242, 243, 244, 245, 246, 247, 248, 249, 250, 251, 252, 253, 254, 255, 256], [210, 220, 222, 224, 242, 252, 254, 256], [211, 220, 223, 224, 243, 252, 255, 256], [212, 216, 220, 224, 244, 248, 252, 256], [213, 214, 215, 216, 221, 222, 223, 224, 245, 246, 247, 248, 253, 254, 255, 256], [214, 248, 254, 256], [215, 248, 255, 256], [216, 224, 248, 256], [217, 218, 219, 220, 221, 222, 223, 224, 249, 250, 251, 252, 253, 254, 255, 256], [218, 252, 254, 256], [219, 252, 255, 256], [220, 224, 252, 256], [221, 222, 223, 224, 253, 254, 255, 256], [222, 224, 254, 256], [223, 224, 255, 256], [224, 256], [225, 226, 227, 228, 229, 230, 231, 232, 233, 234, 235, 236, 237, 238, 239, 240, 241, 242, 243, 244, 245, 246, 247, 248, 249, 250, 251, 252, 253, 254, 255, 256], [226, 236, 238, 240, 242, 252, 254, 256], [227, 236, 239, 240, 243, 252, 255, 256], [228, 232, 236, 240, 244, 248, 252, 256], [229, 230, 231, 232, 237, 238, 239, 240, 245, 246, 247, 248, 253, 254, 255, 256], [230, 248, 254, 256], [231, 248, 255, 256], [232, 240, 248, 256], [233, 234, 235, 236, 237, 238, 239, 240, 249, 250, 251, 252, 253, 254, 255, 256], [234, 252, 254, 256], [235, 252, 255, 256], [236, 240, 252, 256], [237, 238, 239, 240, 253, 254, 255, 256], [238, 240, 254, 256], [239, 240, 255, 256], [240, 256], [241, 242, 243, 244, 245, 246, 247, 248, 249, 250, 251, 252, 253, 254, 255, 256], [242, 252, 254, 256], [243, 252, 255, 256], [244, 248, 252, 256], [245, 246, 247, 248, 253, 254, 255, 256], [246, 248, 254, 256], [247, 248, 255, 256], [248, 256], [249, 250, 251, 252, 253, 254, 255, 256], [250, 252, 254, 256], [251, 252, 255, 256], [252, 256], [253, 254, 255, 256], [254, 256], [255, 256], [256], List.range' 1 256]
def tb9 : List (List Nat) := [[2, 12, 14, 240, 242, 252, 254, 256, 258, 268, 270, 496, 498, 508, 510, 512], [3, 12, 271, 304, 307, 316, 319, 448, 451, 460, 463, 496, 499, 508, 511, 512], [4, 8, 12, 464, 468, 472, 476, 480, 484, 488, 492, 496, 500, 504, 508, 512], [5, 6, 7, 8, 493, 494, 495, 496, 501, 502, 503, 504, 509, 510, 511, 512], [6, 504, 510, 512], [7, 504, 511, 512], [8, 496, 504, 512], [9, 10, 11, 12, 493, 494, 495, 496, 505, 506, 507, 508, 509, 510, 511, 512], [10, 508, 510, 512], [11, 508, 511, 512], [12, 496, 508, 512], [13, 14, 271, 464, 477, 478, 479, 480, 493, 494, 495, 496, 509, 510, 511, 512], [14, 496, 510, 512], [15, 240, 255, 256, 271, 496, 511, 512], [16, 32, 48, 64, 80, 96, 112, 128, 144, 160, 176, 192, 208, 224, 240, 256, 272, 288, 304, 320, 336, 352, 368, 384, 400, 416, 432, 448, 464, 480, 496, 512], [17, 18, 19, 20, 21, 22, 23, 24, 25, 26, 27, 28, 29, 30, 31, 32, 177, 178, 179, 180, 181, 182, 183, 184, 185, 186, 187, 188, 189, 190, 191, 192, 209, 210, 211, 212, 213, 214, 215, 216, 217, 218, 219, 220, 221, 222, 223, 224, 241, 242, 243, 244, 245, 246, 247, 248, 249, 250, 251, 252, 253, 254, 255, 256, 273, 274, 275, 276, 277, 278, 279, 280, 281, 282, 283, 284, 285, 286, 287, 288, 433, 434, 435, 436, 437, 438, 439, 440, 441, 442, 443, 444, 445, 446, 447, 448, 465, 466, 467, 468, 469, 470, 471, 472, 473, 474, 475, 476, 477, 478, 479, 480, 497, 498, 499, 500, 501, 502, 503, 504, 505, 506, 507, 508, 509, 510, 511, 512], [18, 28, 30, 480, 498, 508, 510, 512], [19, 28, 31, 224, 243, 252, 255, 256, 275, 284, 287, 480, 499, 508, 511, 512], [20, 24, 28, 288, 436, 440, 444, 448, 468, 472, 476, 480, 500, 504, 508, 512], [21, 22, 23, 24, 477, 478, 479, 480, 501, 502, 503, 504, 509, 510, 511, 512], [22, 504, 510, 512], [23, 504, 511, 512], [24, 480, 504, 512], [25, 26, 27, 28, 477, 478, 479, 480, 505, 506, 507, 508, 509, 510, 511, 512], [26, 508, 510, 512], [27, 508, 511, 512], [28, 480, 508, 512], [29, 30, 31, 288, 445, 446, 447, 448, 477, 478, 479, 480, 509, 510, 511, 512], [30, 480, 510, 512], [31, 480, 511, 512], [32, 192, 224, 256, 288, 448, 480, 512], [33, 34, 35, 36, 37, 38, 39, 40, 41, 42, 43, 44, 45, 46, 47, 48, 177, 178, 179, 180, 181, 182, 183, 184, 185, 186, 187, 188, 189, 190, 191, 192, 225, 226, 227, 228, 229, 230, 231, 232, 233, 234, 235, 236, 237, 238, 239, 240, 241, 242, 243, 244, 245, 246, 247, 248, 249, 250, 251, 252, 253, 254, 255, 256, 289, 290, 291, 292, 293, 294, 295, 296, 297, 298, 299, 300, 301, 302, 303, 304, 433, 434, 435, 436, 437, 438, 439, 440, 441, 442, 443, 444, 445, 446, 447, 448, 481, 482, 483, 484, 485, 486, 487, 488, 489, 490, 491, 492, 493, 494, 495, 496, 497, 498, 499, 500, 501, 502, 503, 504, 505, 506, 507, 508, 509, 510, 511, 512], [34, 44, 46, 496, 498, 508, 510, 512], [35, 44, 47, 240, 243, 252, 255, 256, 291, 300, 303, 496, 499, 508, 511, 512], [36, 40, 44, 304, 436, 440, 444, 448, 484, 488, 492, 496, 500, 504, 508, 512], [37, 38, 39, 40, 493, 494, 495, 496, 501, 502, 503, 504, 509, 510, 511, 512], [38, 504, 510, 512], [39, 504, 511, 512], [40, 496, 504, 512], [41, 42, 43, 44, 493, 494, 495, 496, 505, 506, 507, 508, 509, 510, 511, 512], [42, 508, 510, 512], [43, 508, 511, 512], [44, 496, 508, 512], [45, 46, 47, 304, 445, 446, 447, 448, 493, 494, 495, 496, 509, 510, 511, 512], [46, 496, 510, 512], [47, 496, 511, 512], [48, 192, 240, 256, 304, 448, 496, 512], [49, 50, 51, 52, 53, 54, 55, 56, 57, 58, 59, 60, 61, 62, 63, 64, 113, 114, 115, 116, 117, 118, 119, 120, 121, 122, 123, 124, 125, 126, 127, 128, 177, 178, 179, 180, 181, 182, 183, 184, 185, 186, 187, 188, 189, 190, 191, 192, 241, 242, 243, 244, 245, 246, 247, 248, 249, 250, 251, 252, 253, 254, 255, 256, 305, 306, 307, 308, 309, 310, 311, 312, 313, 314, 315, 316, 317, 318, 319, 320, 369, 370, 371, 372, 373, 374, 375, 376, 377, 378, 379, 380, 381, 382, 383, 384, 433, 434, 435, 436, 437, 438, 439, 440, 441, 442, 443, 444, 445, 446, 447, 448, 497, 498, 499, 500, 501, 502, 503, 504, 505, 506, 507, 508, 509, 510, 511, 512], [50, 60, 62, 448, 498, 508, 510, 512], [51, 60, 63, 192, 243, 252, 255, 256, 307, 316, 319, 448, 499, 508, 511, 512], [52, 56, 60, 320, 372, 376, 380, 384, 436, 440, 444, 448, 500, 504, 508, 512], [53, 54, 55, 56, 445, 446, 447, 448, 501, 502, 503, 504, 509, 510, 511, 512], [54, 504, 510, 512], [55, 504, 511, 512], [56, 448, 504, 512], [57, 58, 59, 60, 445, 446, 447, 448, 505, 506, 507, 508, 509, 510, 511, 512], [58, 508, 510, 512], [59, 508, 511, 512], [60, 448, 508, 512], [61, 62, 63, 320, 381, 382, 383, 384, 445, 446, 447, 448, 509, 510, 511, 512], [62, 448, 510, 512], [63, 448, 511, 512], [64, 128, 192, 256, 320, 384, 448, 512], [65, 66, 67, 68, 69, 70, 71, 72, 73, 74, 75, 76, 77, 78, 79, 80, 81, 82, 83, 84, 85, 86, 87, 88, 89, 90, 91, 92, 93, 94, 95, 96, 97, 98, 99, 100, 101, 102, 103, 104, 105, 106, 107, 108, 109, 110, 111, 112, 113, 114, 115, 116, 117, 118, 119, 120, 121, 122, 123, 124, 125, 126, 127, 128, 193, 194, 195, 196, 197, 198, 199, 200, 201, 202, 203, 204, 205, 206, 207, 208, 209, 210, 211, 212, 213, 214, 215, 216, 217, 218, 219, 220, 221, 222, 223, 224, 225, 226, 227, 228, 229, 230, 231, 232, 233, 234, 235, 236, 237, 238, 239, 240, 241, 242, 243, 244, 245, 246, 247, 248, 249, 250, 251, 252, 253, 254, 255, 256, 321, 322, 323, 324, 325, 326, 327, 328, 329, 330, 331, 332, 333, 334, 335, 336, 337, 338, 339, 340, 341, 342, 343, 344, 345, 346, 347, 348, 349, 350, 351, 352, 353, 354, 355, 356, 357, 358, 359, 360, 361, 362, 363, 364, 365, 366, 367, 368, 369, 370, 371, 372, 373, 374, 375, 376, 377, 378, 379, 380, 381, 382, 383, 384, 449, 450, 451, 452, 453, 454, 455, 456, 457, 458, 459, 460, 461, 462, 463, 464, 465, 466, 467, 468, 469, 470, 471, 472, 473, 474, 475, 476, 477, 478, 479, 480, 481, 482, 483, 484, 485, 486, 487, 488, 489, 490, 491, 492, 493, 494, 495, 496, 497, 498, 499, 500, 501, 502, 503, 504, 505, 506, 507, 508, 509, 510, 511, 512], [66, 76, 78, 496, 498, 508, 510, 512], [67, 76, 79, 112, 115, 124, 127, 384, 451, 460, 463, 496, 499, 508, 511, 512], [68, 72, 76, 464, 468, 472, 476, 480, 484, 488, 492, 496, 500, 504, 508, 512], [69, 70, 71, 72, 493, 494, 495, 496, 501, 502, 503, 504, 509, 510, 511, 512], [70, 504, 510, 512], [71, 504, 511, 512], [72, 496, 504, 512], [73, 74, 75, 76, 493, 494, 495, 496, 505, 506, 507, 508, 509, 510, 511, 512], [74, 508, 510, 512], [75, 508, 511, 512], [76, 496, 508, 512], [77, 78, 79, 464, 477, 478, 479, 480, 493, 494, 495, 496, 509, 510, 511, 512], [78, 496, 510, 512], [79, 496, 511, 512], [80, 96, 112, 128, 208, 224, 240, 256, 336, 352, 368, 384, 464, 480, 496, 512], [81, 82, 83, 84, 85, 86, 87, 88, 89, 90, 91, 92, 93, 94, 95, 96, 369, 370, 371, 372, 373, 374, 375, 376, 377, 378, 379, 380, 381, 382, 383, 384, 465, 466, 467, 468, 469, 470, 471, 472, 473, 474, 475, 476, 477, 478, 479, 480, 497, 498, 499, 500, 501, 502, 503, 504, 505, 506, 507, 508, 509, 510, 511, 512], [82, 92, 94, 480, 498, 508, 510, 512], [83, 92, 95, 480, 499, 508, 511, 512], [84, 88, 92, 96, 372, 376, 380, 384, 468, 472, 476, 480, 500, 504, 508, 512], [85, 86, 87, 88, 477, 478, 479, 480, 501, 502, 503, 504, 509, 510, 511, 512], [86, 504, 510, 512], [87, 504, 511, 512], [88, 480, 504, 512], [89, 90, 91, 92, 477, 478, 479, 480, 505, 506, 507, 508, 509, 510, 511, 512], [90, 508, 510, 512], [91, 508, 511, 512], [92, 480, 508, 512], [93, 94, 95, 96, 381, 382, 383, 384, 477, 478, 479, 480, 509, 510, 511, 512], [94, 480, 510, 512], [95, 480, 511, 512], [96, 384, 480, 512], [97, 98, 99, 100, 101, 102, 103, 104, 105, 106, 107, 108, 109, 110, 111, 112, 369, 370, 371, 372, 373, 374, 375, 376, 377, 378, 379, 380, 381, 382, 383, 384, 481, 482, 483, 484, 485, 486, 487, 488, 489, 490, 491, 492, 493, 494, 495, 496, 497, 498, 499, 500, 501, 502, 503, 504, 505, 506, 507, 508, 509, 510, 511, 512], [98, 108, 110, 496, 498, 508, 510, 512], [99, 108, 111, 496, 499, 508, 511, 512], [100, 104, 108, 112, 372, 376, 380, 384, 484, 488, 492, 496, 500, 504, 508, 512], [101, 102, 103, 104, 493, 494, 495, 496, 501, 502, 503, 504, 509, 510, 511, 512], [102, 504, 510, 512], [103, 504, 511, 512], [104, 496, 504, 512], [105, 106, 107, 108, 493, 494, 495, 496, 505, 506, 507, 508, 509, 510, 511, 512], [106, 508, 510, 512], [107, 508, 511, 512], [108, 496, 508, 512], [109, 110, 111, 112, 381, 382, 383, 384, 493, 494, 495, 496, 509, 510, 511, 512], [110, 496, 510, 512], [111, 496, 511, 512], [112, 384, 496, 512], [113, 114, 115, 116, 117, 118, 119, 120, 121, 122, 123, 124, 125, 126, 127, 128, 241, 242, 243, 244, 245, 246, 247, 248, 249, 250, 251, 252, 253, 254, 255, 256, 369, 370, 371, 372, 373, 374, 375, 376, 377, 378, 379, 380, 381, 382, 383, 384, 497, 498, 499, 500, 501, 502, 503, 504, 505, 506, 507, 508, 509, 510, 511, 512], [114, 124, 126, 384, 498, 508, 510, 512], [115, 124, 127, 384, 499, 508, 511, 512], [116, 120, 124, 128, 244, 248, 252, 256, 372, 376, 380, 384, 500, 504, 508, 512], [117, 118, 119, 120, 381, 382, 383, 384, 501, 502, 503, 504, 509, 510, 511, 512], [118, 504, 510, 512], [119, 504, 511, 512], [120, 384, 504, 512], [121, 122, 123, 124, 381, 382, 383, 384, 505, 506, 507, 508, 509, 510, 511, 512], [122, 508, 510, 512], [123, 508, 511, 512], [124, 384, 508, 512], [125, 126, 127, 128, 253, 254, 255, 256, 381, 382, 383, 384, 509, 510, 511, 512], [126, 384, 510, 512], [127, 384, 511, 512], [128, 256, 384, 512], [129, 130, 131, 132, 133, 134, 135, 136, 137, 138, 139, 140, 141, 142, 143, 144, 145, 146, 147, 148, 149, 150, 151, 152, 153, 154, 155, 156, 157, 158, 159, 160, 161, 162, 163, 164, 165, 166, 167, 168, 169, 170, 171, 172, 173, 174, 175, 176, 177, 178, 179, 180, 181, 182, 183, 184, 185, 186, 187, 188, 189, 190, 191, 192, 193, 194, 195, 196, 197, 198, 199, 200, 201, 202, 203, 204, 205, 206, 207, 208, 209, 210, 211, 212, 213, 214, 215, 216, 217, 218, 219, 220, 221, 222, 223, 224, 225, 226, 227, 228, 229, 230, 231, 232, 233, 234, 235, 236, 237, 238, 239, 240, 241, 242, 243, 244, 245, 246, 247, 248, 249, 250, 251, 252, 253, 254, 255, 256, 385, 386, 387, 388, 389, 390, 391, 392, 393, 394, 395, 396, 397, 398, 399, 400, 401, 402, 403, 404, 405, 406, 407, 408, 409, 410, 411, 412, 413, 414, 415, 416, 417, 418, 419, 420, 421, 422, 423, 424, 425, 426, 427, 428, 429, 430, 431, 432, 433, 434, 435, 436, 437, 438, 439, 440, 441, 442, 443, 444, 445, 446, 447, 448, 449, 450, 451, 452, 453, 454, 455, 456, 457, 458, 459, 460, 461, 462, 463, 464, 465, 466, 467, 468, 469, 470, 471, 472, 473, 474, 475, 476, 477, 478, 479, 480, 481, 482, 483, 484, 485, 486, 487, 488, 489, 490, 491, 492, 493, 494, 495, 496, 497, 498, 499, 500, 501, 502, 503, 504, 505, 506, 507, 508, 509, 510, 511, 512], [130, 140, 142, 496, 498, 508, 510, 512], [131, 140, 143, 176, 179, 188, 191, 448, 451, 460, 463, 496, 499, 508, 511, 512], [132, 136, 140, 464, 468, 472, 476, 480, 484, 488, 492, 496, 500, 504, 508, 512], [133, 134, 135, 136, 493, 494, 495, 496, 501, 502, 503, 504, 509, 510, 511, 512], [134, 504, 510, 512], [135, 504, 511, 512], [136, 496, 504, 512], [137, 138, 139, 140, 493, 494, 495, 496, 505, 506, 507, 508, 509, 510, 511, 512], [138, 508, 510, 512], [139, 508, 511, 512], [140, 496, 508, 512], [141, 142, 143, 464, 477, 478, 479, 480, 493, 494, 495, 496, 509, 510, 511, 512], [142, 496, 510, 512], [143, 496, 511, 512], [144, 160, 176, 192, 208, 224, 240, 256, 400, 416, 432, 448, 464, 480, 496, 512], [145, 146, 147, 148, 149, 150, 151, 152, 153, 154, 155, 156, 157, 158, 159, 160, 433, 434, 435, 436, 437, 438, 439, 440, 441, 442, 443, 444, 445, 446, 447, 448, 465, 466, 467, 468, 469, 470, 471, 472, 473, 474, 475, 476, 477, 478, 479, 480, 497, 498, 499, 500, 501, 502, 503, 504, 505, 506, 507, 508, 509, 510, 511, 512], [146, 156, 158, 480, 498, 508, 510, 512], [147, 156, 159, 480, 499, 508, 511, 512], [148, 152, 156, 160, 436, 440, 444, 448, 468, 472, 476, 480, 500, 504, 508, 512], [149, 150, 151, 152, 477, 478, 479, 480, 501, 502, 503, 504, 509, 510, 511, 512], [150, 504, 510, 512], [151, 504, 511, 512], [152, 480, 504, 512], [153, 154, 155, 156, 477, 478, 479, 480, 505, 506, 507, 508, 509, 510, 511, 512], [154, 508, 510, 512], [155, 508, 511, 512], [156, 480, 508, 512], [157, 158, 159, 160, 445, 446, 447, 448, 477, 478, 479, 480, 509, 510, 511, 512], [158, 480, 510, 512], [159, 480, 511, 512], [160, 448, 480, 512], [161, 162, 163, 164, 165, 166, 167, 168, 169, 170, 171, 172, 173, 174, 175, 176, 433, 434, 435, 436, 437, 438, 439, 440, 441, 442, 443, 444, 445, 446, 447, 448, 481, 482, 483, 484, 485, 486, 487, 488, 489, 490, 491, 492, 493, 494, 495, 496, 497, 498, 499, 500, 501, 502, 503, 504, 505, 506, 507, 508, 509, 510, 511, 512], [162, 172, 174, 496, 498, 508, 510, 512], [163, 172, 175, 496, 499, 508, 511, 512], [164, 168, 172, 176, 436, 440, 444, 448, 484, 488, 492, 496, 500, 504, 508, 512], [165, 166, 167, 168, 493, 494, 495, 496, 501, 502, 503, 504, 509, 510, 511, 512], [166, 504, 510, 512], [167, 504, 511, 512], [168, 496, 504, 512], [169, 170, 171, 172, 493, 494, 495, 496, 505, 506, 507, 508, 509, 510, 511, 512], [170, 508, 510, 512], [171, 508, 511, 512], [172, 496, 508, 512], [173, 174, 175, 176, 445, 446, 447, 448, 493, 494, 495, 496, 509, 510, 511, 512], [174, 496, 510, 512], [175, 496, 511, 512], [176, 448, 496, 512], [177, 178, 179, 180, 181, 182, 183, 184, 185, 186, 187, 188, 189, 190, 191, 192, 241, 242, 243, 244, 245, 246, 247, 248, 249, 250, 251, 252, 253, 254, 255, 256, 433, 434, 435, 436, 437, 438, 439, 440, 441, 442, 443, 444, 445, 446, 447, 448, 497, 498, 499, 500, 501, 502, 503, 504, 505, 506, 507, 508, 509, 510, 511, 512], [178, 188, 190, 448, 498, 508, 510, 512], [179, 188, 191, 448, 499, 508, 511, 512], [180, 184, 188, 192, 244, 248, 252, 256, 436, 440, 444, 448, 500, 504, 508, 512], [181, 182, 183, 184, 445, 446, 447, 448, 501, 502, 503, 504, 509, 510, 511, 512], [182, 504, 510, 512], [183, 504, 511, 512], [184, 448, 504, 512], [185, 186, 187, 188, 445, 446, 447, 448, 505, 506, 507, 508, 509, 510, 511, 512], [186, 508, 510, 512], [187, 508, 511, 512], [188, 448, 508, 512], [189, 190, 191, 192, 253, 254, 255, 256, 445, 446, 447, 448, 509, 510, 511, 512], [190, 448, 510, 512], [191, 448, 511, 512], [192, 256, 448, 512], [193, 194, 195, 196, 197, 198, 199, 200, 201, 202, 203, 204, 205, 206, 207, 208, 209, 210, 211, 212, 213, 214, 215, 216, 217, 218, 219, 220, 221, 222, 223, 224, 225, 226, 227, 228, 229, 230, 231, 232, 233, 234, 235, 236, 237, 238, 239, 240, 241, 242, 243, 244, 245, 246, 247, 248, 249, 250, 251, 252, 253, 254, 255, 256, 449, 450, 451, 452, 453, 454, 455, 456, 457, 458, 459, 460, 461, 462, 463, 464, 465, 466, 467, 468, 469, 470, 471, 472, 473, 474, 475, 476, 477, 478, 479, 480, 481, 482, 483, 484, 485, 486, 487, 488, 489, 490, 491, 492, 493, 494, 495, 496, 497, 498, 499, 500, 501, 502, 503, 504, 505, 506, 507, 508, 509, 510, 511, 512], [194, 204, 206, 496, 498, 508, 510, 512], [195, 204, 207, 240, 243, 252, 255, 256, 451, 460, 463, 496, 499, 508, 511, 512], [196, 200, 204, 464, 468, 472, 476, 480, 484, 488, 492, 496, 500, 504, 508, 512], [197, 198, 199, 200, 493, 494, 495, 496, 501, 502, 503, 504, 509, 510, 511, 512], [198, 504, 510, 512], [199, 504, 511, 512], [200, 496, 504, 512], [201, 202, 203, 204, 493, 494, 495, 496, 505, 506, 507, 508, 509, 510, 511, 512], [202, 508, 510, 512], [203, 508, 511, 512], [204, 496, 508, 512], [205, 206, 207, 464, 477, 478, 479, 480, 493, 494, 495, 496, 509, 510, 511, 512], [206, 496, 510, 512], [207, 496, 511, 512], [208, 224, 240, 256, 464, 480, 496, 512], [209, 210, 211, 212, 213, 214, 215, 216, 217, 218, 219, 220, 221, 222, 223, 224, 241, 242, 243, 244, 245, 246, 247, 248, 249, 250, 251, 252, 253, 254, 255, 256, 465, 466, 467, 468, 469, 470, 471, 472, 473, 474, 475, 476, 477, 478, 479, 480, 497, 498, 499, 500, 501, 502, 503, 504, 505, 506, 507, 508, 509, 510, 511, 512], [210, 220, 222, 480, 498, 508, 510, 512], [211, 220, 223, 480, 499, 508, 511, 512], [212, 216, 220, 224, 244, 248, 252, 256, 468, 472, 476, 480, 500, 504, 508, 512], [213, 214, 215, 216, 477, 478, 479, 480, 501, 502, 503, 504, 509, 510, 511, 512], [214, 504, 510, 512], [215, 504, 511, 512], [216, 480, 504, 512], [217, 218, 219, 220, 477, 478, 479, 480, 505, 506, 507, 508, 509, 510, 511, 512], [218, 508, 510, 512], [219, 508, 511, 512], [220, 480, 508, 512], [221, 222, 223, 224, 253, 254, 255, 256, 477, 478, 479, 480, 509, 510, 511, 512], [222, 480, 510, 512], [223, 480, 511, 512], [224, 256, 480, 512], [225, 226, 227, 228, 229, 230, 231, 232, 233, 234, 235, 236, 237, 238, 239, 240, 241, 242, 243, 244, 245, 246, 247, 248, 249, 250, 251, 252, 253, 254, 255, 256, 481, 482, 483, 484, 485, 486, 487, 488, 489, 490, 491, 492, 493, 494, 495, 496, 497, 498, 499, 500, 501, 502, 503, 504, 505, 506, 507, 508, 509, 510, 511, 512], [226, 236, 238, 496, 498, 508, 510, 512], [227, 236, 239, 496, 499, 508, 511, 512], [228, 232, 236, 240, 244, 248, 252, 256, 484, 488, 492, 496, 500, 504, 508, 512], [229, 230, 231, 232, 493, 494, 495, 496, 501, 502, 503, 504, 509, 510, 511, 512], [230, 504, 510, 512], [231, 504, 511, 512], [232, 496, 504, 512], [233, 234, 235, 236, 493, 494, 495, 496, 505, 506, 507, 508, 509, 510, 511, 512], [234, 508, 510, 512], [235, 508, 511, 512], [236, 496, 508, 512], [237, 238, 239, 240, 253, 254, 255, 256, 493, 494, 495, 496, 509, 510, 511, 512], [238, 496, 510, 512], [239, 496, 511, 512], [240, 256, 496, 512], [241, 242, 243, 244, 245, 246, 247, 248, 249, 250, 251, 252, 253, 254, 255, 256, 497, 498, 499, 500, 501, 502, 503, 504, 505, 506, 507, 508, 509, 510, 511, 512], [242, 252, 254, 256, 498, 508, 510, 512], [243, 252, 255, 256, 499, 508, 511, 512], [244, 248, 252, 256, 500, 504, 508, 512], [245, 246, 247, 248, 253, 254, 255, 256, 501, 502, 503, 504, 509, 510, 511, 512], [246, 504, 510, 512], [247, 504, 511, 512], [248, 256, 504, 512], [249, 250, 251, 252, 253, 254, 255, 256, 505, 506, 507, 508, 509, 510, 511, 512], [250, 508, 510, 512], [251, 508, 511, 512], [252, 256, 508, 512], [253, 254, 255, 256, 509, 510, 511, 512], [254, 256, 510, 512], [255, 256, 511, 512], [256, 512], [257, 258, 259, 260, 261, 262, 263, 264, 265, 266, 267, 268, 269, 270, 271, 272, 273, 274, 275, 276, 277, 278, 279, 280, 281, 282, 283, 284, 285, 286, 287, 288, 289, 290, 291, 292, 293, 294, 295, 296, 297, 298, 299, 300, 301, 302, 303, 304, 305, 306, 307, 308, 309, 310, 311, 312, 313, 314, 315, 316, 317, 318, 319, 320, 321, 322, 323, 324, 325, 326, 327, 328, 329, 330, 331, 332, 333, 334, 335, 336, 337, 338, 339, 340, 341, 342, 343, 344, 345, 346, 347, 348, 349, 350, 351, 352, 353, 354, 355, 356, 357, 358, 359, 360, 361, 362, 363, 364, 365, 366, 367, 368, 369, 370, 371, 372, 373, 374, 375, 376, 377, 378, 379, 380, 381, 382, 383, 384, 385, 386, 387, 388, 389, 390, 391, 392, 393, 394, 395, 396, 397, 398, 399, 400, 401, 402, 403, 404, 405, 406, 407, 408, 409, 410, 411, 412, 413, 414, 415, 416, 417, 418, 419, 420, 421, 422, 423, 424, 425, 426, 427, 428, 429, 430, 431, 432, 433, 434, 435, 436, 437, 438, 439, 440, 441, 442, 443, 444, 445, 446, 447, 448, 449, 450, 451, 452, 453, 454, 455, 456, 457, 458, 459, 460, 461, 462, 463, 464, 465, 466, 467, 468, 469, 470, 471, 472, 473, 474, 475, 476, 477, 478, 479, 480, 481, 482, 483, 484, 485, 486, 487, 488, 489, 490, 491, 492, 493, 494, 495, 496, 497, 498, 499, 500, 501, 502, 503, 504, 505, 506, 507, 508, 509, 510, 511, 512], [258, 268, 270, 496, 498, 508, 510, 512], [259, 268, 271, 304, 307, 316, 319, 448, 451, 460, 463, 496, 499, 508, 511, 512], [260, 264, 268, 464, 468, 472, 476, 480, 484, 488, 492, 496, 500, 504, 508, 512], [261, 262, 263, 264, 493, 494, 495, 496, 501, 502, 503, 504, 509, 510, 511, 512], [262, 504, 510, 512], [263, 504, 511, 512], [264, 496, 504, 512], [265, 266, 267, 268, 493, 494, 495, 496, 505, 506, 507, 508, 509, 510, 511, 512], [266, 508, 510, 512], [267, 508, 511, 512], [268, 496, 508, 512], [269, 270, 271, 464, 477, 478, 479, 480, 493, 494, 495, 496, 509, 510, 511, 512], [270, 496, 510, 512], [271, 496, 511, 512], [272, 288, 304, 320, 336, 352, 368, 384, 400, 416, 432, 448, 464, 480, 496, 512], [273, 274, 275, 276, 277, 278, 279, 280, 281, 282, 283, 284, 285, 286, 287, 288, 433, 434, 435, 436, 437, 438, 439, 440, 441, 442, 443, 444, 445, 446, 447, 448, 465, 466, 467, 468, 469, 470, 471, 472, 473, 474, 475, 476, 477, 478, 479, 480, 497, 498, 499, 500, 501, 502, 503, 504, 505, 506, 507, 508, 509, 510, 511, 512], [274, 284, 286, 480, 498, 508, 510, 512], [275, 284, 287, 480, 499, 508, 511, 512], [276, 280, 284, 288, 436, 440, 444, 448, 468, 472, 476, 480, 500, 504, 508, 512], [277, 278, 279, 280, 477, 478, 479, 480, 501, 502, 503, 504, 509, 510, 511, 512], [278, 504, 510, 512], [279, 504, 511, 512], [280, 480, 504, 512], [281, 282, 283, 284, 477, 478, 479, 480, 505, 506, 507, 508, 509, 510, 511, 512], [282, 508, 510, 512], [283, 508, 511, 512], [284, 480, 508, 512], [285, 286, 287, 288, 445, 446, 447, 448, 477, 478, 479, 480, 509, 510, 511, 512], [286, 480, 510, 512], [287, 480, 511, 512], [288, 448, 480, 512], [289, 290, 291, 292, 293, 294, 295, 296, 297, 298, 299, 300, 301, 302, 303, 304, 433, 434, 435, 436, 437, 438, 439, 440, 441, 442, 443, 444, 445, 446, 447, 448, 481, 482, 483, 484, 485, 486, 487, 488, 489, 490, 491, 492, 493, 494, 495, 496, 497, 498, 499, 500, 501, 502, 503, 504, 505, 506, 507, 508, 509, 510, 511, 512], [290, 300, 302, 496, 498, 508, 510, 512], [291, 300, 303, 496, 499, 508, 511, 512], [292, 296, 300, 304, 436, 440, 444, 448, 484, 488, 492, 496, 500, 504, 508, 512], [293, 294, 295, 296, 493, 494, 495, 496, 501, 502, 503, 504, 509, 510, 511, 512], [294, 504, 510, 512], [295, 504, 511, 512], [296, 496, 504, 512], [297, 298, 299, 300, 493, 494, 495, 496, 505, 506, 507, 508, 509, 510, 511, 512], [298, 508, 510, 512], [299, 508, 511, 512], [300, 496, 508, 512], [301, 302, 303, 304, 445, 446, 447, 448, 493, 494, 495, 496, 509, 510, 511, 512], [302, 496, 510, 512], [303, 496, 511, 512], [304, 448, 496, 512], [305, 306, 307, 308, 309, 310, 311, 312, 313, 314, 315, 316, 317, 318, 319, 320, 369, 370, 371, 372, 373, 374, 375, 376, 377, 378, 379, 380, 381, 382, 383, 384, 433, 434, 435, 436, 437, 438, 439, 440, 441, 442, 443, 444, 445, 446, 447, 448, 497, 498, 499, 500, 501, 502, 503, 504, 505, 506, 507, 508, 509, 510, 511, 512], [306, 316, 318, 448, 498, 508, 510, 512], [307, 316, 319, 448, 499, 508, 511, 512], [308, 312, 316, 320, 372, 376, 380, 384, 436, 440, 444, 448, 500, 504, 508, 512], [309, 310, 311, 312, 445, 446, 447, 448, 501, 502, 503, 504, 509, 510, 511, 512], [310, 504, 510, 512], [311, 504, 511, 512], [312, 448, 504, 512], [313, 314, 315, 316, 445, 446, 447, 448, 505, 506, 507, 508, 509, 510, 511, 512], [314, 508, 510, 512], [315, 508, 511, 512], [316, 448, 508, 512], [317, 318, 319, 320, 381, 382, 383, 384, 445, 446, 447, 448, 509, 510, 511, 512], [318, 448, 510, 512], [319, 448, 511, 512], [320, 384, 448, 512], [321, 322, 323, 324, 325, 326, 327, 328, 329, 330, 331, 332, 333, 334, 335, 336, 337, 338, 339, 340, 341, 342, 343, 344, 345, 346, 347, 348, 349, 350, 351, 352, 353, 354, 355, 356, 357, 358, 359, 360, 361, 362, 363, 364, 365, 366, 367, 368, 369, 370, 371, 372, 373, 374, 375, 376, 377, 378, 379, 380, 381, 382, 383, 384, 449, 450, 451, 452, 453, 454, 455, 456, 457, 458, 459, 460, 461, 462, 463, 464, 465, 466, 467, 468, 469, 470, 471, 472, 473, 474, 475, 476, 477, 478, 479, 480, 481, 482, 483, 484, 485, 486, 487, 488, 489, 490, 491, 492, 493, 494, 495, 496, 497, 498, 499, 500, 501, 502, 503, 504, 505, 506, 507, 508, 509, 510, 511, 512], [322, 332, 334, 496, 498, 508, 510, 512], [323, 332, 335, 368, 371, 380, 383, 384, 451, 460, 463, 496, 499, 508, 511, 512], [324, 328, 332, 464, 468, 472, 476, 480, 484, 488, 492, 496, 500, 504, 508, 512], [325, 326, 327, 328, 493, 494, 495, 496, 501, 502, 503, 504, 509, 510, 511, 512], [326, 504, 510, 512], [327, 504, 511, 512], [328, 496, 504, 512], [329, 330, 331, 332, 493, 494, 495, 496, 505, 506, 507, 508, 509, 510, 511, 512], [330, 508, 510, 512], [331, 508, 511, 512], [332, 496, 508, 512], [333, 334, 335, 464, 477, 478, 479, 480, 493, 494, 495, 496, 509, 510, 511, 512], [334, 496, 510, 512], [335, 496, 511, 512], [336, 352, 368, 384, 464, 480, 496, 512], [337, 338, 339, 340, 341, 342, 343, 344, 345, 346, 347, 348, 349, 350, 351, 352, 369, 370, 371, 372, 373, 374, 375, 376, 377, 378, 379, 380, 381, 382, 383, 384, 465, 466, 467, 468, 469, 470, 471, 472, 473, 474, 475, 476, 477, 478, 479, 480, 497, 498, 499, 500, 501, 502, 503, 504, 505, 506, 507, 508, 509, 510, 511, 512], [338, 348, 350, 480, 498, 508, 510, 512], [339, 348, 351, 480, 499, 508, 511, 512], [340, 344, 348, 352, 372, 376, 380, 384, 468, 472, 476, 480, 500, 504, 508, 512], [341, 342, 343, 344, 477, 478, 479, 480, 501, 502, 503, 504, 509, 510, 511, 512], [342, 504, 510, 512], [343, 504, 511, 512], [344, 480, 504, 512], [345, 346, 347, 348, 477, 478, 479, 480, 505, 506, 507, 508, 509, 510, 511, 512], [346, 508, 510, 512], [347, 508, 511, 512], [348, 480, 508, 512], [349, 350, 351, 352, 381, 382, 383, 384, 477, 478, 479, 480, 509, 510, 511, 512], [350, 480, 510, 512], [351, 480, 511, 512], [352, 384, 480, 512], [353, 354, 355, 356, 357, 358, 359, 360, 361, 362, 363, 364, 365, 366, 367, 368, 369, 370, 371, 372, 373, 374, 375, 376, 377, 378, 379, 380, 381, 382, 383, 384, 481, 482, 483, 484, 485, 486, 487, 488, 489, 490, 491, 492, 493, 494, 495, 496, 497, 498, 499, 500, 501, 502, 503, 504, 505, 506, 507, 508, 509, 510, 511, 512], [354, 364, 366, 496, 498, 508, 510, 512], [355, 364, 367, 496, 499, 508, 511, 512], [356, 360, 364, 368, 372, 376, 380, 384, 484, 488, 492, 496, 500, 504, 508, 512], [357, 358, 359, 360, 493, 494, 495, 496, 501, 502, 503, 504, 509, 510, 511, 512], [358, 504, 510, 512], [359, 504, 511, 512], [360, 496, 504, 512], [361, 362, 363, 364, 493, 494, 495, 496, 505, 506, 507, 508, 509, 510, 511, 512], [362, 508, 510, 512], [363, 508, 511, 512], [364, 496, 508, 512], [365, 366, 367, 368, 381, 382, 383, 384, 493, 494, 495, 496, 509, 510, 511, 512], [366, 496, 510, 512], [367, 496, 511, 512], [368, 384, 496, 512], [369, 370, 371, 372, 373, 374, 375, 376, 377, 378, 379, 380, 381, 382, 383, 384, 497, 498, 499, 500, 501, 502, 503, 504, 505, 506, 507, 508, 509, 510, 511, 512], [370, 380, 382, 384, 498, 508, 510, 512], [371, 380, 383, 384, 499, 508, 511, 512], [372, 376, 380, 384, 500, 504, 508, 512], [373, 374, 375, 376, 381, 382, 383, 384, 501, 502, 503, 504, 509, 510, 511, 512], [374, 504, 510, 512], [375, 504, 511, 512], [376, 384, 504, 512], [377, 378, 379, 380, 381, 382, 383, 384, 505, 506, 507, 508, 509, 510, 511, 512], [378, 508, 510, 512], [379, 508, 511, 512], [380, 384, 508, 512], [381, 382, 383, 384, 509, 510, 511, 512], [382, 384, 510, 512], [383, 384, 511, 512], [384, 512], [385, 386, 387, 388, 389, 390, 391, 392, 393, 394, 395, 396, 397, 398, 399, 400, 401, 402, 403, 404, 405, 406, 407, 408, 409, 410, 411, 412, 413, 414, 415, 416, 417, 418, 419, 420, 421, 422, 423, 424, 425, 426, 427, 428, 429, 430, 431, 432, 433, 434, 435, 436, 437, 438, 439, 440, 441, 442, 443, 444, 445, 446, 447, 448, 449, 450, 451, 452, 453, 454, 455, 456, 457, 458, 459, 460, 461, 462, 463, 464, 465, 466, 467, 468, 469, 470, 471, 472, 473, 474, 475, 476, 477, 478, 479, 480, 481, 482, 483, 484, 485, 486, 487, 488, 489, 490, 491, 492, 493, 494, 495, 496, 497, 498, 499, 500, 501, 502, 503, 504, 505, 506, 507, 508, 509, 510, 511, 512], [386, 396, 398, 496, 498, 508, 510, 512], [387, 396, 399, 432, 435, 444, 447, 448, 451, 460, 463, 496, 499, 508, 511, 512], [388, 392, 396, 464, 468, 472, 476, 480, 484, 488, 492, 496, 500, 504, 508, 512], [389, 390, 391, 392, 493, 494, 495, 496, 501, 502, 503, 504, 509, 510, 511, 512], [390, 504, 510, 512], [391, 504, 511, 512], [392, 496, 504, 512], [393, 394, 395, 396, 493, 494, 495, 496, 505, 506, 507, 508, 509, 510, 511, 512], [394, 508, 510, 512], [395, 508, 511, 512], [396, 496, 508, 512], [397, 398, 399, 464, 477, 478, 479, 480, 493, 494, 495, 496, 509, 510, 511, 512], [398, 496, 510, 512], [399, 496, 511, 512], [400, 416, 432, 448, 464, 480, 496, 512], [401, 402, 403, 404, 405, 406, 407, 408, 409, 410, 411, 412, 413, 414, 415, 416, 433, 434, 435, 436, 437, 438, 439, 440, 441, 442, 443, 444, 445, 446, 447, 448, 465, 466, 467, 468, 469, 470, 471, 472, 473, 474, 475, 476, 477, 478, 479, 480, 497, 498, 499, 500, 501, 502, 503, 504, 505, 506, 507, 508, 509, 510, 511, 512], [402, 412, 414, 480, 498, 508, 510, 512], [403, 412, 415, 480, 499, 508, 511, 512], [404, 408, 412, 416, 436, 440, 444, 448, 468, 472, 476, 480, 500, 504, 508, 512], [405, 406, 407, 408, 477, 478, 479, 480, 501, 502, 503, 504, 509, 510, 511, 512], [406, 504, 510, 512], [407, 504, 511, 512], [408, 480, 504, 512], [409, 410, 411, 412, 477, 478, 479, 480, 505, 506, 507, 508, 509, 510, 511, 512], [410, 508, 510, 512], [411, 508, 511, 512], [412, 480, 508, 512], [413, 414, 415, 416, 445, 446, 447, 448, 477, 478, 479, 480, 509, 510, 511, 512], [414, 480, 510, 512], [415, 480, 511, 512], [416, 448, 480, 512], [417, 418, 419, 420, 421, 422, 423, 424, 425, 426, 427, 428, 429, 430, 431, 432, 433, 434, 435, 436, 437, 438, 439, 440, 441, 442, 443, 444, 445, 446, 447, 448, 481, 482, 483, 484, 485, 486, 487, 488, 489, 490, 491, 492, 493, 494, 495, 496, 497, 498, 499, 500, 501, 502, 503, 504, 505, 506, 507, 508, 509, 510, 511, 512], [418, 428, 430, 496, 498, 508, 510, 512], [419, 428, 431, 496, 499, 508, 511, 512], [420, 424, 428, 432, 436, 440, 444, 448, 484, 488, 492, 496, 500, 504, 508, 512], [421, 422, 423, 424, 493, 494, 495, 496, 501, 502, 503, 504, 509, 510, 511, 512], [422, 504, 510, 512], [423, 504, 511, 512], [424, 496, 504, 512], [425, 426, 427, 428, 493, 494, 495, 496, 505, 506, 507, 508, 509, 510, 511, 512], [426, 508, 510, 512], [427, 508, 511, 512], [428, 496, 508, 512], [429, 430, 431, 432, 445, 446, 447, 448, 493, 494, 495, 496, 509, 510, 511, 512], [430, 496, 510, 512], [431, 496, 511, 512], [432, 448, 496, 512], [433, 434, 435, 436, 437, 438, 439, 440, 441, 442, 443, 444, 445, 446, 447, 448, 497, 498, 499, 500, 501, 502, 503, 504, 505, 506, 507, 508, 509, 510, 511, 512], [434, 444, 446, 448, 498, 508, 510, 512], [435, 444, 447, 448, 499, 508, 511, 512], [436, 440, 444, 448, 500, 504, 508, 512], [437, 438, 439, 440, 445, 446, 447, 448, 501, 502, 503, 504, 509, 510, 511, 512], [438, 504, 510, 512], [439, 504, 511, 512], [440, 448, 504, 512], [441, 442, 443, 444, 445, 446, 447, 448, 505, 506, 507, 508, 509, 510, 511, 512], [442, 508, 510, 512], [443, 508, 511, 512], [444, 448, 508, 512], [445, 446, 447, 448, 509, 510, 511, 512], [446, 448, 510, 512], [447, 448, 511, 512], [448, 512], [449, 450, 451, 452, 453, 454, 455, 456, 457, 458, 459, 460, 461, 462, 463, 464, 465, 466, 467, 468, 469, 470, 471, 472, 473, 474, 475, 476, 477, 478, 479, 480, 481, 482, 483, 484, 485, 486, 487, 488, 489, 490, 491, 492, 493, 494, 495, 496, 497, 498, 499, 500, 501, 502, 503, 504, 505, 506, 507, 508, 509, 510, 511, 512], [450, 460, 462, 496, 498, 508, 510, 512], [451, 460, 463, 496, 499, 508, 511, 512], [452, 456, 460, 464, 468, 472, 476, 480, 484, 488, 492, 496, 500, 504, 508, 512], [453, 454, 455, 456, 493, 494, 495, 496, 501, 502, 503, 504, 509, 510, 511, 512], [454, 504, 510, 512], [455, 504, 511, 512], [456, 496, 504, 512], [457, 458, 459, 460, 493, 494, 495, 496, 505, 506, 507, 508, 509, 510, 511, 512], [458, 508, 510, 512], [459, 508, 511, 512], [460, 496, 508, 512], [461, 462, 463, 464, 477, 478, 479, 480, 493, 494, 495, 496, 509, 510, 511, 512], [462, 496, 510, 512], [463, 496, 511, 512], [464, 480, 496, 512], [465, 466, 467, 468, 469, 470, 471, 472, 473, 474, 475, 476, 477, 478, 479, 480, 497, 498, 499, 500, 501, 502, 503, 504, 505, 506, 507, 508, 509, 510, 511, 512], [466, 476, 478, 480, 498, 508, 510, 512], [467, 476, 479, 480, 499, 508, 511, 512], [468, 472, 476, 480, 500, 504, 508, 512], [469, 470, 471, 472, 477, 478, 479, 480, 501, 502, 503, 504, 509, 510, 511, 512], [470, 504, 510, 512], [471, 504, 511, 512], [472, 480, 504, 512], [473, 474, 475, 476, 477, 478, 479, 480, 505, 506, 507, 508, 509, 510, 511, 512], [474, 508, 510, 512], [475, 508, 511, 512], [476, 480, 508, 512], [477, 478, 479, 480, 509, 510, 511, 512], [478, 480, 510, 512], [479, 480, 511, 512], [480, 512], [481, 482, 483, 484, 485, 486, 487, 488, 489, 490, 491, 492, 493, 494, 495, 496, 497, 498, 499, 500, 501, 502, 503, 504, 505, 506, 507, 508, 509, 510, 511, 512], [482, 492, 494, 496, 498, 508, 510, 512], [483, 492, 495, 496, 499, 508, 511, 512], [484, 488, 492, 496, 500, 504, 508, 512], [485, 486, 487, 488, 493, 494, 495, 496, 501, 502, 503, 504, 509, 510, 511, 512], [486, 504, 510, 512], [487, 504, 511, 512], [488, 496, 504, 512], [489, 490, 491, 492, 493, 494, 495, 496, 505, 506, 507, 508, 509, 510, 511, 512], [490, 508, 510, 512], [491, 508, 511, 512], [492, 496, 508, 512], [493, 494, 495, 496, 509, 510, 511, 512], [494, 496, 510, 512], [495, 496, 511, 512], [496, 512], [497, 498, 499, 500, 501, 502, 503, 504, 505, 506, 507, 508, 509, 510, 511, 512], [498, 508, 510, 512], [499, 508, 511, 512], [500, 504, 508, 512], [501, 502, 503, 504, 509, 510, 511, 512], [502, 504, 510, 512], [503, 504, 511, 512], [504, 512], [505, 506, 507, 508, 509, 510, 511, 512], [506, 508, 510, 512], [507, 508, 511, 512], [508, 512], [509, 510, 511, 512], [510, 512], [511, 512], [512], List.range' 1 512]
theorem tb0_ok : chk 1 1 tb0 = true := by decide +kernel
theorem tb1_ok : chk 2 1 tb1 = true := by decide +kernel
theorem tb2_ok : chk 4 1 tb2 = true := by decide +kernel
theorem tb3_ok : chk 8 1 tb3 = true := by decide +kernel
theorem tb4_ok : chk 16 1 tb4 = true := by decide +kernel
theorem tb5_ok : chk 32 1 tb5 = true := by decide +kernel
theorem tb6_ok : chk 64 1 tb6 = true := by decide +kernel
theorem tb7_ok : chk 128 1 tb7 = true := by decide +kernel
theorem tb8_ok : chk 256 1 tb8 = true := by decide +kernel
theorem tb9_ok : chk 512 1 tb9 = true := by decide +kernel
section OPLP
open PySem PySem.Spec PyProof.Rows
/-! ### a lambda of two parameters handed to a def that calls it -/
/-- the object at a is o -/
def PinO (a : Addr) (o : Obj) : HO := .ext fun h => h.get? a = some o
/-- all but what is told by a word stays -/
def ExtE (H H' : Hp) : Prop := ∀ b o, H b = some o → (∀ φ, o ≠ .ext φ) → H' b = some o
theorem ExtE.same {H H' : Hp} (s : Same H H') : ExtE H H' := fun b o e _ => s b o e
theorem ExtE.trans {H H1 H2 : Hp} (a : ExtE H H1) (b : ExtE H1 H2) : ExtE H H2 := fun c o e n => b c o (a c o e n) n
theorem ExtE.tp {H H' : Hp} (e : ExtE H H') : Tp H H' := fun b xs h => by
  rcases h with h | ⟨o, h⟩
  · exact .inl (e _ _ h fun φ z => by cases z)
  · exact .inr ⟨o, e _ _ h fun φ z => by cases z⟩
def dropH (as : List Addr) (H : Hp) : Hp := fun b => if b ∈ as then none else H b
def pinH (as : List Addr) (h : Heap) (H : Hp) : Hp := fun b => if b ∈ as then (h.get? b).map (PinO b) else H b
def mixH (as : List Addr) (Hi Ho : Hp) : Hp := fun b => if b ∈ as then Hi b else Ho b
theorem dropH_in {as : List Addr} {H : Hp} {b : Addr} (h : b ∈ as) : dropH as H b = none := if_pos h
theorem dropH_out {as : List Addr} {H : Hp} {b : Addr} (h : b ∉ as) : dropH as H b = H b := if_neg h
theorem dropH_none {as : List Addr} {H : Hp} {b : Addr} (h : H b = none) : dropH as H b = none := by
  unfold dropH
  split
  · rfl
  · exact h
theorem pinH_in {as : List Addr} {h : Heap} {H : Hp} {b : Addr} {o : Obj} (hb : b ∈ as) (e : h.get? b = some o) : pinH as h H b = some (PinO b o) := by
  unfold pinH
  rw [if_pos hb, e]
  rfl
theorem pinH_out {as : List Addr} {h : Heap} {H : Hp} {b : Addr} (hb : b ∉ as) : pinH as h H b = H b := if_neg hb
theorem hok_drop {P : Program} {w : World} {H : Hp} {h : Heap} {as : List Addr} (x : HOk P w H h) (hx : ∀ b ∈ as, ∀ u, H b = some u → ∃ φ, u = .ext φ) : HOk P w (dropH as H) h := fun a o e => by
  have nn : ∀ b u, H b = some u → (∀ φ, u ≠ .ext φ) → b ∉ as := fun b u q n z => by
    obtain ⟨φ, e⟩ := hx b z u q
    exact n φ e
  by_cases ha : a ∈ as
  · rw [dropH_in ha] at e
    cases e
  · rw [dropH_out ha] at e
    refine (x a o e).stay (fun b u _ q => q) (fun b q => ?_) (fun b xs q => ?_)
    · rw [dropH_out (nn b _ q fun φ z => by cases z)]
      exact q
    · rw [dropH_out (nn b _ q fun φ z => by cases z)]
      exact q
theorem hok_pin {P : Program} {w : World} {H : Hp} {h : Heap} {as : List Addr} (x : HOk P w H h) (hn : ∀ b ∈ as, H b = none) (ho : ∀ b ∈ as, ∃ o, h.get? b = some o) : HOk P w (pinH as h H) h := fun a o e => by
  have nn : ∀ b u, H b = some u → b ∉ as := fun b u q z => by
    rw [hn b z] at q
    cases q
  by_cases ha : a ∈ as
  · obtain ⟨oo, eo⟩ := ho a ha
    rw [pinH_in ha eo] at e
    cases e
    exact ⟨eo, ⟨oo, eo⟩, fun h1 h2 z st => st _ z⟩
  · rw [pinH_out ha] at e
    refine (x a o e).stay (fun b u _ q => q) (fun b q => ?_) (fun b xs q => ?_)
    · rw [pinH_out (nn b _ q)]
      exact q
    · rw [pinH_out (nn b _ q)]
      exact q
/-- a lambda's words -/
structure LF where
  qual : Str
  params : Arguments
  body : Expr
  scope : Scope
  cl : List (Str × Addr)
  c : Addr
def LamO (f : Addr) (L : LF) : HO := .ext fun h => ∃ pm ctv : Value, h.get? f = some (PySem.W.kla_obj "<lambda>" L.qual L.params L.body L.scope L.cl pm L.c ctv)
theorem lamO_ne {f : Addr} {L : LF} (ps : Array Value) : LamO f L ≠ .tbl ps := fun z => by
  unfold LamO at z
  cases z
abbrev LF.nf (L : LF) : NdefX.NF := ⟨"<lambda>", L.qual, L.params, [], L.scope, L.cl, L.c⟩
/-- at f stands a function that gives op a b for any a, b below N, and writes nothing -/
def LamP (P : Program) (w : World) (K : PySem.W.Frag) (mg : Str → Option Value) (base : Heap) (k : Nat) (f : Addr) (N : Nat) (op : Nat → Nat → Nat) (H : Hp) : Prop :=
  ∃ (pn : List (Addr × HO)) (J : Hp → Prop), (∀ H H', ExtE H H' → J H → J H') ∧ J H ∧ (∀ p ∈ pn, H p.1 = some p.2) ∧ (∀ (s : Shared) (H' : Hp), HOk P w H' s.heap → (∀ p ∈ pn, H' p.1 = some p.2) → PySem.W.FnAt f s.heap) ∧
  ∀ (A : Around) (outer : List Env) (s : Shared) (H' : Hp) (us : List Value) (Q : VK) (a b : Nat), Room k A → Env0 P w K mg base A outer s H' → (∀ p ∈ pn, H' p.1 = some p.2) → J H' → a < N → b < N → Vals [.int (a : Int), .int (b : Int)] us → (∀ H'', Same H' H'' → Q (.int (op a b : Nat)) H'') →
    codeAny (model P w) A (.call (.ref f) ⟨us, []⟩) (CR CX0 outer P w H' s Q E0) s
theorem LamP.same {P : Program} {w : World} {K : PySem.W.Frag} {mg : Str → Option Value} {base : Heap} {k : Nat} {f : Addr} {N : Nat} {op : Nat → Nat → Nat} {H H' : Hp} (h : LamP P w K mg base k f N op H) (s : Same H H') : LamP P w K mg base k f N op H' := by
  obtain ⟨pn, J, h1, h2, h3, h4, h5⟩ := h
  exact ⟨pn, J, h1, h1 _ _ (ExtE.same s) h2, fun p hp => s _ _ (h3 p hp), h4, h5⟩
/-- x(a, b), x a name that holds such a function -/
def tLamC (P : Program) (w : World) (K : PySem.W.Frag) (mg : Str → Option Value) (base : Heap) (k i : Nat) (t : L2.TA) : TE := fun σ H Q => ∃ (f : Addr) (N : Nat) (op : Nat → Nat → Nat), σ[i]? = some (some (.ref f)) ∧ LamP P w K mg base k f N op H ∧
  t σ H fun vs H1 => ∃ a b : Nat, vs = [.int (a : Int), .int (b : Int)] ∧ a < N ∧ b < N ∧ LamP P w K mg base k f N op H1 ∧ ∀ H2, Same H1 H2 → Q (.int (op a b : Nat)) H2
theorem pe_lamC {X : Cx} {k j i : Nat} {x : Str} {e : Expr} {es : List Expr} {t : L2.TA} {p pos : Pos} (hr : Room j X.A) (hk : k ≤ j) (hN : X.N[i]? = some x) (hv : Vis X.env.scope x) (ha : PA X (e :: es) t)
    (hd : (x == ("__debug__" : Str)) = false := by decide) (hcd : (x == ("__classdict__" : Str)) = false := by decide)
    (he : starEach (e :: es) X.env = (false, eval e X.env) :: starEach es X.env := by rfl) (hpl : (backTo pos (starEach es X.env)).any (·.1) = false := by rfl) :
    PE X (.Call (.Name x p) (e :: es) [] pos) (tLamC X.prog X.w X.K X.mg X.base k i t) := by
  refine ⟨fun pins s σ H Q I h => ?_⟩
  obtain ⟨f, N, op, hs, hf, ht⟩ := h
  refine wpAny_Call_Name_kw (thn ((pe_var (pos := p) hN hv hd hcd).run pins s σ H (fun v H1 => v = .ref f ∧ H1 = H) I ⟨.ref f, hs, rfl, rfl⟩) fun u s1 ⟨v, H1, I1, r1, q1⟩ => ?_)
  obtain ⟨ev, eH⟩ := q1
  subst ev
  rw [eH] at I1
  obtain rfl : u = Value.ref f := r1
  have at1 : PySem.W.FnAt f s1.heap := by
    obtain ⟨pn, J, _, _, h3, h4, _⟩ := hf
    exact h4 s1 H I1.hok h3
  refine PySem.W.callWith_F (first := []) at1 (thn (ha.run pos pins s1 σ H _ I1 ht) fun us s2 ⟨vs, H2, I2, r, a, b, ev, la, lb, hL, q⟩ => ?_) he hpl
  subst ev
  obtain ⟨pn, J, h1, h2, h3, h4, h5⟩ := hL
  refine ⟨h4 s2 H2 I2.hok h3, ?_⟩
  show wpAny _ _ (call (.ref f) us) _ _ _
  refine wpAny_call (codeAny_mono (h5 X.A X.stack s2 H2 us Q a b (hr.mono hk) I2.env0 h3 h2 la lb r q) fun r s' hq => ?_)
  cases r with
  | error e => exact (show False from hq).elim
  | ok fl =>
    cases fl with
    | ret u => exact I2.after hq
    | next => exact False.elim hq
    | brk => exact False.elim hq
    | cont => exact False.elim hq
/-! ### the lambda is made -/
def tLamV (T : List (Addr × Str)) (mk : Addr → LF) : TE := fun σ H Q => LamX.Tabs T H ∧ ∀ (f c' : Addr) (H1 : Hp), LamX.ExtN H H1 → LamX.Tabs T H1 → H f = none → H1 f = some (LamO f (mk c')) → H1 c' = some (LamX.CodeO c' (mk c').qual) → Q (.ref f) H1
theorem pe_lamV {X : Cx} {T : List (Addr × Str)} {c P : Addr} {params : Arguments} {body : Expr} {scope : Scope} {pos : Pos} (TB : LamX.TabB X.base X.mg c P) (hcode : X.env.code = .ref c) (hm : (P, X.env.qual ++ "<lambda>") ∈ T) (hu : ∀ p ∈ T, p.1 = P → p.2 = X.env.qual ++ "<lambda>") (hdef : defaultsOf params X.env = ([], []))
    (hfree : ∀ y ∈ scope.names, y.2 = .free → X.env.scope.names.lookup y.1 = some .cell ∨ X.env.scope.names.lookup y.1 = some .free) :
    PE X (.Lambda params body scope pos) (tLamV T fun c' => ⟨X.env.qual ++ "<lambda>", params, body, scope, cloFrom X.env.cells scope.names [], c'⟩) := by
  refine ⟨fun pins s σ H Q I ⟨hT, h⟩ => PySem.W.kla_eval hdef ?_⟩
  have hfr : ∀ y ∈ scope.names, y.2 = .free → ∃ c, X.env.cells.lookup y.1 = some c := fun y hy e => (hfree y hy e).elim (fun z => I.ok.has _ (.inl z)) fun z => I.ok.has _ (.inr z)
  obtain ⟨ps, tP, tOk, tAll⟩ := hT _ hm
  have atP : s.heap.get? P = some { cls := .none, data := .fields ps } := I.hok P _ tP
  have laidF : ∀ {H1 : Hp} {s1 : Shared} {pm ctv : Value} {c' : Addr} {tk : Nat}, Inv X pins σ H1 s1 → Inv X pins σ (upd H1 s1.heap.objs.size (LamO s1.heap.objs.size ⟨X.env.qual ++ "<lambda>", params, body, scope, cloFrom X.env.cells scope.names [], c'⟩)) { s1 with heap := s1.heap.push (PySem.W.kla_obj "<lambda>" (X.env.qual ++ "<lambda>") params body scope (cloFrom X.env.cells scope.names []) pm c' ctv), toks := tk } := fun {H1 s1 pm ctv c' tk} J =>
    J.laid (fun b u e => Heap.get?_push_of_some _ e) (Nat.le_refl _) ⟨⟨pm, ctv, Heap.get?_push_size _ rfl⟩, ⟨_, Heap.get?_push_size _ rfl⟩, fun h1 h2 ⟨pm, ctv, z⟩ st => ⟨pm, ctv, st _ z⟩⟩
  rcases hc : codeAmong pos ps.toList with _ | cv
  · refine PySem.W.kla_makeFunction (mg := X.mg) (c := c) (P := P) (ps := ps) (closure_ok hfr) I.ok.glob (I.mod.glob.keeps I.bk) hcode (TB.code.keeps I.bk) atP tOk hc TB.gP (TB.bm.keeps I.bk) fun c' ctv h' tk hx hge hlt hrec htb => ?_
    obtain ⟨c2, oc, vs, t, e2, hoc, hd, hv⟩ := hrec
    cases e2
    have nC : H c' = none := I.hok.fresh hge
    have nF : H h'.objs.size = none := I.hok.fresh (Nat.le_trans hge (Nat.le_of_lt hlt))
    have I1 := LamX.inv_table (q := X.env.qual ++ "<lambda>") (t' := tk) (more := #[rawInt pos.line, rawInt pos.col, .ref c']) (h' := h') I tP (fun b o hb e => hx b o hb e) htb hge ⟨oc, vs, t, hoc, hd, hv⟩
    have nF1 := I1.hok.fresh (Nat.le_refl _)
    have I2 := laidF (pm := (X.mg "__name__").getD .none) (ctv := ctv) (c' := c') (tk := tk) I1
    have ne1 : c' ≠ h'.objs.size := Nat.ne_of_lt hlt
    have neP : P ≠ c' := ne_of_none tP nC
    have nePF : P ≠ h'.objs.size := ne_of_none tP nF
    have hE : LamX.ExtN H (upd (upd (upd H P (.tbl (ps ++ #[rawInt pos.line, rawInt pos.col, .ref c']))) c' (LamX.CodeO c' (X.env.qual ++ "<lambda>"))) h'.objs.size (LamO h'.objs.size ⟨X.env.qual ++ "<lambda>", params, body, scope, cloFrom X.env.cells scope.names [], c'⟩)) := fun b o e n => by
      have nb : b ≠ P := fun z => n ps (Option.some.inj (e.symm.trans (by rw [z]; exact tP)))
      rw [upd_ne (ne_of_none e nF), upd_ne (ne_of_none e nC), upd_ne nb]
      exact e
    have eL : (ps ++ #[rawInt pos.line, rawInt pos.col, .ref c']).toList = ps.toList ++ [rawInt pos.line, rawInt pos.col, .ref c'] := by simp
    refine h h'.objs.size c' _ hE (fun p hp => ?_) nF upd_same (by rw [upd_ne ne1, upd_same]) |> fun q => ⟨.ref h'.objs.size, _, I2, rfl, q⟩
    by_cases hb : p.1 = P
    · refine ⟨_, by rw [hb, upd_ne nePF, upd_ne neP, upd_same], by rw [eL]; exact PySem.TriplesOk_snoc _ _ _ _ tOk, fun p' cv hcv => ?_⟩
      rw [eL] at hcv
      rw [hu p hp hb]
      rcases LamX.among_app _ tOk hcv with z | z
      · obtain ⟨c0, e1, e2⟩ := tAll p' cv z
        exact ⟨c0, e1, hE _ _ e2 LamX.codeO_ne⟩
      · exact ⟨c', z, by rw [upd_ne ne1, upd_same]⟩
    · obtain ⟨ps', a1, a2, a3⟩ := hT p hp
      refine ⟨ps', by rw [upd_ne (ne_of_none a1 nF), upd_ne (ne_of_none a1 nC), upd_ne hb]; exact a1, a2, fun p' cv hcv => ?_⟩
      obtain ⟨c0, e1, e2⟩ := a3 p' cv hcv
      exact ⟨c0, e1, hE _ _ e2 LamX.codeO_ne⟩
  · obtain ⟨c', e, hco⟩ := tAll pos cv hc
    subst e
    refine PySem.W.kla_makeFunctionHit (mg := X.mg) (c := c) (P := P) (ps := ps) (closure_ok hfr) I.ok.glob (I.mod.glob.keeps I.bk) hcode (TB.code.keeps I.bk) atP tOk hc (TB.bm.keeps I.bk) fun ctv h' tk hx hsz => ?_
    have I1 : Inv X pins σ H { s with heap := h', toks := tk } := I.kept hx
    have nF : H h'.objs.size = none := I1.hok.fresh (Nat.le_refl _)
    have I2 := laidF (pm := (X.mg "__name__").getD .none) (ctv := ctv) (c' := c') (tk := tk) I1
    have sm : Same H (upd H h'.objs.size (LamO h'.objs.size ⟨X.env.qual ++ "<lambda>", params, body, scope, cloFrom X.env.cells scope.names [], c'⟩)) := Same.new nF _
    exact ⟨.ref h'.objs.size, _, I2, rfl, h h'.objs.size c' _ (LamX.ExtN.of sm) (hT.ext sm) nF upd_same (sm _ _ hco)⟩
/-- the cells that were captured -/
def capA (cl : List (Str × Addr)) : List Addr := (cl.map (·.1)).filterMap fun y => cl.lookup y
theorem capA_of {cl : List (Str × Addr)} {y : Str} {c : Addr} (e : cl.lookup y = some c) : c ∈ capA cl := List.mem_filterMap.mpr ⟨y, List.mem_map.mpr ⟨(y, c), PySem.mem_of_lookup e, rfl⟩, e⟩
theorem capA_in {cl : List (Str × Addr)} {c : Addr} (h : c ∈ capA cl) : ∃ y, cl.lookup y = some c := by
  obtain ⟨y, _, e⟩ := List.mem_filterMap.mp h
  exact ⟨y, e⟩
/-! ### the def called with it: the cells that it captured stand pinned meanwhile -/
def tCallLam (P : Program) (w : World) (K : PySem.W.Frag) (mg : Str → Option Value) (base : Heap) (k : Nat) (mk : Addr → LF) (sp : Sp) (Nl : List Str) (js : List Nat) (t : L2.TA) (tb : TE) : TE := fun σ H Q => t σ H fun vs H1 => ∃ (f c' : Addr), H1 f = some (LamO f (mk c')) ∧ H1 c' = some (LamX.CodeO c' (mk c').qual) ∧
  ∃ (N : Nat) (op : Nat → Nat → Nat) (J : Hp → Prop), (∀ H H', ExtE H H' → J H → J H') ∧ J H1 ∧
    (∀ (a b : Nat) (H' : Hp), a < N → b < N → J H' → tb (NdefX.startF Nl [.int (a : Int), .int (b : Int)] (js.map (NdefX.slotAt σ))) H' (fun u H'' => u = .int (op a b : Nat) ∧ Same H' H'')) ∧
    ∀ H2, Same H1 H2 → LamP P w K mg base k f N op H2 → sp vs H2 (fun u H3 => Same H2 H3 ∧ ∀ H4, Same H1 H4 → ExtE H3 H4 → Q u H4) E0
theorem lam_run {P : Program} {w : World} {K : PySem.W.Frag} {mg : Str → Option Value} {base : Heap} {Nl ps fr : List Str} {L : LF} {f : Addr} {k : Nat} {ws : List (Option V)} {s1 : Shared} {H1 : Hp} {tb : TE} {N : Nat} {op : Nat → Nat → Nat} {J : Hp → Prop}
    (S : NdefX.NScope Nl ps fr L.scope) (hps : ps.length = 2) (hbind : ∀ (pm ctv : Value) (us : List Value), us.length = ps.length → bindArgs (PySem.W.kla_fn "<lambda>" L.qual L.params L.body L.scope L.cl pm (.ref L.c) ctv) ⟨us, []⟩ = pure (ps.zip us))
    (C1 : NdefX.CellsAt L.cl fr ws s1.heap H1) (hf : H1 f = some (LamO f L)) (hc : H1 L.c = some (LamX.CodeO L.c L.qual)) (st : ∀ H H', ExtE H H' → J H → J H') (hJ : J H1)
    (hb : ∀ (a b : Nat) (H' : Hp), a < N → b < N → J H' → tb (NdefX.startF Nl [.int (a : Int), .int (b : Int)] ws) H' (fun u H'' => u = .int (op a b : Nat) ∧ Same H' H''))
    (hbody : ∀ (A : Around) (outer : List Env) (s : Shared) (H : Hp), Room k (A.deeper (NdefX.envF L.nf f s.heap.objs.size)) → PE (NdefX.ncx CX0 P w K mg base Nl L.nf f A outer s H E0) L.body tb) :
    LamP P w K mg base (k + 1) f N op (pinH (capA L.cl) s1.heap H1) := by
  have hin : ∀ b ∈ capA L.cl, H1 b = none ∧ ∃ o, s1.heap.get? b = some o := fun b hb => by
    obtain ⟨y, e⟩ := capA_in hb
    obtain ⟨h1, v, o, h2, _⟩ := C1.all y b e
    exact ⟨h1, o, h2⟩
  have nin : ∀ b o, H1 b = some o → b ∉ capA L.cl := fun b o e z => by
    rw [(hin b z).1] at e
    cases e
  refine ⟨(f, LamO f L) :: (L.c, LamX.CodeO L.c L.qual) :: (capA L.cl).filterMap (fun b => (s1.heap.get? b).map fun o => (b, PinO b o)), J, st, st _ _ (ExtE.same fun b o e => ?_) hJ, fun p hp => ?_, fun s H' hok hp => ?_, ?_⟩
  · rw [pinH_out (nin b o e)]
    exact e
  · rcases List.mem_cons.mp hp with rfl | hp
    · show pinH _ _ _ f = _
      rw [pinH_out (nin _ _ hf)]
      exact hf
    rcases List.mem_cons.mp hp with rfl | hp
    · show pinH _ _ _ L.c = _
      rw [pinH_out (nin _ _ hc)]
      exact hc
    obtain ⟨b, hb, e⟩ := List.mem_filterMap.mp hp
    obtain ⟨o, ho⟩ := (hin b hb).2
    rw [ho] at e
    cases e
    exact pinH_in hb ho
  · obtain ⟨⟨pm, ctv, e⟩, _⟩ := hok f _ (hp _ List.mem_cons_self)
    exact ⟨_, _, _, _, e⟩
  intro A outer s H' us Q a b hr e0 hp hJ' la lb r q
  have pf : H' f = some (LamO f L) := hp _ List.mem_cons_self
  have pc : H' L.c = some (LamX.CodeO L.c L.qual) := hp _ (List.mem_cons_of_mem _ List.mem_cons_self)
  have pcell : ∀ b ∈ capA L.cl, ∃ o, s1.heap.get? b = some o ∧ H' b = some (PinO b o) ∧ s.heap.get? b = some o := fun b hb => by
    obtain ⟨o, ho⟩ := (hin b hb).2
    have e : H' b = some (PinO b o) := hp (b, PinO b o) (List.mem_cons_of_mem _ (List.mem_cons_of_mem _ (List.mem_filterMap.mpr ⟨b, hb, by rw [ho]; rfl⟩)))
    obtain ⟨z, _⟩ := e0.hok b _ e
    exact ⟨o, ho, e, z⟩
  have e0' : Env0 P w K mg base A outer s (dropH (capA L.cl) H') := ⟨e0.frames, e0.mod, fun b o e => ⟨(e0.bs b o e).1, dropH_none (e0.bs b o e).2⟩, e0.bsz, e0.funs, fun b hb => dropH_none (e0.frf b hb), hok_drop e0.hok fun b hb u eu => by
    obtain ⟨o, _, e, _⟩ := pcell b hb
    rw [e] at eu
    cases eu
    exact ⟨_, rfl⟩, e0.bare⟩
  have C0 : NdefX.CellsAt L.cl fr ws s.heap (dropH (capA L.cl) H') := by
    have keep : ∀ y c, L.cl.lookup y = some c → ∀ v, s1.heap.IsCell c v → s.heap.IsCell c v := fun y c e v ⟨o, ho, hd⟩ => by
      obtain ⟨o', h1, _, h2⟩ := pcell c (capA_of e)
      rw [ho] at h1
      cases h1
      exact ⟨o, h2, hd⟩
    refine ⟨C1.len, fun y c e => ⟨dropH_in (capA_of e), ?_⟩, C1.inj, fun i y e => ?_⟩
    · obtain ⟨v, z⟩ := (C1.all y c e).2
      exact ⟨v, keep y c e v z⟩
    · obtain ⟨c, hc, hv⟩ := C1.has i y e
      refine ⟨c, hc, fun v ev => ?_⟩
      obtain ⟨u, ru, z⟩ := hv v ev
      exact ⟨u, ru, keep y c hc _ z⟩
  obtain ⟨⟨pm, ctv, ho⟩, _⟩ := e0.hok f _ pf
  have lim : s.heap.NoLimit := e0.mod.nolimit.keeps fun b o e => (e0.bs b o e).1
  have hl : ([V.int (a : Int), V.int (b : Int)] : List V).length = ps.length := hps.symm
  refine PySem.W.kla_callFunE hr.depth ho rfl S.co S.gen rfl (NdefX.codeO_at e0.hok pc) ?_
  rw [hbind pm ctv us (by rw [← r.length]; exact hl)]
  refine wpAny_pure (wpAny_newFunctionEnv S.nocell (fun ⟨n, _⟩ hy => S.par n (List.of_mem_zip hy).1) (fun h₁ hns hsb => ⟨lim.fresh _ hsb, ?_⟩) S.kind)
  show codeAny _ _ (.expr L.body (NdefX.envF L.nf f s.heap.objs.size)) _ _
  have kp : ∀ b o, s.heap.get? b = some o → h₁.get? b = some o := fun b o e => hsb.extBut b o (Nat.ne_of_lt (Heap.lt_size e)) (Heap.get?_push_of_some _ e)
  have I := NdefX.inv_startN (CX := CX0) (E := E0) (F := L.nf) (f := f) (tk := s.toks + (ps.zip us).length) S hr.hd e0' hl r C0 hns kp
  have hxE : ExtE H' (dropH (capA L.cl) H') := fun b o e n => by
    rw [dropH_out fun z => ?_]
    · exact e
    · obtain ⟨o', _, e', _⟩ := pcell b z
      rw [e'] at e
      cases e
      exact n _ rfl
  refine PySem.W.kla_codeExpr (wpAny_mono ((hbody A outer s _ (hr.deeper _)).run [] _ _ _ _ I (hb a b _ la lb (st _ _ hxE hJ'))) (fun v s3 ⟨w3, H3, J3, rv, ew, sm⟩ => ?_) fun e s3 z => z)
  have un : Un (frs outer) [] (dropH (capA L.cl) H') H3 s.heap s3.heap := J3.base
  subst ew
  have gone : ∀ b ∈ capA L.cl, H3 b = none := fun b hb => by
    obtain ⟨o, _, _, z⟩ := pcell b hb
    exact un.free b o z (dropH_in hb) (by simp)
  have back : ∀ b, b ∉ capA L.cl → mixH (capA L.cl) H' H3 b = H3 b := fun b hb => if_neg hb
  have inn : ∀ b, b ∈ capA L.cl → mixH (capA L.cl) H' H3 b = H' b := fun b hb => if_pos hb
  refine ⟨_, mixH (capA L.cl) H' H3, J3.os, J3.bare, ⟨fun b o e n nf nx => ?_, fun b o e n nf nx => ?_, fun b o e n nx => ?_, un.there, fun b xs e => ?_, fun b o u e => ?_, fun b qs e => ?_⟩, fun b u e => ?_, rv, q _ fun b o e => ?_⟩
  · exact un.keep b o e (dropH_none n) nf nx
  · exact un.slot b o e (dropH_none n) nf nx
  · by_cases hb : b ∈ capA L.cl
    · rw [inn b hb]
      exact n
    · rw [back b hb]
      exact un.free b o e (dropH_none n) nx
  · have hb : b ∉ capA L.cl := fun z => by
      obtain ⟨o', _, e', _⟩ := pcell b z
      rw [e'] at e
      cases e
    rw [back b hb]
    exact un.tups b xs (by rw [dropH_out hb]; exact e)
  · have hb : b ∉ capA L.cl := fun z => by
      obtain ⟨o', _, e', _⟩ := pcell b z
      rw [e'] at e
      cases e
    rw [back b hb]
    exact un.frzs b o u (by rw [dropH_out hb]; exact e)
  · have hb : b ∉ capA L.cl := fun z => by
      obtain ⟨o', _, e', _⟩ := pcell b z
      rw [e'] at e
      cases e
    rw [back b hb]
    exact un.tbls b qs (by rw [dropH_out hb]; exact e)
  · by_cases hb : b ∈ capA L.cl
    · rw [inn b hb] at e
      obtain ⟨o, _, e', z⟩ := pcell b hb
      rw [e'] at e
      cases e
      have nfr : b ∉ frs outer := fun y => by
        rw [e0.frf b y] at e'
        cases e'
      have z3 := un.keep b o z (dropH_in hb) nfr (by simp)
      exact ⟨z3, ⟨o, z3⟩, fun h1 h2 y st => st _ y⟩
    · rw [back b hb] at e
      refine (J3.hok b u e).stay (fun c v _ y => y) (fun c y => ?_) (fun c xs y => ?_)
      · rw [back c fun z => by rw [gone c z] at y; cases y]
        exact y
      · rw [back c fun z => by rw [gone c z] at y; cases y]
        exact y
  · by_cases hb : b ∈ capA L.cl
    · rw [inn b hb]
      exact e
    · rw [back b hb]
      exact sm b o (by rw [dropH_out hb]; exact e)
theorem pe_callLam {X : Cx} {g : Addr} {kg kl : Nat} {gd : FuncData} {psg psl fr Nl : List Str} {js : List Nat} {sp : Sp} {x : Str} {e1 : Expr} {t : L2.TA} {tb : TE} {params : Arguments} {body : Expr} {scope : Scope} {p pos lp : Pos}
    (G : FnOk X.prog X.w X.K X.mg X.base CX0 kg g gd psg sp) (hr : Room kg X.A) (hg : Gl X x) (hm : X.mg x = some (.ref g)) (hk : PySem.W.keepIn X.K (.ref g) = true) (hb : Binds X.K gd psg []) (S : NdefX.NScope Nl psl fr scope) (hps : psl.length = 2) (hdf : NdefX.ndefB X.env.scope scope fr = true) (hjs : js.map (fun j => X.N[j]?) = fr.map some) (hfn : ∀ y, X.fn y = true)
    (hbind : ∀ (q : Str) (cl : List (Str × Addr)) (pm cv ctv : Value) (us : List Value), us.length = psl.length → bindArgs (PySem.W.kla_fn "<lambda>" q params body scope cl pm cv ctv) ⟨us, []⟩ = pure (psl.zip us))
    (hbody : ∀ (A : Around) (outer : List Env) (s : Shared) (H : Hp) (f : Addr) (cl : List (Str × Addr)) (c' : Addr), Room kl (A.deeper (NdefX.envF (LF.nf ⟨X.env.qual ++ "<lambda>", params, body, scope, cl, c'⟩) f s.heap.objs.size)) → PE (NdefX.ncx CX0 X.prog X.w X.K X.mg X.base Nl (LF.nf ⟨X.env.qual ++ "<lambda>", params, body, scope, cl, c'⟩) f A outer s H E0) body tb) (ha : PA X [e1, .Lambda params body scope lp] t)
    (hdb : (x == ("__debug__" : Str)) = false := by decide) (he : starEach [e1, .Lambda params body scope lp] X.env = (false, eval e1 X.env) :: starEach [.Lambda params body scope lp] X.env := by rfl) (hpl : (backTo pos (starEach [.Lambda params body scope lp] X.env)).any (·.1) = false := by rfl) :
    PE X (.Call (.Name x p) [e1, .Lambda params body scope lp] [] pos) (tCallLam X.prog X.w X.K X.mg X.base (kl + 1) (fun c' => ⟨X.env.qual ++ "<lambda>", params, body, scope, cloFrom X.env.cells scope.names [], c'⟩) sp Nl js t tb) := by
  refine ⟨fun pins s σ H Q I h => wpAny_Call_Name_kw (ld_glob I hg hm ?_ hdb)⟩
  refine PySem.W.callWith_K (h₀ := X.base) I.ok.mod.kin hk (thn (ha.run pos pins s σ H _ I h) fun us s1 ⟨vs, H1, I1, r, f, c', hf, hc, N, op, J, st, hJ, hB, q⟩ => ⟨I1.kIn, ?_⟩) he hpl
  have C1 := NdefX.cells_of (js := js) I1 (NdefX.Caps.made I1.ok (NdefX.ndef_free hdf) (NdefX.ndef_fr hdf) hjs)
  have sub : ∀ c ∈ capA (cloFrom X.env.cells scope.names []), ∃ y, X.env.cells.lookup y = some c := fun c h => by
    obtain ⟨y, e⟩ := capA_in h
    refine ⟨y, NdefX.clo_cm (fun y hy e => (NdefX.ndef_free hdf y hy e).elim (fun z => I1.ok.has _ (.inl z)) fun z => I1.ok.has _ (.inr z)) e⟩
  have hnone : ∀ b ∈ capA (cloFrom X.env.cells scope.names []), H1 b = none ∧ ∃ o, s1.heap.get? b = some o := fun b hb => by
    obtain ⟨y, e⟩ := sub b hb
    obtain ⟨v, o, ho, _⟩ := I1.cell y b e
    exact ⟨I1.freeC y b e, o, ho⟩
  have big : ∀ b ∈ capA (cloFrom X.env.cells scope.names []), X.s_0.heap.objs.size ≤ b := fun b hb => by
    obtain ⟨y, e⟩ := sub b hb
    exact I1.ok.cab y b (hfn y) e
  have nfr : ∀ b ∈ capA (cloFrom X.env.cells scope.names []), b ∉ frs X.stack := fun b hb z => by
    obtain ⟨y, e⟩ := sub b hb
    rcases List.mem_cons.mp (I1.stkSub b z) with e' | e'
    · exact I1.cne y b e e'
    · obtain ⟨_, o, ho, _⟩ := I1.ok.funs.mem e'
      exact absurd (Nat.lt_of_lt_of_le (Heap.lt_size ho) (big b hb)) (Nat.lt_irrefl _)
  have out : ∀ b, H1 b = none → b ∉ capA (cloFrom X.env.cells scope.names []) → pinH (capA (cloFrom X.env.cells scope.names [])) s1.heap H1 b = none := fun b e n => by rw [pinH_out n]; exact e
  have sm : Same H1 (pinH (capA (cloFrom X.env.cells scope.names [])) s1.heap H1) := fun b o e => by
    rw [pinH_out fun z => by rw [(hnone b z).1] at e; cases e]
    exact e
  have eb := I1.env0
  have e0 : Env0 X.prog X.w X.K X.mg X.base X.A X.stack s1 (pinH (capA (cloFrom X.env.cells scope.names [])) s1.heap H1) := ⟨eb.frames, eb.mod, fun b o e => ⟨(eb.bs b o e).1, out b (eb.bs b o e).2 fun z => absurd (Nat.lt_of_lt_of_le (Heap.lt_size e) (Nat.le_trans I1.ok.bsz (big b z))) (Nat.lt_irrefl _)⟩, eb.bsz, eb.funs,
    fun b hb => out b (eb.frf b hb) fun z => nfr b z hb, hok_pin eb.hok (fun b hb => (hnone b hb).1) (fun b hb => (hnone b hb).2), eb.bare⟩
  have hL := lam_run (K := X.K) (mg := X.mg) (base := X.base) (w := X.w) (P := X.prog) (L := ⟨X.env.qual ++ "<lambda>", params, body, scope, cloFrom X.env.cells scope.names [], c'⟩) S hps (fun pm ctv us hu => hbind _ _ _ _ _ us hu) C1 hf hc st hJ hB (fun A outer s H hr2 => hbody A outer s H f _ _ hr2)
  have hsp := q _ sm hL
  have hlen := G.len _ _ _ _ hsp
  show wpAny _ _ (call (.ref g) us) _ _ _
  have hbd := hb s1 us I1.kIn (by rw [List.append_nil, ← r.length]; exact hlen)
  rw [List.append_nil] at hbd
  refine wpAny_call (codeAny_mono (G.run X.A X.stack s1 _ ⟨us, []⟩ us vs _ E0 hr e0 hbd r hsp) fun rs s2 hq => ?_)
  cases rs with
  | error e => exact (show False from hq).elim
  | ok fl =>
    cases fl with
    | next => exact False.elim hq
    | brk => exact False.elim hq
    | cont => exact False.elim hq
    | ret u =>
      obtain ⟨v, H3, os, bare, un, hok, rv, sm3, q4⟩ := hq
      have held : ∀ b ∈ capA (cloFrom X.env.cells scope.names []), ∃ o, s1.heap.get? b = some o ∧ s2.heap.get? b = some o ∧ H3 b = some (PinO b o) := fun b hb => by
        obtain ⟨o, ho⟩ := (hnone b hb).2
        have e := sm3 _ _ (pinH_in (H := H1) hb ho)
        obtain ⟨z, _⟩ := hok b _ e
        exact ⟨o, ho, z, e⟩
      have nin : ∀ b o, H1 b = some o → b ∉ capA (cloFrom X.env.cells scope.names []) := fun b o e z => by
        rw [(hnone b z).1] at e
        cases e
      have smF : Same H1 (dropH (capA (cloFrom X.env.cells scope.names [])) H3) := fun b o e => by
        rw [dropH_out (nin b o e)]
        exact sm3 _ _ (sm _ _ e)
      refine I1.after ⟨v, dropH (capA (cloFrom X.env.cells scope.names [])) H3, os, bare, ⟨fun b o e n nf nx => ?_, fun b o e n nf nx => ?_, fun b o e n nx => ?_, un.there, fun b xs e => smF _ _ e, fun b o u e => smF _ _ e, fun b qs e => ⟨#[], by rw [smF _ _ e]; simp⟩⟩, hok_drop hok fun b hb u eu => ?_, rv, q4 _ smF fun b o e n => ?_⟩
      · by_cases hb : b ∈ capA (cloFrom X.env.cells scope.names [])
        · obtain ⟨o', h1, h2, _⟩ := held b hb
          rw [e] at h1
          cases h1
          exact h2
        · exact un.keep b o e (out b n hb) nf nx
      · by_cases hb : b ∈ capA (cloFrom X.env.cells scope.names [])
        · exact absurd nf (nfr b hb)
        · exact un.slot b o e (out b n hb) nf nx
      · by_cases hb : b ∈ capA (cloFrom X.env.cells scope.names [])
        · exact dropH_in hb
        · rw [dropH_out hb]
          exact un.free b o e (out b n hb) nx
      · obtain ⟨o, _, _, e'⟩ := held b hb
        rw [e'] at eu
        cases eu
        exact ⟨_, rfl⟩
      · rw [dropH_out fun z => ?_]
        · exact e
        · obtain ⟨o', _, _, e'⟩ := held b z
          rw [e'] at e
          cases e
          exact n _ rfl
end OPLP
section OPDT
open PySem PySem.Spec PyProof.Rows
/-! ### {key: value} with one key, a tuple of ints and texts -/
def tDispT1 (tk tv : TE) : TE := fun σ H Q => ∀ p, H p = none → tk σ (upd H p (.dT [])) fun x H1 => tv σ H1 fun y H2 => H2 p = some (.dT []) ∧ ∃ (b : Addr) (k : List Key), x = .ref b ∧ H2 b = some (.tup (k.map kV)) ∧ Q (.ref p) (upd H2 p (.dT [(k, y)]))
theorem pe_dispT1 {X : Cx} {pos : Pos} {k v : Expr} {tk tv : TE} (hu : X.A.units + 1 < cLine) (hk : PE X k tk) (hv : PE X v tv) : PE X (.Dict [some k] [v] pos) (tDispT1 tk tv) := by
  refine ⟨fun pins s σ H Q I q => ?_⟩
  have hn := I.hok.fresh (Nat.le_refl s.heap.objs.size)
  have I1 := I.laid (a := s.heap.objs.size) (o := .dT []) (h' := s.heap.push { cls := .type "dict", data := .dict #[] }) (t' := s.toks) (fun _ _ q => Heap.get?_push_of_some _ q) (Nat.le_refl _) (dt_empty s.heap I.big)
  rw [arm_eval_Dict, zip_pairTrees [some k] [v] X.env pos rfl rfl, dictDisplay_pairs (pairTrees [some k] [v] X.env pos) (by intro z; cases z) (by show 1 < 17; decide)]
  refine wpAny_bind (wpAny_standAt (wpAny_bind ?_))
  refine wpAny_subDictH (knd := tupleKind (mixKind X.prog X.w)) (show X.A.units < cLine by omega) (by show 1 ≤ 15; decide) ?_
  refine pairTrees_cons_walk (thn (hk.run pins _ σ _ _ I1 (q _ hn)) fun u s1 ⟨x, H1, I2, rx, q1⟩ => thn (hv.run pins s1 σ H1 _ I2 q1) fun w2 s2 ⟨y, H2, I3, ry, e, b, ks, ex, eb, q2⟩ => pairTrees_nil_walk ?_)
  subst ex
  obtain rfl : u = Value.ref b := rx
  obtain ⟨z, hd, xs, rel, dd⟩ := dt_of I3.hok e
  cases rel
  refine ⟨[(ks, b, w2)], ⟨rfl, rfl, key_of I3.hok eb, trivial⟩, dd, fun h' tk dd' hs => wpAny_pure ⟨.ref s.heap.objs.size, _, ?_, rfl, q2⟩⟩
  obtain ⟨qo, es, ep, hq, h2, h3, h4, _, h5⟩ := dd'
  refine d_write I3 (by rw [e]; exact True.intro) hs ⟨qo, hq⟩ ⟨by show 1 ≤ sizeLine; rw [sizeLine_eq]; omega, hd, _, ?_, qo, es, ep, hq, h2, h3, h4, h5⟩
  refine .cons ⟨rfl, ?_, ry⟩ .nil
  rw [upd_ne (ne_of eb e (fun z => nomatch z))]
  exact eb
end OPDT
section OPSD
open PySem PySem.Spec PyProof.Rows
/-! ### sorted(d) of a dict with int keys, any number of them -/
def rSortedDA : List V → Hp → VK → Prop := fun xs H Q => ∃ (a : Addr) (kvs : List (Key × V)) (ks : List Int), xs = [.ref a] ∧ Rd H a (.dK kvs) ∧ kvs.map (·.1) = ks.map Sum.inl ∧
    ∀ (ys : List Int) (p : Addr), ys.Perm ks → ys.Pairwise (· ≤ ·) → H p = none → Q (.ref p) (upd H p (.lst (ys.map V.int)))
theorem call_sortedDA {X : Cx} (hcalm : X.calm = true) : CallR X (.builtin "sorted") rSortedDA := by
  intro pins s σ H xs us Q I r q
  obtain ⟨a, kvs, ks, rfl, hd, hks, q⟩ := q
  rw [Vals.ref1 r]
  obtain ⟨z, lo, vs, rel, dd⟩ := dk_rd I.hok hd
  obtain ⟨ep, hat⟩ := dd.dictAt
  have hkeys : vs.map (·.1) = ks.map Sum.inl := rel.keys.symm.trans hks
  have hl : vs.length = ks.length := by
    have e := congrArg List.length hkeys
    rwa [List.length_map, List.length_map] at e
  have hz : vs.length ≤ sizeLine := by rw [← rel.length]; exact z
  refine Calls.call_function_entry PyProof.Rows.kind_sorted PyProof.Rows.plain_sorted PyProof.Rows.entry_sorted (PyProof.Rows.args_sorted1 _) ?_
  unfold Builtin.«sorted»
  refine wpAny_bind (m := checkCount "sorted" 1 1 _) (wpAny_pure ?_)
  refine wpAny_bind (PySem.W.kdu_collect (A := X.A.in1) (PySem.W.kdl_dict (knd := mixKind X.prog X.w) (kvs := vs) (ep := ep) lo) (I.ok.hd hcalm) hat hz fun h' tk acc hk hacc => ?_)
  have hal : acc.toList.length = ks.length := by rw [Array.length_toList, hacc.1, hl]
  have hS : IntsAre acc.toList ks := ints_each hal fun j v e => by
    obtain ⟨k, x, e1, e2⟩ := hacc.2 j v (by rw [← Array.getElem?_toList]; exact e)
    have e3 : (vs.map (·.1))[j]? = some k := by rw [List.getElem?_map, e1]; rfl
    rw [hkeys, List.getElem?_map] at e3
    cases e4 : ks[j]? with
    | none => rw [e4] at e3; cases e3
    | some y =>
      rw [e4] at e3
      cases Option.some.inj e3
      rcases keyIs_shape (show keyIs (Sum.inl y) v = true from e2) with ⟨i, t, ek, ev⟩ | ⟨z, t, ek, ev⟩
      · cases ek
        exact ⟨y, t, rfl, ev⟩
      · cases ek
  have I1 : Inv X pins σ H { s with heap := h', toks := tk } := I.kept hk
  refine wpAny_bind (wpAny_newList ?_ (by rw [hal, ← hl]; exact hz))
  have hoL : (h'.push (seqObj "list" acc.toList.toArray 0)).get? h'.objs.size = some (seqObj "list" acc.toList.toArray 0) := Heap.get?_push_size _ rfl
  show wpAny _ _ _ _ _ { s with heap := h'.push (seqObj "list" acc.toList.toArray 0), toks := tk }
  refine wpAny_bind (wpAny_holding (wpAny_call_entry PyProof.Rows.slot_list_sort ⟨_, hoL, rfl⟩ PyProof.Rows.entry_list_sort
    (SrtO.list_sort_ord SrtO.swo_int (s := { s with heap := h'.push (seqObj "list" acc.toList.toArray 0), toks := tk }) hoL (by rw [hal, ← hl]; exact hz) (fun h2 => SrtO.ints_sortable hS h2) fun out h1 h2 => ⟨.none, rfl, ?_⟩) (PyProof.Rows.args_list_sort _)))
  obtain ⟨g1, g2, g3⟩ := SrtO.ints_out hS h1 h2
  obtain ⟨e', he'⟩ := PyProof.Rows.sortedHeap_at (vs := acc.toList) (out := out.toArray) hoL
  have hlen : ((out.map SrtO.iv).map V.int).length ≤ sizeLine := by
    rw [List.length_map, g2.length_eq, ← hl]
    exact hz
  refine wpAny_pure ⟨_, rfl, .ref h'.objs.size, upd H h'.objs.size (.lst ((out.map SrtO.iv).map V.int)), I1.laid (t' := tk) (fun b u e => ?_) (Nat.le_refl _)
    (show ObjOk X.prog X.w _ _ _ (.lst ((out.map SrtO.iv).map V.int)) from ⟨hlen, out, e', vals_of_ints g1, he'⟩), rfl, q _ _ g2 g3 (I1.hok.fresh (Nat.le_refl _))⟩
  have hb : b < h'.objs.size := Heap.lt_size e
  rw [PyProof.Rows.sortedHeap_old (Nat.ne_of_lt hb) (by rw [size_push']; exact Nat.lt_succ_of_lt hb)]
  exact Heap.get?_push_of_some _ e
end OPSD
section OPSE
open PySem PySem.Spec PyProof.Rows
/-! ### d.setdefault(k, x), keys ints and texts -/
def tDSetD (td ty tx : TE) : TE := fun σ H Q => td σ H fun x H1 => ∃ a, x = .ref a ∧ IsD H1 a ∧ ty σ H1 fun y H2 => tx σ H2 fun z H3 => ∃ kvs k, H3 a = some (.dK kvs) ∧ y = kV k ∧ kvs.length < sizeLine ∧ (∀ v, valV kvs k = some v → Q v H3) ∧ (valV kvs k = none → Q z (upd H3 a (.dK (kvs ++ [(k, z)]))))
theorem pe_dsetd {X : Cx} {o e f : Expr} {td ty tx : TE} {apos cpos : Pos} (ho : PE X o td) (he : PE X e ty) (hf : PE X f tx) (m : M2 X o "setdefault" apos e f cpos) : PE X (.Call (.Attribute o "setdefault" apos) [e, f] [] cpos) (tDSetD td ty tx) := by
  refine ⟨fun pins s σ H Q I h => ?_⟩
  refine wpAny_Call_method m.base m.few m.line PySem.F.plainAttrs_dict PySem.F.slot_dict_setdefault PySem.F.type_dict_setdefault (thn (ho.run pins s σ H _ I h) fun u s1 ⟨x, H1, I1, rx, a, ex, d, q1⟩ => ?_)
  subst ex
  obtain rfl : u = Value.ref a := rx
  obtain ⟨t1, t2, _⟩ := isD_at I1 d
  refine ⟨t1, t2, ?_⟩
  rw [m.trees]
  refine Calls.callWith_builtin rfl (Calls.evalArgs_plain (Calls.spliced_cons (thn (he.run pins s1 σ H1 _ I1 q1) fun iv s2 ⟨y, H2, I2, ry, q2⟩ =>
    Calls.spliced_cons (thn (hf.run pins s2 σ H2 _ I2 q2) fun fv s3 ⟨z, H3, I3, rz, kvs, k, e3, ey, hl, q3, q4⟩ => Calls.spliced_nil ?_))))
  subst ey
  obtain ⟨zz, hd, vs, rel, dd⟩ := dk_of I3.hok e3
  have hval := rel.val k
  refine call_meetsIn PySem.F.slot_dict_setdefault dd.typeIs PySem.F.entry_dict_setdefault (PySem.F.args_dict_setdefault_3 _ _ _) (kt_meets_setdefault (mixKind X.prog X.w) a (kV_is ry) hd fv) ⟨vs, dd, by rw [← rel.length]; exact zz, fun v hv => ?_, fun hn h' dd' hs => ?_⟩
  · rw [hv] at hval
    cases ev : valV kvs k with
    | none => rw [ev] at hval; exact absurd hval id
    | some v0 =>
      rw [ev] at hval
      exact ⟨v0, H3, I3.tok _, hval, q3 v0 ev⟩
  · have ev : valV kvs k = none := by
      cases ev : valV kvs k with
      | none => rfl
      | some v0 => rw [ev, hn] at hval; exact absurd hval id
    have he : ∃ q, h'.get? a = some q := let ⟨q, _, _, hq, _⟩ := dd'; ⟨q, hq⟩
    have hput : putK kvs k z = kvs ++ [(k, z)] := putK_new z ev
    have hlen : (putK kvs k z).length ≤ sizeLine := by have := length_putK kvs k z; omega
    have Q4 := q4 ev
    rw [← hput] at Q4
    exact ⟨z, _, d_write I3 (by rw [e3]; exact True.intro) hs he (dk_new hlen hd (rel.put k rz) dd'), rz, Q4⟩
end OPSE
section ITEMS55
open PySem PySem.Spec PyProof.Rows L2 L2.DX
/-! ### sorted(d.items()) of a dict of ints by ints, its keys ascending -/
variable {X : Cx}
def kII (z : Int × Int) : Key × V := (Sum.inl z.1, V.int z.2)
def rItemsK : V → List V → Hp → VK → Prop := fun x xs H Q => ∃ (a : Addr) (kvs : List (Key × V)), x = .ref a ∧ xs = [] ∧ H a = some (.dK kvs) ∧ ∀ p, H p = none → Q (.ref p) (upd H p (itemsO p a))
theorem mt_itemsK : MtR X "dict.items" rItemsK := by
  intro pins s σ H x xs v us Q I rx rxs h
  obtain ⟨a, kvs, rfl, rfl, ha, q⟩ := h
  cases rx
  cases rxs
  obtain ⟨z, hd, vs, rel, dof⟩ := dk_of I.hok ha
  obtain ⟨ep, o, es, ho, hx, hdat, _⟩ := dof.dictAt
  refine DT.callItems (es := es) (ep := ep) hd ⟨o, ho, hx, hdat⟩ ?_
  have hf : H s.heap.objs.size = none := I.hok.fresh (Nat.le_refl _)
  exact ⟨.ref s.heap.objs.size, upd H s.heap.objs.size (itemsO s.heap.objs.size a), I.laid (t' := s.toks) (fun b u e => Heap.get?_push_of_some _ e) (Nat.le_refl _) (itemsO_ok (Heap.get?_push_size _ rfl)), rfl, q _ hf⟩
def rSortItI : List V → Hp → VK → Prop := fun vs H Q => ∃ (p a : Addr) (L : List (Int × Int)), vs = [.ref p] ∧ H p = some (itemsO p a) ∧ H a = some (.dK (L.map kII)) ∧ L.Pairwise (fun x y => x.1 < y.1) ∧
  ∀ (H' : Hp) (l : Addr) (qs : List Addr), Same H H' → H l = none → H' l = some (.lst (qs.map V.ref)) → qs.length = L.length → (∀ (j : Nat) (q : Addr) (z : Int × Int), qs[j]? = some q → L[j]? = some z → H' q = some (.tup [.int z.1, .int z.2])) → Q (.ref l) H'
theorem kv_at {kvs : List (Key × V)} {vs : List (Key × Value)} (r : KV kvs vs) {i : Nat} {z : Int × Int} {L : List (Int × Int)} (e : kvs = L.map kII) (h : L[i]? = some z) : ∃ t, vs[i]? = some (Sum.inl z.1, Value.int z.2 t) := by
  subst e
  have hk : (L.map kII)[i]? = some (kII z) := by rw [List.getElem?_map, h]; rfl
  have hl := Paired.length r
  obtain ⟨q, h1⟩ : ∃ q, vs[i]? = some q := ⟨_, List.getElem?_eq_getElem (by have := (List.getElem?_eq_some_iff.mp hk).1; omega)⟩
  obtain ⟨y, hy, h2, h3⟩ := pget r h1
  obtain rfl : y = kII z := Option.some.inj (hy.symm.trans hk)
  obtain ⟨t, et⟩ := h3
  refine ⟨t, ?_⟩
  rw [h1]
  obtain ⟨q1, q2⟩ := q
  have h2 : Sum.inl z.1 = q1 := h2
  have et : q2 = Value.int z.2 t := et
  rw [← h2, et]
theorem cr_sortedItI (hc : X.calm = true) : CallR X (.builtin "sorted") rSortItI := by
  intro pins s σ H vs us Q I r h
  obtain ⟨p, a, L, rfl, hp, ha, hasc, q⟩ := h
  obtain rfl := Vals.ref1 r
  have view : s.heap.IsItemsView p a := (show ObjOk X.prog X.w H s.heap p (itemsO p a) from I.hok p _ hp).1
  obtain ⟨z, hd, xs', rel, dof⟩ := dk_of I.hok ha
  obtain ⟨ep, o, es, ho, hx, hdat, hko, hpr, hnd⟩ := dof.dictAt
  have l1 : (L.map kII).length = xs'.length := Paired.length rel
  rw [List.length_map] at l1 z
  have l2 : es.toList.length = xs'.length := hpr.length
  rw [Array.length_toList] at l2
  refine DT.sortedI (es := es) (ep := ep) (I.ok.hd hc) view ⟨o, ho, hx, hdat⟩ (by omega) fun h' tk as hk hlt hl hG => ?_
  have lak : as.length = L.length := by omega
  have nd : as.Nodup := List.Pairwise.imp (fun h => Nat.ne_of_lt h) hG.rise
  have pr : ∀ (j : Nat) (b : Addr) (w : Int × Int), as[j]? = some b → L[j]? = some w → ∃ t t', h'.get? b = some { cls := .type "tuple", data := .seq #[Value.int w.1 t, Value.int w.2 t'] } := by
    intro j b w hj hw
    obtain ⟨en, he, hg⟩ := hG.pairs j b hj
    obtain ⟨t', ex⟩ := kv_at rel rfl hw
    obtain ⟨g1, g2⟩ := hpr.get? (by rw [Array.getElem?_toList]; exact he) ex
    rcases keyIs_shape (show keyIs (Sum.inl w.1) en.key = true from g1) with ⟨i, t, ek, ev⟩ | ⟨x, t, ek, ev⟩
    · cases ek
      exact ⟨t, t', by rw [hg, ev, g2]⟩
    · cases ek
  have I1 : Inv X pins σ H { s with heap := h', toks := tk } := I.kept hk
  obtain ⟨H2, I3, g, qt⟩ := takeT (P := fun b vs => ∃ (j : Nat) (w : Int × Int), as[j]? = some b ∧ L[j]? = some w ∧ vs = [.int w.1, .int w.2]) I as _ I1 nd fun b hb => by
    obtain ⟨j, hj⟩ := List.mem_iff_getElem?.mp hb
    obtain ⟨w, hw⟩ : ∃ w, L[j]? = some w := ⟨_, List.getElem?_eq_getElem (by have := (List.getElem?_eq_some_iff.mp hj).1; omega)⟩
    obtain ⟨t, t', hg⟩ := pr j b w hj hw
    exact ⟨Nat.le_of_lt (hG.above b hb), I.hok.fresh (Nat.le_of_lt (hG.above b hb)), _, ⟨j, w, hj, hw, rfl⟩, fun H2 => ⟨by show 2 ≤ sizeLine; decide, [Value.int w.1 t, Value.int w.2 t'], .cons ⟨_, rfl⟩ (.cons ⟨_, rfl⟩ .nil), _, hg, rfl, 0, rfl⟩⟩
  have hn0 : H h'.objs.size = none := I.hok.fresh (Nat.le_of_lt hlt)
  have hn2 : H2 h'.objs.size = none := I3.hok.fresh (Nat.le_refl _)
  have hob : (h'.push { cls := .type "list", data := .seq (as.map Value.ref).toArray }).get? h'.objs.size = some (seqObj "list" (as.map Value.ref).toArray 0) := Heap.get?_push_size _ rfl
  have kb : ∀ b o, h'.get? b = some o → (h'.push { cls := .type "list", data := .seq (as.map Value.ref).toArray }).get? b = some o := fun b o e => Heap.get?_push_of_some _ e
  have at2 : ∀ (j : Nat) (b : Addr) (w : Int × Int), as[j]? = some b → L[j]? = some w → H2 b = some (.tup [.int w.1, .int w.2]) := fun j b w hj hw => by
    obtain ⟨vs, ⟨j', w', hj', hw', rfl⟩, hb⟩ := qt b (List.mem_of_getElem? hj)
    have lj := (List.getElem?_eq_some_iff.mp hj).1
    have lj' := (List.getElem?_eq_some_iff.mp hj').1
    have ej : j' = j := (List.getElem_inj (h₀ := lj') (h₁ := lj) nd).mp (by
      rw [List.getElem?_eq_getElem lj'] at hj'
      rw [List.getElem?_eq_getElem lj] at hj
      rw [Option.some.inj hj', Option.some.inj hj])
    subst ej
    rw [hw] at hw'
    cases hw'
    exact hb
  let k : Value → Int × Int := fun v => match v with
    | .ref b => match H2 b with
      | some (.tup [.int x, .int y]) => (x, y)
      | _ => (0, 0)
    | _ => (0, 0)
  have hk2 : ∀ (j : Nat) (b : Addr) (w : Int × Int), as[j]? = some b → L[j]? = some w → k (.ref b) = w := fun j b w hj hw => by
    show (match H2 b with | some (.tup [.int x, .int y]) => (x, y) | _ => (0, 0)) = w
    rw [at2 j b w hj hw]
  have ix : ∀ v ∈ as.map Value.ref, ∃ (j : Nat) (b : Addr) (w : Int × Int), v = .ref b ∧ as[j]? = some b ∧ L[j]? = some w := fun v hv => by
    obtain ⟨b, hb, rfl⟩ := List.mem_map.mp hv
    obtain ⟨j, hj⟩ := List.mem_iff_getElem?.mp hb
    obtain ⟨w, hw⟩ : ∃ w, L[j]? = some w := ⟨_, List.getElem?_eq_getElem (by have := (List.getElem?_eq_some_iff.mp hj).1; omega)⟩
    exact ⟨j, b, w, rfl, hj, hw⟩
  have hasc2 : ∀ (i j : Nat) (x y : Int × Int), i < j → L[i]? = some x → L[j]? = some y → x.1 < y.1 := fun i j x y hij hx hy => by
    obtain ⟨h1, rfl⟩ := List.getElem?_eq_some_iff.mp hx
    obtain ⟨h2, rfl⟩ := List.getElem?_eq_some_iff.mp hy
    exact List.pairwise_iff_getElem.mp hasc i j h1 h2 hij
  generalize hh2 : h'.push { cls := .type "list", data := .seq (as.map Value.ref).toArray } = h2 at hob kb ⊢
  refine wpAny_call_entry PyProof.Rows.slot_list_sort ⟨_, hob, rfl⟩ PyProof.Rows.entry_list_sort
    (SrtO.list_sort_ord (s := { s with heap := h2, toks := tk }) (SrtO.swo_lex k) hob (by rw [List.length_map]; omega) (fun h0 => SrtO.pairs_sortableO (by omega) (fun v hv => ?_) fun o e => ?_) fun out o1 o2 => ⟨.none, rfl, ?_⟩) (PyProof.Rows.args_list_sort _)
  · obtain ⟨j, b, w, rfl, hj, hw⟩ := ix v hv
    obtain ⟨t, t', hg⟩ := pr j b w hj hw
    rw [hk2 j b w hj hw]
    exact ⟨b, _, t, t', 0, rfl, kb _ _ hg, rfl, rfl⟩
  · have e' : some o = some (seqObj "list" (as.map Value.ref).toArray 0) := e.symm.trans hob
    cases e'
    intro c
    exact absurd (Value.type.inj c) (by decide)
  · have hout : out = as.map Value.ref := by
      refine List.Perm.eq_of_pairwise (le := fun x y => SrtO.lexB (k y) (k x) = false) (fun x y hx hy h1 h2 => ?_) o1 ?_ o2.perm
      · obtain ⟨j, b, w, rfl, hj, hw⟩ := ix x (o2.perm.mem_iff.mp hx)
        obtain ⟨j2, b2, w2, rfl, hj2, hw2⟩ := ix y hy
        rw [hk2 j b w hj hw, hk2 j2 b2 w2 hj2 hw2] at h1 h2
        have ej : j = j2 := by
          rcases Nat.lt_trichotomy j j2 with z | z | z
          · have h3 := hasc2 j j2 w w2 z hw hw2
            have e : SrtO.lexB w w2 = true := SrtO.lexB_iff.mpr (.inl h3)
            rw [e] at h2
            cases h2
          · exact z
          · have h3 := hasc2 j2 j w2 w z hw2 hw
            have e : SrtO.lexB w2 w = true := SrtO.lexB_iff.mpr (.inl h3)
            rw [e] at h1
            cases h1
        subst ej
        rw [hj] at hj2
        cases hj2
        rfl
      · rw [List.pairwise_map, List.pairwise_iff_getElem]
        intro i j h1 h2 hij
        have hi := List.getElem?_eq_getElem h1
        have hj := List.getElem?_eq_getElem h2
        have wi : L[i]? = some (L[i]'(by omega)) := List.getElem?_eq_getElem _
        have wj : L[j]? = some (L[j]'(by omega)) := List.getElem?_eq_getElem _
        rw [hk2 i _ _ hi wi, hk2 j _ _ hj wj]
        have h3 := hasc2 i j _ _ hij wi wj
        refine Bool.eq_false_iff.mpr fun e => ?_
        rcases SrtO.lexB_iff.mp e with z | z
        · omega
        · omega
    subst hout
    have ka : ∀ b o, h'.get? b = some o → h2.get? b = some o := kb
    have kF : ∀ b o, h'.get? b = some o → (sortedHeap h2 h'.objs.size (as.map Value.ref) (as.map Value.ref).toArray).get? b = some o := fun b o e => (PyProof.Rows.sortedHeap_old (Nat.ne_of_lt (Heap.lt_size e)) (Heap.lt_size (kb b o e))).trans (kb b o e)
    obtain ⟨eF, heF⟩ := PyProof.Rows.sortedHeap_at (vs := as.map Value.ref) (out := (as.map Value.ref).toArray) hob
    have hrv : Vals (as.map V.ref) (as.map Value.ref) := vals_maps V.ref Value.ref as fun _ _ => rfl
    have hz : (as.map V.ref).length ≤ sizeLine := by rw [List.length_map]; omega
    have I4 : Inv X pins σ (upd H2 h'.objs.size (.lst (as.map V.ref))) { s with heap := sortedHeap h2 h'.objs.size (as.map Value.ref) (as.map Value.ref).toArray, toks := tk } :=
      I3.laid (t' := tk) (a := h'.objs.size) (o := .lst (as.map V.ref)) kF (Nat.le_refl _) ⟨hz, _, eF, hrv, heF⟩
    have sH : Same H (upd H2 h'.objs.size (.lst (as.map V.ref))) := fun b o e => by
      rw [upd_ne (ne_of_none e hn0)]
      exact g b o e
    refine ⟨.ref h'.objs.size, _, I4, rfl, q _ h'.objs.size as sH hn0 upd_same lak fun j b w hj hw => ?_⟩
    have hb := at2 j b w hj hw
    rw [upd_ne (ne_of_none hb hn2)]
    exact hb
end ITEMS55
section NEMAP
open PySem PySem.Spec PyProof.Rows L2
/-! ### (s, d) != (s, e), d and e int to int dicts with the same entries -/
theorem pairs_mem {p : Program} {w : World} {es : List DictEntry} {kvs : List (Key × Value)} (h : Pairs (mixKind p w) es kvs) : ∀ e ∈ es, ∃ kv ∈ kvs, keyIs kv.1 e.key = true := by
  induction h with
  | nil => intro e he; cases he
  | cons h1 h2 h3 ih =>
    intro e he
    rcases List.mem_cons.mp he with rfl | he
    · exact ⟨_, List.mem_cons_self, h1⟩
    · obtain ⟨kv, a, b⟩ := ih e he
      exact ⟨kv, List.mem_cons_of_mem _ a, b⟩
theorem pairs_to {p : Program} {w : World} (p' : Program) (w' : World) {es : List DictEntry} {kvs : List (Key × Value)} (h : Pairs (mixKind p w) es kvs) : Pairs (mixKind p' w') es kvs := by
  induction h with
  | nil => exact .nil
  | cons h1 h2 h3 ih => exact .cons h1 h2 ih
theorem dictOf_int {p : Program} {w : World} (p' : Program) (w' : World) {h : Heap} {a : Addr} {kvs : List (Key × Value)} (d : h.DictOf (mixKind p w) a kvs) (hi : ∀ kv ∈ kvs, ∃ i : Int, kv.1 = Sum.inl i) : h.DictOf (mixKind p' w') a kvs := by
  obtain ⟨o, es, ep, h1, h2, h3, hk, hp, hn⟩ := d
  refine ⟨o, es, ep, h1, h2, h3, fun e he => ?_, pairs_to p' w' hp, hn⟩
  obtain ⟨k, e1, e2⟩ := hk e he
  obtain ⟨kv, m, e3⟩ := pairs_mem hp e (Array.mem_toList_iff.mpr he)
  obtain ⟨i, e4⟩ := hi kv m
  obtain rfl : k = kv.1 := (mixKind p w).inj _ _ _ e1 e3
  refine ⟨kv.1, e1, ?_⟩
  rw [e2]
  show keyH w kv.1 = keyH w' kv.1
  rw [e4]
  rfl
variable {X : Cx}
def rNeMap : R2 := fun x y H Q => ∃ (p q a b : Addr) (t : Str) (L : List (Int × Int)), x = .ref p ∧ y = .ref q ∧ H p = some (.tup [.str t, .ref a]) ∧ H q = some (.tup [.str t, .ref b]) ∧ H a = some (.dK (L.map kII)) ∧ H b = some (.dK (L.map kII)) ∧ (L.map (·.1)).Nodup ∧ Q (.bl false) H
theorem op_neMap (hu : X.A.units + 64 < cLine) : OpR X (compareOp .NotEq) rNeMap := by
  intro pins s σ H x y v u Q I rx ry h
  obtain ⟨p, q, a, b, t, L, rfl, rfl, hp, hq, ha, hb, nd, k⟩ := h
  obtain rfl : v = Value.ref p := rx
  obtain rfl : u = Value.ref q := ry
  obtain ⟨_, i1, r1, o1, g1, c1, n1, d1⟩ := (show ObjOk X.prog X.w H s.heap p (.tup [.str t, .ref a]) from I.hok p _ hp)
  obtain ⟨_, i2, r2, o2, g2, c2, n2, d2⟩ := (show ObjOk X.prog X.w H s.heap q (.tup [.str t, .ref b]) from I.hok q _ hq)
  obtain ⟨u1, u2, rfl, ru1, ru2⟩ := vals2 r1
  obtain ⟨w1, w2, rfl, rw1, rw2⟩ := vals2 r2
  obtain rfl : u2 = Value.ref a := ru2
  obtain rfl : w2 = Value.ref b := rw2
  obtain ⟨_, ya, va, ra, da⟩ := (show ObjOk X.prog X.w H s.heap a (.dK (L.map kII)) from I.hok a _ ha)
  obtain ⟨_, yb, vb, rb, db⟩ := (show ObjOk X.prog X.w H s.heap b (.dK (L.map kII)) from I.hok b _ hb)
  have hl : va.length = vb.length := ra.length.symm.trans rb.length
  have hI : ∀ {vs : List (Key × Value)}, KV (L.map kII) vs → ∀ kv ∈ vs, ∃ i : Int, kv.1 = Sum.inl i := fun {vs} r kv hkv => by
    have e := r.keys
    have hm : kv.1 ∈ vs.map (·.1) := List.mem_map.mpr ⟨kv, hkv, rfl⟩
    rw [← e, List.map_map] at hm
    obtain ⟨z, _, ez⟩ := List.mem_map.mp hm
    exact ⟨z.1, ez.symm⟩
  have ndk : ((L.map kII).map (·.1)).Nodup := by
    rw [List.map_map]
    have e : L.map ((fun z : Key × V => z.1) ∘ kII) = (L.map (·.1)).map Sum.inl := by rw [List.map_map]; rfl
    rw [e]
    exact nd.map (f := Sum.inl) fun x y h e => h (Sum.inl.inj e)
  have eD : ∀ (A : Around), A.units + 2 < cLine → SeqAt.EqAt A s (.ref a) (.ref b) true := fun A hA => by
    by_cases e : a = b
    · subst e
      exact SeqAt.EqAt.same _
    · refine SeqAt.EqAt.of_refs e fun prog w E Q' hq' => ?_
      refine PySem.W.keq_eq (knd := mixKind prog w) (r := true) ya yb (dictOf_int prog w da (hI ra)) (dictOf_int prog w db (hI rb)) (by omega) (fun _ => hits_all rb ra fun z hz => ⟨val_nodup ndk z hz, ?_⟩) (by simpa [hl] using hq')
      obtain ⟨y', _, rfl⟩ := List.mem_map.mp hz
      rfl
  refine SeqAt.RcNeAt.tuples (e := fun _ => true) ⟨o1, g1, c1, n1, d1⟩ ⟨o2, g2, c2, n2, d2⟩ (by omega) (fun j h1 h2 => ?_) X.prog X.w _ _ ?_
  · have h1 : j < 2 := h1
    match j, h1 with
    | 0, _ => exact eqAt_same ru1 rw1 rfl
    | 1, _ => exact eD _ (by show X.A.units + 1 + 2 < cLine; omega)
  · exact ⟨.bl false, H, I, rfl, k⟩
end NEMAP
def top (i : Nat) : Stmt := PySem.Challenge.pw_uponboth_k82_whole_composed_homomorphism.main.body.getD i (.Pass ⟨0, 0, 0, 0⟩)
structure Blt (mg : Str → Option Value) : Prop where
  len : mg "len" = none
  list : mg "list" = none
  tuple : mg "tuple" = none
  dict : mg "dict" = none
  bool : mg "bool" = none
  isinstance : mg "isinstance" = none
  max : mg "max" = none
  min : mg "min" = none
  range : mg "range" = none
  all : mg "all" = none
  sorted : mg "sorted" = none
  enumerate : mg "enumerate" = none
  sum : mg "sum" = none
  str : mg "str" = none
  int : mg "int" = none
/-- the state of the draws: a list of ints, a place, a rest, a seed -/
def Rng (H : Hp) (r : Addr) : Prop := ∃ (c : Addr) (ns : List Int) (i b s : Int), H r = some (.lst [.ref c, .int i, .int b, .int s]) ∧ H c = some (.lst (ns.map V.int)) ∧ c ≠ r ∧ 0 ≤ i ∧ 0 ≤ b ∧ 0 ≤ s ∧ s < 2147483647
theorem Rng.lst {H : Hp} {r : Addr} (h : Rng H r) : ∃ ys, H r = some (.lst ys) := by
  obtain ⟨c, ns, i, b, s, h, _⟩ := h
  exact ⟨_, h⟩
theorem Rng.same {H H' : Hp} {r : Addr} (e : Same H H') (h : Rng H r) : Rng H' r := by
  obtain ⟨c, ns, i, b, s, h1, h2, h3⟩ := h
  exact ⟨c, ns, i, b, s, e _ _ h1, e _ _ h2, h3⟩
theorem cut63 {ns : List Int} : cutV (ns.map V.int) none (some 63) = (ns.take 63).map V.int := by
  unfold cutV
  rw [HT.sIx_none, show HT.sIx (ns.map V.int).length (ns.map V.int).length (some 63) = min 63 (ns.map V.int).length from HT.sIx_nat _ _ 63]
  rw [List.drop_zero, Nat.sub_zero, List.map_take]
  rcases Nat.le_total 63 (ns.map V.int).length with h | h
  · rw [Nat.min_eq_left h]
  · rw [Nat.min_eq_right h, List.take_of_length_le (Nat.le_refl _), List.take_of_length_le h]
def spDraws (K : PySem.W.Frag) : Sp := fun vs H Q _ => ∃ (a : Addr) (ns : List Int), vs = [.ref a] ∧ SqL K H a (ns.map V.int) ∧ ∀ (r : Addr) (H' : Hp), Same H H' → H r = none → Rng H' r → Q (.ref r) H'
def spDraw : Sp := fun vs H Q _ => ∃ (r : Addr) (n : Int), vs = [.ref r, .int n] ∧ Rng H r ∧ 0 < n ∧ n < 1073741824 ∧ ∀ (v : Int) (H' : Hp), 0 ≤ v → v < n → Rng H' r → But r H H' → Q (.int v) H'
theorem fn_none {P : Program} {w : World} {K : PySem.W.Frag} {mg : Str → Option Value} {base : Heap} {f : Addr} {fd : FuncData} {CX : CXT} {ps : List Str} {sp : Sp} {k : Nat} (no : ∀ vs H Q E, ¬ sp vs H Q E) : FnOk P w K mg base CX k f fd ps sp :=
  ⟨fun vs H Q E h => absurd h (no vs H Q E), fun A outer s H args us vs Q E _ _ _ _ h => absurd h (no vs H Q E)⟩
def spTerm (K : PySem.W.Frag) (n : Nat) : Sp := fun vs H Q _ => ∃ (r : Addr) (many : Int) (k : Nat), k < n ∧ vs = [.ref r, .int many, .int (2 ^ k)] ∧ k ≤ 6 ∧ 1 ≤ many ∧ many ≤ 2 ^ k ∧ Rng H r ∧
  ∀ (v : V) (t : Tree) (H' : Hp), TA K H' v t → (t.sz : Int) = many → t.dp ≤ k → Rng H' r → But r H H' → Q v H'
def spComb (K : PySem.W.Frag) : Sp := fun vs H Q _ => ∃ (m : Int) (b : Bool), vs = [.int m, .bl b] ∧ 1 ≤ m ∧ m ≤ 40 ∧
  ∀ (v : V) (t : Tree) (H' : Hp), TA K H' v t → (t.sz : Int) = m → (t.dp : Int) = m - 1 → Same H H' → Q v H'
def spAny (K : PySem.W.Frag) : Sp := fun vs H Q _ => ∃ (r : Addr) (top : Int), vs = [.ref r, .int top] ∧ 1 ≤ top ∧ top ≤ 64 ∧ Rng H r ∧
  ∀ (v : V) (t : Tree) (H' : Hp), TA K H' v t → (t.sz : Int) ≤ top → t.dp ≤ 6 → Rng H' r → But r H H' → Q v H'
/-- a def over one tree that gives g of it and makes nothing that stays -/
def spTree (K : PySem.W.Frag) (g : Tree → V) (n : Nat) : Sp := fun vs H Q _ => ∃ (v : V) (t : Tree), vs = [v] ∧ TA K H v t ∧ t.dp < n ∧ n ≤ 40 ∧ ∀ H', Same H H' → Q (g t) H'
theorem spTree_no {K : PySem.W.Frag} {g : Tree → V} : ∀ vs H Q E, ¬ spTree K g 0 vs H Q E := fun vs H Q E h => by
  obtain ⟨v, t, _, _, h, _⟩ := h
  omega
def spIsPair (K : PySem.W.Frag) : Sp := fun vs H Q _ => ∃ (v : V) (t : Tree), vs = [v] ∧ TA K H v t ∧ Q (.bl (!t.isL)) H
def spOkTerm (K : PySem.W.Frag) (g : V) : Sp := fun vs H Q _ => ∃ (v : V) (t : Tree), vs = [v] ∧ TA K H v t ∧ t.sz ≤ 12 ∧ t.dp ≤ 6 ∧ ∀ H', Same H H' → Q g H'
/-- an item of the pile: a term and how deep it stands -/
def Item (K : PySem.W.Frag) (H : Hp) (p : V × Tree × Nat) : Prop := ∃ (a : Addr) (u : V), p.1 = .ref a ∧ SqT K H a [u, .int p.2.2] ∧ TA K H u p.2.1 ∧ p.2.2 + p.2.1.dp ≤ 6
theorem Item.mono {K : PySem.W.Frag} {H H' : Hp} (e : Tp H H') {p : V × Tree × Nat} (h : Item K H p) : Item K H' p := by
  obtain ⟨a, u, h1, h2, h3, h4⟩ := h
  exact ⟨a, u, h1, e.sqT h2, ta_mono e h3, h4⟩
def szs (ps : List (V × Tree × Nat)) : Nat := (ps.map fun p => p.2.1.sz).sum
def nds (ps : List (V × Tree × Nat)) : Nat := (ps.map fun p => p.2.1.nodes).sum
theorem szs_snoc (ps : List (V × Tree × Nat)) (p) : szs (ps ++ [p]) = szs ps + p.2.1.sz := by
  unfold szs
  rw [List.map_append, List.sum_append]
  simp
theorem nds_snoc (ps : List (V × Tree × Nat)) (p) : nds (ps ++ [p]) = nds ps + p.2.1.nodes := by
  unfold nds
  rw [List.map_append, List.sum_append]
  simp
theorem szs_len : ∀ ps : List (V × Tree × Nat), ps.length ≤ szs ps
  | [] => Nat.zero_le _
  | p :: ps => by
    have h := szs_len ps
    have h2 := p.2.1.sz_pos
    show ps.length + 1 ≤ (p.2.1.sz :: ps.map fun p => p.2.1.sz).sum
    rw [List.sum_cons]
    unfold szs at h
    omega
structure Cst (mg : Str → Option Value) : Prop where
  MAX_SIZE : ∃ t, mg "MAX_SIZE" = some (.int 12 t)
  MAX_DEPTH : ∃ t, mg "MAX_DEPTH" = some (.int 6 t)
def spOkTree (K : PySem.W.Frag) (g : Tree → V) : Sp := fun vs H Q _ => ∃ (v : V) (t : Tree), vs = [v] ∧ TA K H v t ∧ t.sz ≤ 12 ∧ t.dp ≤ 6 ∧ ∀ H', Same H H' → Q (g t) H'
def Tree.spine : Tree → List Tree
  | .L => [.L]
  | .N l r => .N l r :: l.spine
def spSpine (K : PySem.W.Frag) : Sp := fun vs H Q _ => ∃ (v : V) (t : Tree), vs = [v] ∧ TA K H v t ∧ t.sz ≤ 12 ∧ t.dp ≤ 6 ∧ ∀ (p : Addr) (vs : List V) (H' : Hp), Same H H' → H p = none → H' p = some (.lst vs) → DpAll K H' vs (t.spine.map Tree.d) → Q (.ref p) H'
theorem dpAll_snoc {K : PySem.W.Frag} {H : Hp} : ∀ {vs : List V} {ds : List PyData} {v : V} {d : PyData}, DpAll K H vs ds → Dp K H v d → DpAll K H (vs ++ [v]) (ds ++ [d])
  | _, _, _, _, .nil, h => .cons h .nil
  | _, _, _, _, .cons h1 h2, h => .cons h1 (dpAll_snoc h2 h)
theorem dpAll_len {K : PySem.W.Frag} {H : Hp} : ∀ {vs : List V} {ds : List PyData}, DpAll K H vs ds → vs.length = ds.length
  | _, _, .nil => rfl
  | _, _, .cons _ h2 => congrArg (· + 1) (dpAll_len h2)
theorem dpAll_at {K : PySem.W.Frag} {H : Hp} : ∀ {vs : List V} {ds : List PyData}, DpAll K H vs ds → ∀ (i : Nat) (d : PyData), ds[i]? = some d → ∃ v, vs[i]? = some v ∧ Dp K H v d
  | _, _, .nil, i, d, e => by simp at e
  | _, _, .cons h1 h2, 0, d, e => ⟨_, rfl, by cases e; exact h1⟩
  | _, _, .cons h1 h2, i + 1, d, e => dpAll_at h2 i d e
theorem dpAll_tp {K : PySem.W.Frag} {H H' : Hp} (e : Tp H H') : ∀ {ts : List Tree} {vs : List V}, DpAll K H vs (ts.map Tree.d) → DpAll K H' vs (ts.map Tree.d)
  | [], _, h => by
    cases h
    exact .nil
  | t :: ts, _, h => by
    cases h with
    | cons h1 h2 => exact .cons (ta_mono e h1) (dpAll_tp e h2)
theorem Tree.spine_len : ∀ t : Tree, t.spine.length ≤ t.dp + 1
  | .L => Nat.le_refl _
  | .N l r => by
    have h := spine_len l
    show l.spine.length + 1 ≤ max l.dp r.dp + 1 + 1
    omega
theorem Tree.spine_mem : ∀ {t u : Tree}, u ∈ t.spine → u.dp ≤ t.dp
  | .L, u, h => by
    cases List.mem_singleton.mp h
    exact Nat.le_refl _
  | .N l r, u, h => by
    rcases List.mem_cons.mp h with e | h
    · rw [e]
      exact Nat.le_refl _
    · have h2 := spine_mem h
      show u.dp ≤ max l.dp r.dp + 1
      omega
theorem Tree.spine_self : ∀ t : Tree, t ∈ t.spine
  | .L => List.mem_singleton.mpr rfl
  | .N _ _ => List.mem_cons_self
/-- the walk down the left: at p stands the list of what was met, its last one is still to be looked at -/
def Spn (K : PySem.W.Frag) (H H' : Hp) (p : Addr) (t : Tree) (m : Nat) : Prop := ∃ (vs : List V) (u : V) (ts : List Tree) (t' : Tree), Same H H' ∧ H' p = some (.lst (vs ++ [u])) ∧ DpAll K H' vs (ts.map Tree.d) ∧ TA K H' u t' ∧ ts ++ t'.spine = t.spine ∧ m = t'.nodes
theorem Spn.dp {t t' : Tree} {ts : List Tree} (et : ts ++ t'.spine = t.spine) (hd : t.dp ≤ 6) : t'.dp ≤ 63 := by
  have h : t' ∈ t.spine := by
    rw [← et]
    exact List.mem_append_right _ t'.spine_self
  have := Tree.spine_mem h
  omega
theorem Spn.lt {K : PySem.W.Frag} {H' : Hp} {vs : List V} {u : V} {t t' : Tree} {ts : List Tree} (hA : DpAll K H' vs (ts.map Tree.d)) (et : ts ++ t'.spine = t.spine) (hd : t.dp ≤ 6) : (vs ++ [u]).length < sizeLine := by
  have h1 := dpAll_len hA
  have h2 := congrArg List.length et
  have h3 := t.spine_len
  rw [List.length_map] at h1
  rw [List.length_append] at h2
  rw [List.length_append, List.length_singleton]
  exact small1000 (by omega)
theorem Spn.next {K : PySem.W.Frag} {H H' : Hp} {p p5 b : Addr} {vs : List V} {x1 x2 : V} {t l r : Tree} {ts : List Tree} (hp0 : H p = none) (sm : Same H H') (s5 : Same H' (upd H' p5 (.tup []))) (hl : H' p = some (.lst (vs ++ [.ref b]))) (hA : DpAll K H' vs (ts.map Tree.d)) (hS : SqT K H' b [x1, x2]) (hL : TA K H' x1 l) (hR : TA K H' x2 r)
    (et : ts ++ (Tree.N l r).spine = t.spine) : Spn K H (upd (upd H' p5 (.tup [])) p (.lst ((vs ++ [.ref b]) ++ [x1]))) p t l.nodes := by
  have tp : Tp H' (upd (upd H' p5 (.tup [])) p (.lst ((vs ++ [.ref b]) ++ [x1]))) := (Tp.same s5).trans (Tp.but (s5 _ _ hl) But.set)
  refine ⟨vs ++ [.ref b], x1, ts ++ [.N l r], l, fun c o e => ?_, upd_same, ?_, ta_mono tp hL, ?_, rfl⟩
  · rw [upd_ne (ne_of_none e hp0)]
    exact s5 _ _ (sm _ _ e)
  · rw [List.map_append]
    exact dpAll_snoc (dpAll_tp tp hA) (ta_node (tp.sqT hS) (ta_mono tp hL) (ta_mono tp hR))
  · rw [List.append_assoc]
    exact et
/-! ### data and their built-in types -/
def tn : PyData → String
  | .none => "NoneType"
  | .bool _ => "bool"
  | .int _ => "int"
  | .str _ => "str"
  | .list _ => "list"
  | .tuple _ => "tuple"
  | .dict _ => "dict"
def isT : PyData → Bool
  | .tuple _ => true
  | _ => false
def isLs : PyData → Bool
  | .list _ => true
  | _ => false
def isB : PyData → Bool
  | .bool _ => true
  | _ => false
theorem dp_ty {K : PySem.W.Frag} {H : Hp} {x : V} {d : PyData} (h : Dp K H x d) : TyX K H x (.type (tn d)) := by
  cases h with
  | non => exact .base .non
  | bl b => exact .base (.bl b)
  | int i => exact .base (.int i)
  | str z => exact .base (.str z)
  | lst hs _ => exact tyx_lst hs
  | tup hs _ => exact tyx_tup hs
theorem kit_dict {K : PySem.W.Frag} {H : Hp} {x : V} {d : PyData} (h : Dp K H x d) : PySem.W.kitOne K (.type (tn d)) (.type "dict") = some false := by
  cases h with
  | non => exact kit_ty (show kitB "NoneType" "dict" = some false by decide +kernel)
  | bl _ => exact kit_ty (show kitB "bool" "dict" = some false by decide +kernel)
  | int _ => exact kit_ty (show kitB "int" "dict" = some false by decide +kernel)
  | str _ => exact kit_ty (show kitB "str" "dict" = some false by decide +kernel)
  | lst _ _ => exact kit_ty (show kitB "list" "dict" = some false by decide +kernel)
  | tup _ _ => exact kit_ty (show kitB "tuple" "dict" = some false by decide +kernel)
theorem kit_tuple {K : PySem.W.Frag} {H : Hp} {x : V} {d : PyData} (h : Dp K H x d) : PySem.W.kitOne K (.type (tn d)) (.type "tuple") = some (isT d) := by
  cases h with
  | non => exact kit_ty (show kitB "NoneType" "tuple" = some false by decide +kernel)
  | bl _ => exact kit_ty (show kitB "bool" "tuple" = some false by decide +kernel)
  | int _ => exact kit_ty (show kitB "int" "tuple" = some false by decide +kernel)
  | str _ => exact kit_ty (show kitB "str" "tuple" = some false by decide +kernel)
  | lst _ _ => exact kit_ty (show kitB "list" "tuple" = some false by decide +kernel)
  | tup _ _ => exact kit_ty (show kitB "tuple" "tuple" = some true by decide +kernel)
theorem kit_list {K : PySem.W.Frag} {H : Hp} {x : V} {d : PyData} (h : Dp K H x d) : PySem.W.kitOne K (.type (tn d)) (.type "list") = some (isLs d) := by
  cases h with
  | non => exact kit_ty (show kitB "NoneType" "list" = some false by decide +kernel)
  | bl _ => exact kit_ty (show kitB "bool" "list" = some false by decide +kernel)
  | int _ => exact kit_ty (show kitB "int" "list" = some false by decide +kernel)
  | str _ => exact kit_ty (show kitB "str" "list" = some false by decide +kernel)
  | lst _ _ => exact kit_ty (show kitB "list" "list" = some true by decide +kernel)
  | tup _ _ => exact kit_ty (show kitB "tuple" "list" = some false by decide +kernel)
theorem kit_bool {K : PySem.W.Frag} {H : Hp} {x : V} {d : PyData} (h : Dp K H x d) : PySem.W.kitOne K (.type (tn d)) (.type "bool") = some (isB d) := by
  cases h with
  | non => exact kit_ty (show kitB "NoneType" "bool" = some false by decide +kernel)
  | bl _ => exact kit_ty (show kitB "bool" "bool" = some true by decide +kernel)
  | int _ => exact kit_ty (show kitB "int" "bool" = some false by decide +kernel)
  | str _ => exact kit_ty (show kitB "str" "bool" = some false by decide +kernel)
  | lst _ _ => exact kit_ty (show kitB "list" "bool" = some false by decide +kernel)
  | tup _ _ => exact kit_ty (show kitB "tuple" "bool" = some false by decide +kernel)
theorem kit_seq {K : PySem.W.Frag} {H : Hp} {x : V} {d : PyData} (h : Dp K H x d) : PySem.W.kitAny K (.type (tn d)) [.type "tuple", .type "list"] = some (isT d || isLs d) := by
  refine kitAny_cons (kit_tuple h) (fun e => kitAny_cons (kit_list h) (fun e2 => ?_) (fun e2 => ?_)) (fun e => ?_)
  · rw [e, e2]
    exact kitAny_nil
  · rw [e, e2]
    rfl
  · rw [e]
    rfl
mutual
/-- no list or tuple in it is longer than 1000 -/
def wide : PyData → Bool
  | .list xs | .tuple xs => decide (xs.length ≤ 1000) && wideAll xs
  | .none | .bool _ | .int _ | .str _ | .dict _ => true
def wideAll : List PyData → Bool
  | [] => true
  | x :: xs => wide x && wideAll xs
end
/-- two data that are the same are told to be the same -/
def spSame (K : PySem.W.Frag) (n : Nat) : Sp := fun vs H Q _ => ∃ (x y : V) (d : PyData), vs = [x, y] ∧ Dp K H x d ∧ Dp K H y d ∧ SeqAt.shaped d = true ∧ d.depth < n ∧ wide d = true ∧ ∀ H', Same H H' → Q (.bl true) H'
theorem shaped_at {ds : List PyData} {d : PyData} (hc : PyData.canLayAll0 ds = true) (hm : d ∈ ds) : d.canLay0 = true := by
  induction ds with
  | nil => cases hm
  | cons a r ih =>
    have h' : a.canLay0 = true ∧ PyData.canLayAll0 r = true := by simpa [PyData.canLayAll0] using hc
    rcases List.mem_cons.mp hm with e | hm
    · rw [e]
      exact h'.1
    · exact ih h'.2 hm
theorem depth_at {ds : List PyData} {d : PyData} (hm : d ∈ ds) : d.depth ≤ PyData.depthAll ds := by
  induction ds with
  | nil => cases hm
  | cons a r ih =>
    show d.depth ≤ max a.depth (PyData.depthAll r)
    rcases List.mem_cons.mp hm with e | hm
    · rw [e]
      omega
    · have := ih hm
      omega
theorem wide_at {ds : List PyData} {d : PyData} (hc : wideAll ds = true) (hm : d ∈ ds) : wide d = true := by
  induction ds with
  | nil => cases hm
  | cons a r ih =>
    have h' : wide a = true ∧ wideAll r = true := by simpa [wideAll] using hc
    rcases List.mem_cons.mp hm with e | hm
    · rw [e]
      exact h'.1
    · exact ih h'.2 hm
theorem all_rep : ∀ n : Nat, (List.replicate n true).all id = true
  | 0 => rfl
  | n + 1 => all_rep n
def spLaw (K : PySem.W.Frag) : Sp := fun vs H Q _ => ∃ (a : Addr) (ns : List Int), vs = [.ref a] ∧ SqL K H a (ns.map V.int) ∧ ∀ H', Q (.bl true) H'
/-! ### texts of trees -/
namespace Tree
def cs : Tree → List Nat
  | L => [120]
  | N l r => 40 :: (l.cs ++ (r.cs ++ [41]))
def txt (t : Tree) : Str := ⟨t.cs.toArray⟩
theorem cs_len : ∀ t : Tree, t.cs.length + 2 = 3 * t.sz
  | L => rfl
  | N l r => by
    have h1 := cs_len l
    have h2 := cs_len r
    show (40 :: (l.cs ++ (r.cs ++ [41]))).length + 2 = 3 * (l.sz + r.sz)
    rw [List.length_cons, List.length_append, List.length_append, List.length_singleton]
    omega
theorem txt_len (t : Tree) : t.txt.length = t.cs.length := by
  show t.cs.toArray.size = _
  simp
theorem txtN (l r : Tree) : (((Str.ofString "(" ++ l.txt) ++ r.txt) ++ Str.ofString ")") = (N l r).txt := by
  show (⟨((#[40] ++ l.cs.toArray) ++ r.cs.toArray) ++ #[41]⟩ : Str) = ⟨(40 :: (l.cs ++ (r.cs ++ [41]))).toArray⟩
  congr 1
  apply Array.toList_inj.mp
  simp
theorem txtL : Str.ofString "x" = L.txt := rfl
end Tree
def spText (K : PySem.W.Frag) (n : Nat) : Sp := fun vs H Q _ => ∃ (v : V) (t : Tree), vs = [v] ∧ TA K H v t ∧ t.dp < n ∧ n ≤ 40 ∧ t.sz ≤ 1000 ∧ ∀ H', Same H H' → Q (.str t.txt) H'
theorem spText_no {K : PySem.W.Frag} : ∀ vs H Q E, ¬ spText K 0 vs H Q E := fun vs H Q E h => by
  obtain ⟨v, t, _, _, h, _⟩ := h
  omega
theorem fits {n : Nat} (h : n ≤ 10000) : n ≤ sizeLine := Nat.le_trans h (by decide)
/-- the reader's pile: the lists of operands that are open, the innermost first -/
def room (ts : List Tree) (rest : List (List Tree)) : Nat := if rest.length = 0 then 1 else 2
def stp : List (List Tree) → Nat → Option (List (List Tree))
  | [], _ => none
  | ts :: rest, c => if c = 120 then (if ts.length < room ts rest then some ((ts ++ [.L]) :: rest) else none)
    else if c = 40 then (if ts.length < room ts rest then some ([] :: ts :: rest) else none)
    else if c = 41 then (match ts, rest with
      | [a, b], us :: more => some ((us ++ [.N a b]) :: more)
      | _, _ => none)
    else none
theorem stp_x (ts : List Tree) (rest : List (List Tree)) : stp (ts :: rest) 120 = if ts.length < room ts rest then some ((ts ++ [.L]) :: rest) else none := rfl
theorem stp_o (ts : List Tree) (rest : List (List Tree)) : stp (ts :: rest) 40 = if ts.length < room ts rest then some ([] :: ts :: rest) else none := rfl
theorem stp_c (ts : List Tree) (rest : List (List Tree)) : stp (ts :: rest) 41 = (match ts, rest with
      | [a, b], us :: more => some ((us ++ [.N a b]) :: more)
      | _, _ => none) := rfl
theorem stp_else (ts : List Tree) (rest : List (List Tree)) {c : Nat} (h1 : c ≠ 120) (h2 : c ≠ 40) (h3 : c ≠ 41) : stp (ts :: rest) c = none := by
  show (if c = 120 then _ else if c = 40 then _ else if c = 41 then _ else none) = none
  rw [if_neg h1, if_neg h2, if_neg h3]
def rn : List (List Tree) → List Nat → Option (List (List Tree))
  | st, [] => some st
  | st, c :: cs => (stp st c).bind fun st' => rn st' cs
theorem rn_tree : ∀ (t : Tree) (ts : List Tree) (rest : List (List Tree)) (more : List Nat), ts.length < room ts rest → rn (ts :: rest) (t.cs ++ more) = rn ((ts ++ [t]) :: rest) more
  | .L, ts, rest, more, h => by
    show (stp (ts :: rest) 120).bind (fun st' => rn st' more) = _
    rw [stp_x, if_pos h]
    rfl
  | .N l r, ts, rest, more, h => by
    have e : (Tree.N l r).cs ++ more = 40 :: (l.cs ++ (r.cs ++ (41 :: more))) := by
      show (40 :: (l.cs ++ (r.cs ++ [41]))) ++ more = _
      simp
    rw [e]
    show (stp (ts :: rest) 40).bind (fun st' => rn st' (l.cs ++ (r.cs ++ (41 :: more)))) = _
    have e1 : stp (ts :: rest) 40 = some ([] :: ts :: rest) := by
      rw [stp_o, if_pos h]
    rw [e1]
    show rn ([] :: ts :: rest) (l.cs ++ (r.cs ++ (41 :: more))) = _
    rw [rn_tree l [] (ts :: rest) _ (by show 0 < if (ts :: rest).length = 0 then 1 else 2; rw [if_neg (by simp)]; decide)]
    rw [rn_tree r _ (ts :: rest) _ (by show 1 < if (ts :: rest).length = 0 then 1 else 2; rw [if_neg (by simp)]; decide)]
    rfl
theorem rn_all (t : Tree) : rn [[]] t.cs = some [[t]] := by
  have h := rn_tree t [] [] [] (by decide)
  rw [List.append_nil] at h
  rw [h]
  rfl
theorem tlen {t : Tree} (h : t.sz ≤ 1000) : t.txt.length ≤ 3000 := by
  have h1 := t.cs_len
  have h2 := t.txt_len
  omega
theorem slen (a b : Str) : (a ++ b).length = a.length + b.length := by
  show (a.cps ++ b.cps).size = a.cps.size + b.cps.size
  simp
def spOkText (K : PySem.W.Frag) : Sp := fun vs H Q _ => ∃ (v : V) (t : Tree), vs = [v] ∧ TA K H v t ∧ t.sz ≤ 12 ∧ t.dp ≤ 6 ∧ ∀ H', Same H H' → Q (.str t.txt) H'
def spRoom : Sp := fun vs H Q _ => ∃ (p a : Addr) (as : List Addr) (ws : List V), vs = [.ref p] ∧ H p = some (.lst ((as ++ [a]).map V.ref)) ∧ H a = some (.lst ws) ∧ as.length ≤ 10000 ∧ ws.length ≤ 10000 ∧ Q (.bl (decide ((ws.length : Int) < if as.length = 0 then 1 else 2))) H
/-- reading the text of a tree gives the tree -/
def spRead (K : PySem.W.Frag) : Sp := fun vs H Q _ => ∃ t : Tree, vs = [.str t.txt] ∧ t.sz ≤ 1000 ∧ ∀ (v : V) (H' : Hp), TA K H' v t → Same H H' → Q v H'
def spParse (K : PySem.W.Frag) : Sp := fun vs H Q _ => ∃ t : Tree, vs = [.str t.txt] ∧ t.sz ≤ 12 ∧ t.dp ≤ 6 ∧ ∀ (v : V) (H' : Hp), TA K H' v t → Same H H' → Q v H'
inductive Pile (K : PySem.W.Frag) (G : Hp) : List Addr → List (List Tree) → Prop
  | nil : Pile K G [] []
  | cons {a : Addr} {vs : List V} {ts : List Tree} {as : List Addr} {st : List (List Tree)} : G a = some (.lst vs) → DpAll K G vs (ts.map Tree.d) → Pile K G as st → Pile K G (a :: as) (ts :: st)
theorem Pile.mono {K : PySem.W.Frag} {G G' : Hp} (tp : Tp G G') : ∀ {as : List Addr} {st : List (List Tree)}, (∀ a ∈ as, ∀ o, G a = some o → G' a = some o) → Pile K G as st → Pile K G' as st
  | _, _, _, .nil => .nil
  | _, _, k, .cons h1 h2 h3 => .cons (k _ List.mem_cons_self _ h1) (dpAll_tp tp h2) (Pile.mono tp (fun a ha => k a (List.mem_cons_of_mem _ ha)) h3)
/-- the pile at p, all of it new since H -/
def PileAt (K : PySem.W.Frag) (H G : Hp) (p : Addr) (st : List (List Tree)) : Prop := ∃ as : List Addr, G p = some (.lst (as.reverse.map V.ref)) ∧ as.Nodup ∧ p ∉ as ∧ H p = none ∧ (∀ a ∈ as, H a = none) ∧ Pile K G as st
theorem cs_small : ∀ (t : Tree) (c : Nat), c ∈ t.cs → c < 128
  | .L, c, h => by
    rw [List.mem_singleton.mp h]
    decide
  | .N l r, c, h => by
    have h : c ∈ 40 :: (l.cs ++ (r.cs ++ [41])) := h
    rcases List.mem_cons.mp h with e | h
    · rw [e]
      decide
    rcases List.mem_append.mp h with h | h
    · exact cs_small l c h
    rcases List.mem_append.mp h with h | h
    · exact cs_small r c h
    · rw [List.mem_singleton.mp h]
      decide
theorem txt_ok (t : Tree) : PyData.strOk t.txt = true := by
  show t.cs.toArray.all (· < 0x110000) = true
  rw [Array.all_eq_true']
  intro c hc
  have h := cs_small t c (by simpa using hc)
  exact decide_eq_true (by omega)
/-! ### the twenty errors of the law's words -/
def enames : List Str := ["InvalidTerm", "InvalidText", "InvalidPath", "PathNotFound", "NotRewritable", "TooLarge", "InvalidSize", "InvalidIndex", "InvalidWord", "InvalidStep", "InvalidElement", "InvalidModel", "NestingTooDeep", "InvalidLabel", "DuplicateName", "UnknownName", "LimitReached", "InvalidCommand", "EmptyHistory", "InvalidSnapshot"]
def en (i : Nat) : Str := enames.getD i ""
/-- where their classes stand -/
def Errs (mg : Str → Option Value) (cl : Nat → Addr) : Prop := ∀ i, i < 20 → mg (en i) = some (.ref (cl i))
/-- D's word is the j-th -/
structure Isw (K : PySem.W.Frag) (cl : Nat → Addr) (D : Addr) (j : Nat) : Prop where
  lt : j < 20
  kit : ∀ i, i < 20 → PySem.W.kitOne K (.ref D) (.ref (cl i)) = some (decide (i = j))
/-- the state between two rows: a list of n pairs -/
def NmI (H0 : Hp) (xh : Addr) (j n : Nat) (σ : L2.St) (H : Hp) : Prop := ∃ (L : Addr) (ps : List Addr), σ = [some (.ref xh), some (.ref L), none, none] ∧ Same H0 H ∧ ps.length = n ∧ H L = some (.lst (ps.map V.ref)) ∧
  ∀ i p, ps[i]? = some p → H p = some (.tup [.str (en i), .bl (decide (i = j))])
def tIs (K : PySem.W.Frag) (D xh c : Addr) : TE := fun σ H Q => tCons (tVar 0) (tCons (tC (.ref c)) tNil) σ H fun vs H1 => rIsB K D xh vs H1 Q
def tPr (K : PySem.W.Frag) (D xh : Addr) (cl : Nat → Addr) (i : Nat) : TE := tTup (tCons (tC (.str (en i))) (tCons (tIs K D xh (cl i)) tNil))
theorem tPr_ok {K : PySem.W.Frag} {D xh : Addr} {cl : Nat → Addr} {i j : Nat} {σ : L2.St} {H : Hp} {Q : VK} (hj : Isw K cl D j) (hi : i < 20) (e : σ[0]? = some (some (.ref xh))) (q : ∀ p, H p = none → Q (.ref p) (upd H p (.tup [.str (en i), .bl (decide (i = j))]))) : tPr K D xh cl i σ H Q := by
  exact ⟨_, e, _, _, _, rfl, .own _, hj.kit i hi, two_le, q⟩
theorem pairs_new {H0 H : Hp} {xh : Addr} {j n : Nat} {ps : List Addr} {p1 p2 : Addr} (hl : ps.length = n) (hp : ∀ i p, ps[i]? = some p → H p = some (.tup [.str (en i), .bl (decide (i = j))])) (n1 : H p1 = none)
    (n2 : upd H p1 (.tup [.str (en n), .bl (decide (n = j))]) p2 = none) :
    ∀ i p, (ps ++ [p1, p2])[i]? = some p → upd (upd H p1 (.tup [.str (en n), .bl (decide (n = j))])) p2 (.tup [.str (en (n + 1)), .bl (decide (n + 1 = j))]) p = some (.tup [.str (en i), .bl (decide (i = j))]) := by
  intro i p e
  have s1 := Same.new n1 (.tup [.str (en n), .bl (decide (n = j))])
  have s2 := Same.new n2 (.tup [.str (en (n + 1)), .bl (decide (n + 1 = j))])
  rcases Nat.lt_or_ge i ps.length with lt | ge
  · rw [List.getElem?_append_left lt] at e
    exact s2 _ _ (s1 _ _ (hp i p e))
  · rw [List.getElem?_append_right ge] at e
    obtain ⟨k, rfl⟩ : ∃ k, i = n + k := ⟨i - n, by omega⟩
    rw [show n + k - ps.length = k by omega] at e
    match k, e with
    | 0, e => cases e; exact s2 _ _ upd_same
    | 1, e => cases e; exact upd_same
theorem two_pr {K : PySem.W.Frag} {D xh : Addr} {cl : Nat → Addr} {i j : Nat} {σ : L2.St} {H : Hp} {Q : VK} (hj : Isw K cl D j) (hi : i + 1 < 20) (e : σ[0]? = some (some (.ref xh)))
    (q : ∀ p1 p2 L, H p1 = none → upd H p1 (.tup [.str (en i), .bl (decide (i = j))]) p2 = none → upd (upd H p1 (.tup [.str (en i), .bl (decide (i = j))])) p2 (.tup [.str (en (i + 1)), .bl (decide (i + 1 = j))]) L = none →
      Q (.ref L) (upd (upd (upd H p1 (.tup [.str (en i), .bl (decide (i = j))])) p2 (.tup [.str (en (i + 1)), .bl (decide (i + 1 = j))])) L (.lst [.ref p1, .ref p2]))) :
    tLst (tCons (tPr K D xh cl i) (tCons (tPr K D xh cl (i + 1)) tNil)) σ H Q := by
  show tPr K D xh cl i σ H (fun x H1 => tPr K D xh cl (i + 1) σ H1 fun y H2 => [x, y].length ≤ sizeLine ∧ ∀ p, H2 p = none → Q (.ref p) (upd H2 p (.lst [x, y])))
  refine tPr_ok hj (by omega) e fun p1 n1 => ?_
  refine tPr_ok hj hi e fun p2 n2 => ?_
  exact ⟨two_le, fun L nL => q p1 p2 L n1 n2 nL⟩
theorem nm_first {K : PySem.W.Frag} {D xh : Addr} {cl : Nat → Addr} {j : Nat} {H : Hp} {nx : L2.St → Hp → Prop} (hj : Isw K cl D j) (q : ∀ σ' H', NmI H xh j 2 σ' H' → nx σ' H') :
    tLst (tCons (tPr K D xh cl 0) (tCons (tPr K D xh cl 1) tNil)) [some (.ref xh), none, none, none] H fun x H1 => gName 1 x [some (.ref xh), none, none, none] H1 nx := by
  refine two_pr (i := 0) hj (by decide) rfl fun p1 p2 L n1 n2 nL => ?_
  have s3 := Same.new nL (.lst [.ref p1, .ref p2])
  exact q _ _ ⟨L, [p1, p2], rfl, ((Same.new n1 _).trans (Same.new n2 _)).trans s3, rfl, upd_same, fun i p e => s3 _ _ (pairs_new (ps := []) (n := 0) (H0 := H) (xh := xh) rfl (fun i p e => nomatch e) n1 n2 i p e)⟩
theorem nm_step {K : PySem.W.Frag} {D xh : Addr} {cl : Nat → Addr} {j n : Nat} {H0 H : Hp} {σ : L2.St} {nx : L2.St → Hp → Prop} (hj : Isw K cl D j) (hn : n + 1 < 20) (I : NmI H0 xh j n σ H) (q : ∀ σ' H', NmI H0 xh j (n + 2) σ' H' → nx σ' H') :
    tVar 1 σ H fun x H1 => (tLst (tCons (tPr K D xh cl n) (tCons (tPr K D xh cl (n + 1)) tNil))) σ H1 fun y H2 => rCat x y H2 fun z H3 => gName 1 z σ H3 nx := by
  obtain ⟨L, ps, rfl, sm, hl, hL, hp⟩ := I
  refine ⟨_, rfl, ?_⟩
  refine two_pr hj hn rfl fun p1 p2 b n1 n2 nb => ?_
  have s1 := (Same.new n1 (.tup [.str (en n), .bl (decide (n = j))])).trans (Same.new n2 (.tup [.str (en (n + 1)), .bl (decide (n + 1 = j))]))
  have s2 := Same.new nb (.lst [.ref p1, .ref p2])
  refine ⟨L, b, _, _, rfl, rfl, s2 _ _ (s1 _ _ hL), upd_same, ?_, fun r nr => ?_⟩
  · rw [List.length_map, hl]
    have : 100 ≤ sizeLine := by decide
    show n + 2 ≤ sizeLine
    omega
  · have s3 := Same.new nr (.lst (ps.map V.ref ++ [.ref p1, .ref p2]))
    refine q _ _ ⟨r, ps ++ [p1, p2], rfl, ((sm.trans s1).trans s2).trans s3, by rw [List.length_append, hl]; rfl, by rw [upd_same, List.map_append]; rfl, fun i p e => s3 _ _ (s2 _ _ (pairs_new (H0 := H) (xh := xh) hl hp n1 n2 i p e))⟩
theorem pe_no {X : Cx} {e : Expr} : PE X e (fun _ _ _ => False) := ⟨fun _ _ _ _ _ _ h => h.elim⟩
/-- a word without a field -/
def plainErr (j : Nat) : Bool := decide (j < 20) && !([1, 9, 17, 14, 15, 5, 19].contains j)
theorem plain_in3 : ∀ j, j < 20 → plainErr j = true → inV (.str (en j)) [.str (en 1), .str (en 9), .str (en 17)] = false := by decide +kernel
theorem plain_in2 : ∀ j, j < 20 → plainErr j = true → inV (.str (en j)) [.str (en 14), .str (en 15)] = false := by decide +kernel
theorem plain_big : ∀ j, j < 20 → plainErr j = true → decide (V.str (en j) = V.str (en 5)) = false := by decide +kernel
theorem plain_row : ∀ j, j < 20 → plainErr j = true → decide (V.str (en j) = V.str (en 19)) = false := by decide +kernel
theorem plain_lt {j : Nat} (h : plainErr j = true) : j < 20 := by
  unfold plainErr at h
  rw [Bool.and_eq_true] at h
  exact of_decide_eq_true h.1
theorem FnB.mono {P : Program} {w : World} {K : PySem.W.Frag} {mg : Str → Option Value} {base : Heap} {j k : Nat} {f : Addr} {fd : FuncData} {ps : List Str} {sp : Addr → Value → Option Addr → Sp} (F : FnB P w K mg base j f fd ps sp) (h : j ≤ k) : FnB P w K mg base k f fd ps sp :=
  fun A outer s H args us vs Q xh oh hr => F A outer s H args us vs Q xh oh (hr.mono h)
/-- the law's promise, its table empty -/
def spLawT (K : PySem.W.Frag) (Pt : Addr) : Sp := fun vs H Q _ => ∃ (a : Addr) (ns : List Int), vs = [.ref a] ∧ SqL K H a (ns.map V.int) ∧ H Pt = some (.tbl #[]) ∧ ∀ H', Q (.bl true) H'
/-- a def that may raise, with the context told -/
theorem Fun.okN {P : Program} {w : World} {K : PySem.W.Frag} {mg : Str → Option Value} {base : Heap} {x qual : Str} {st : Stmt} {f : Addr} {fd : FuncData} {N ps : List Str} {k : Nat} {sp : Sp} (F : L2.Fun K x qual st f fd) (S : FnScope N ps (defScope st)) (len : ∀ vs H Q E, sp vs H Q E → vs.length = ps.length)
    (hbody : ∀ (cdv : Value) (A : Around) (outer : List Env) (s : Shared) (H : Hp) (vs : List V) (Q : VK) (E : XK), Room k (A.deeper (PyProof.Rows.envOfC qual (defScope st) s.heap.objs.size f cdv)) → sp vs H Q E →
      ∃ t, PSs (cxOf (L2N.CX P w) P w K mg base N qual (defScope st) f cdv A outer s H E) (defBody st) t ∧ t { nx := fun _ H' => Q .non H', rt := Q } (L2.start N vs) H) : FnOk P w K mg base (L2N.CX P w) (k + 1) f fd ps sp := by
  obtain ⟨oc, od, kV, doc, pm, an, cdv, ct, osl, rfl, lk, hcd⟩ := F.ex
  exact fn_of lk hcd S len fun A outer s H vs Q E hr hsp => hbody cdv A outer s H vs Q E hr hsp
/-- what a raise of the class wants -/
structure ErrC (K : PySem.W.Frag) (mg : Str → Option Value) (x : Str) (C : Addr) : Prop where
  q : PySem.W.excIn K C [.type "ValueError", .type "Exception", .type "BaseException", .type "object"] "ValueError.__new__" = true
  g : mg x = some (.ref C)
  k : PySem.W.keepIn K (.ref C) = true
  b : PySem.W.subIn K (.ref C) (.type "BaseException") = some true
  t : PySem.W.typeIn K (.ref C) = some (.type "type")
theorem passF {X : Cx} : Passes (L2N.CX X.prog X.w) X (fun _ _ _ => False) := fun _ _ _ _ _ _ _ ⟨_, _, _, _, _, _, _, _, _, _, _, _, z⟩ => z.elim
theorem passL {X : Cx} {A : Around} {outer : List Env} {s : Shared} {H : Hp} {E : XK} {scope : Scope} {f c : Addr} : Passes (L2N.CX X.prog X.w) (lamCxN X A outer s H E scope f c) E :=
  L2N.passes_call (X := lamCxN X A outer s H E scope f c) (W := fun cls d _ H => E cls d H) (L2N.takes_of rfl rfl rfl rfl) fun _ _ _ _ h => h
theorem fourV {a b c d : V} : ([a, b, c, d] : List V).length ≤ sizeLine := by show 4 ≤ sizeLine; decide
theorem fiveV {a b c d e : V} : ([a, b, c, d, e] : List V).length ≤ sizeLine := by show 5 ≤ sizeLine; decide
theorem tabs_set {T : List (Addr × Str)} {H H' : Hp} {D : Addr} {xs : List V} (t : LamX.Tabs T H) (hD : H D = some (.lst xs)) (e : ∀ b o, b ≠ D → H b = some o → H' b = some o) : LamX.Tabs T H' := fun p hp => by
  obtain ⟨ps, h1, h2, h3⟩ := t p hp
  refine ⟨ps, e _ _ (fun z => by rw [z, hD] at h1; cases h1) h1, h2, fun pos cv ec => ?_⟩
  obtain ⟨c, rfl, hc⟩ := h3 pos cv ec
  exact ⟨c, rfl, e _ _ (fun z => by rw [z, hD] at hc; cases hc) hc⟩
theorem passD {P : Program} {w : World} {K : PySem.W.Frag} {mg : Str → Option Value} {base : Heap} {N : List Str} {q : Str} {sc : Scope} {f : Addr} {cdv : Value} {A : Around} {outer : List Env} {s : Shared} {H : Hp} {E : XK} : Passes (L2N.CX P w) (cxOf (L2N.CX P w) P w K mg base N q sc f cdv A outer s H E) E :=
  L2N.passes_call (X := cxOf (L2N.CX P w) P w K mg base N q sc f cdv A outer s H E) (W := fun cls d _ H => E cls d H) (L2N.takes_of rfl rfl rfl rfl) fun _ _ _ _ h => h
/-! ### nested tuples of any form -/
mutual
def tupD : PyData → Bool
  | .tuple xs => tupL xs
  | .none | .bool _ | .int _ | .str _ | .list _ | .dict _ => false
def tupL : List PyData → Bool
  | [] => true
  | x :: xs => tupD x && tupL xs
end
mutual
def ndD : PyData → Nat
  | .tuple xs => ndL xs + 1
  | .none | .bool _ | .int _ | .str _ | .list _ | .dict _ => 1
def ndL : List PyData → Nat
  | [] => 0
  | x :: xs => ndD x + ndL xs
end
def add2 : Option Nat → Option Nat → Option Nat
  | some a, some b => some (a + b)
  | _, _ => none
theorem add2_none (o : Option Nat) : add2 o none = none := by cases o <;> rfl
theorem add2_assoc (a b c : Option Nat) : add2 (add2 a b) c = add2 a (add2 b c) := by
  cases a <;> cases b <;> cases c <;> first | rfl | exact congrArg some (Nat.add_assoc _ _ _)
theorem add2_zero (a : Option Nat) : add2 a (some 0) = a := by cases a <;> rfl
/-- how many generators, where the depth is at most b -/
def szD : Nat → PyData → Option Nat
  | _, .tuple [] => some 1
  | b + 1, .tuple [x, y] => add2 (szD b x) (szD b y)
  | _, _ => none
def okd (d : PyData) : Bool := match szD 6 d with
  | some n => decide (n ≤ 12)
  | none => false
def isPr : PyData → Bool
  | .tuple [_, _] => true
  | _ => false
def isE : PyData → Bool
  | .tuple [] => true
  | _ => false
theorem eqvE {d : PyData} (h : tupD d = true) : PyData.eqv d (.tuple []) = isE d := by
  cases d with
  | tuple xs => cases xs <;> rfl
  | none => exact absurd h (by decide)
  | bool _ => exact absurd h (by simp [tupD])
  | int _ => exact absurd h (by simp [tupD])
  | str _ => exact absurd h (by simp [tupD])
  | list _ => exact absurd h (by simp [tupD])
  | dict _ => exact absurd h (by simp [tupD])
theorem szD_E (b : Nat) : szD b (.tuple []) = some 1 := by cases b <;> rfl
theorem szD_pr (b : Nat) (x y : PyData) : szD (b + 1) (.tuple [x, y]) = add2 (szD b x) (szD b y) := rfl
theorem szD_bad {b : Nat} {d : PyData} (h1 : isE d = false) (h2 : isPr d = false ∨ b = 0) : szD b d = none := by
  cases d with
  | tuple xs =>
    match xs, b, h1, h2 with
    | [], _, h1, _ => exact absurd h1 (by decide)
    | [x, y], 0, _, _ => rfl
    | [x, y], b + 1, _, .inl h => exact Bool.noConfusion h
    | [x], 0, _, _ => rfl
    | [x], b + 1, _, _ => rfl
    | x :: y :: z :: r, 0, _, _ => rfl
    | x :: y :: z :: r, b + 1, _, _ => rfl
  | none => cases b <;> rfl
  | bool _ => cases b <;> rfl
  | int _ => cases b <;> rfl
  | str _ => cases b <;> rfl
  | list _ => cases b <;> rfl
  | dict _ => cases b <;> rfl
def rem : List (V × PyData × Nat) → Option Nat
  | [] => some 0
  | p :: ps => add2 (szD (6 - p.2.2) p.2.1) (rem ps)
theorem rem_app : ∀ ps qs : List (V × PyData × Nat), rem (ps ++ qs) = add2 (rem ps) (rem qs)
  | [], qs => by
    show rem qs = add2 (some 0) (rem qs)
    cases rem qs with
    | none => rfl
    | some n => exact congrArg some (Nat.zero_add n).symm
  | p :: ps, qs => by
    show add2 (szD (6 - p.2.2) p.2.1) (rem (ps ++ qs)) = add2 (add2 (szD (6 - p.2.2) p.2.1) (rem ps)) (rem qs)
    rw [rem_app ps qs, add2_assoc]
theorem rem_snoc (ps : List (V × PyData × Nat)) (p : V × PyData × Nat) : rem (ps ++ [p]) = add2 (rem ps) (szD (6 - p.2.2) p.2.1) := by
  rw [rem_app]
  show add2 (rem ps) (add2 _ (some 0)) = _
  rw [add2_zero]
def fnl (n : Nat) : Option Nat → Bool
  | some m => decide (n + m ≤ 12)
  | none => false
theorem fnl_one (n : Nat) (o : Option Nat) : fnl n (add2 o (some 1)) = fnl (n + 1) o := by
  cases o with
  | none => rfl
  | some m =>
    show decide (n + (m + 1) ≤ 12) = decide (n + 1 + m ≤ 12)
    rw [show n + (m + 1) = n + 1 + m by omega]
theorem fnl_big {n : Nat} (h : 12 < n) (o : Option Nat) : fnl n o = false := by
  cases o with
  | none => rfl
  | some m => exact decide_eq_false (by omega)
theorem okd_fnl (v : V) (d : PyData) : okd d = fnl 0 (rem [(v, d, 0)]) := by
  show okd d = fnl 0 (add2 (szD 6 d) (some 0))
  rw [add2_zero]
  unfold okd
  cases szD 6 d with
  | none => rfl
  | some n =>
    show decide (n ≤ 12) = decide (0 + n ≤ 12)
    rw [Nat.zero_add]
def ndn (ps : List (V × PyData × Nat)) : Nat := (ps.map fun p => ndD p.2.1).sum
theorem ndn_snoc (ps : List (V × PyData × Nat)) (p) : ndn (ps ++ [p]) = ndn ps + ndD p.2.1 := by
  unfold ndn
  rw [List.map_append, List.sum_append]
  simp
theorem ndD_pos : ∀ d : PyData, 0 < ndD d := by
  intro d
  cases d with
  | tuple xs => exact Nat.succ_pos _
  | none => decide
  | bool _ => exact Nat.one_pos
  | int _ => exact Nat.one_pos
  | str _ => exact Nat.one_pos
  | list _ => exact Nat.one_pos
  | dict _ => exact Nat.one_pos
theorem ndn_len : ∀ ps : List (V × PyData × Nat), ps.length ≤ ndn ps
  | [] => Nat.zero_le _
  | p :: ps => by
    have h := ndn_len ps
    have h2 := ndD_pos p.2.1
    show ps.length + 1 ≤ (ndD p.2.1 :: ps.map fun p => ndD p.2.1).sum
    rw [List.sum_cons]
    unfold ndn at h
    omega
/-- a value that is a nested tuple -/
structure NT (K : PySem.W.Frag) (H : Hp) (v : V) (d : PyData) : Prop where
  dp : Dp K H v d
  tup : tupD d = true
  shp : SeqAt.shaped d = true
mutual
theorem dp_tp {K : PySem.W.Frag} {H H' : Hp} (e : Tp H H') : ∀ (d : PyData) {v : V}, tupD d = true → Dp K H v d → Dp K H' v d
  | .tuple ds, _, t, h => by
    cases h with
    | tup hs ha => exact .tup (e.sqT hs) (dpAll_tpD e ds t ha)
  | .none, _, t, _ => absurd t (by decide)
  | .bool _, _, t, _ => absurd t (by simp [tupD])
  | .int _, _, t, _ => absurd t (by simp [tupD])
  | .str _, _, t, _ => absurd t (by simp [tupD])
  | .list _, _, t, _ => absurd t (by simp [tupD])
  | .dict _, _, t, _ => absurd t (by simp [tupD])
theorem dpAll_tpD {K : PySem.W.Frag} {H H' : Hp} (e : Tp H H') : ∀ (ds : List PyData) {vs : List V}, tupL ds = true → DpAll K H vs ds → DpAll K H' vs ds
  | [], _, _, h => by
    cases h
    exact .nil
  | d :: ds, _, t, h => by
    have t' : tupD d = true ∧ tupL ds = true := Bool.and_eq_true_iff.mp t
    cases h with
    | cons h1 h2 => exact .cons (dp_tp e d t'.1 h1) (dpAll_tpD e ds t'.2 h2)
end
theorem NT.tp {K : PySem.W.Frag} {H H' : Hp} {v : V} {d : PyData} (e : Tp H H') (h : NT K H v d) : NT K H' v d := ⟨dp_tp e d h.tup h.dp, h.tup, h.shp⟩
theorem NT.inv {K : PySem.W.Frag} {H : Hp} {v : V} {d : PyData} (h : NT K H v d) : ∃ a xs ds, v = .ref a ∧ d = .tuple ds ∧ SqT K H a xs ∧ DpAll K H xs ds := by
  obtain ⟨h1, h2, _⟩ := h
  cases h1 with
  | tup hs ha => exact ⟨_, _, _, rfl, rfl, hs, ha⟩
  | non => exact absurd h2 (by decide)
  | bl b => exact absurd h2 (by simp [tupD])
  | int i => exact absurd h2 (by simp [tupD])
  | str z => exact absurd h2 (by simp [tupD])
  | lst _ _ => exact absurd h2 (by simp [tupD])
theorem shaped_sub {ds : List PyData} {d : PyData} (h : SeqAt.shaped (.tuple ds) = true) (hm : d ∈ ds) : SeqAt.shaped d = true := by
  have hc : PyData.canLayAll0 ds = true := SeqAt.canLay_of_shaped h
  have hd := SeqAt.depth_of_shaped h
  have hd' : (PyData.tuple ds).depth = PyData.depthAll ds + 1 := rfl
  have hdi := depth_at hm
  unfold SeqAt.shaped
  rw [shaped_at hc hm, decide_eq_true (by omega)]
  rfl
theorem NT.pr {K : PySem.W.Frag} {H : Hp} {v : V} {d : PyData} (h : NT K H v d) (hp : isPr d = true) : ∃ a x y d1 d2, v = .ref a ∧ d = .tuple [d1, d2] ∧ SqT K H a [x, y] ∧ NT K H x d1 ∧ NT K H y d2 := by
  obtain ⟨a, xs, ds, rfl, rfl, hS, hA⟩ := h.inv
  obtain ⟨d1, d2, rfl⟩ : ∃ d1 d2, ds = [d1, d2] := by
    rcases ds with _ | ⟨d1, _ | ⟨d2, _ | ⟨d3, r⟩⟩⟩
    · exact absurd hp (by simp [isPr])
    · exact absurd hp (by simp [isPr])
    · exact ⟨d1, d2, rfl⟩
    · exact absurd hp (by simp [isPr])
  cases hA with
  | cons h1 h2 =>
    cases h2 with
    | cons h2 h3 =>
      cases h3
      have t : (tupD d1 && (tupD d2 && true)) = true := h.tup
      have t1 := Bool.and_eq_true_iff.mp t
      have t2 := Bool.and_eq_true_iff.mp t1.2
      exact ⟨a, _, _, d1, d2, rfl, rfl, hS, ⟨h1, t1.1, shaped_sub h.shp (by simp)⟩, ⟨h2, t2.1, shaped_sub h.shp (by simp)⟩⟩
theorem tree_tup : ∀ t : Tree, tupD t.d = true
  | .L => rfl
  | .N l r => by
    show (tupD l.d && (tupD r.d && true)) = true
    rw [tree_tup l, tree_tup r]
    rfl
theorem tree_nd : ∀ t : Tree, ndD t.d = t.nodes
  | .L => rfl
  | .N l r => by
    show ndD l.d + (ndD r.d + 0) + 1 = l.nodes + r.nodes + 1
    rw [tree_nd l, tree_nd r]
    omega
theorem tree_nodes : ∀ t : Tree, t.nodes + 1 = 2 * t.sz
  | .L => rfl
  | .N l r => by
    have h1 := tree_nodes l
    have h2 := tree_nodes r
    show l.nodes + r.nodes + 1 + 1 = 2 * (l.sz + r.sz)
    omega
theorem tree_szD : ∀ (t : Tree) (b : Nat), szD b t.d = if t.dp ≤ b then some t.sz else none
  | .L, b => by
    show szD b (.tuple []) = if 0 ≤ b then some 1 else none
    rw [if_pos (Nat.zero_le _)]
    exact szD_E b
  | .N l r, 0 => by
    show none = if max l.dp r.dp + 1 ≤ 0 then some (l.sz + r.sz) else none
    rw [if_neg (by omega)]
  | .N l r, b + 1 => by
    show add2 (szD b l.d) (szD b r.d) = if max l.dp r.dp + 1 ≤ b + 1 then some (l.sz + r.sz) else none
    rw [tree_szD l b, tree_szD r b]
    by_cases h1 : l.dp ≤ b
    · by_cases h2 : r.dp ≤ b
      · rw [if_pos h1, if_pos h2, if_pos (by omega)]
        rfl
      · rw [if_neg h2, add2_none, if_neg (show ¬ (max l.dp r.dp + 1 ≤ b + 1) by omega)]
    · rw [if_neg h1, if_neg (show ¬ (max l.dp r.dp + 1 ≤ b + 1) by omega)]
      rfl
theorem tree_okd (t : Tree) : okd t.d = (decide (t.dp ≤ 6) && decide (t.sz ≤ 12)) := by
  unfold okd
  rw [tree_szD]
  by_cases h : t.dp ≤ 6
  · rw [if_pos h, decide_eq_true h]
    rfl
  · rw [if_neg h, decide_eq_false h]
    rfl
theorem szD_tree : ∀ (b : Nat) (d : PyData) (n : Nat), szD b d = some n → ∃ t : Tree, d = t.d ∧ t.sz = n ∧ t.dp ≤ b := by
  intro b
  induction b with
  | zero =>
    intro d n h
    by_cases e : isE d = true
    · cases d with
      | tuple xs =>
        cases xs with
        | nil => exact ⟨.L, rfl, Option.some.inj h, Nat.zero_le _⟩
        | cons _ _ => exact absurd e (by simp [isE])
      | none => exact absurd e (by simp [isE])
      | bool _ => exact absurd e (by simp [isE])
      | int _ => exact absurd e (by simp [isE])
      | str _ => exact absurd e (by simp [isE])
      | list _ => exact absurd e (by simp [isE])
      | dict _ => exact absurd e (by simp [isE])
    · rw [szD_bad (by simpa using e) (.inr rfl)] at h
      cases h
  | succ b ih =>
    intro d n h
    by_cases e : isE d = true
    · cases d with
      | tuple xs =>
        cases xs with
        | nil => exact ⟨.L, rfl, Option.some.inj h, Nat.zero_le _⟩
        | cons _ _ => exact absurd e (by simp [isE])
      | none => exact absurd e (by simp [isE])
      | bool _ => exact absurd e (by simp [isE])
      | int _ => exact absurd e (by simp [isE])
      | str _ => exact absurd e (by simp [isE])
      | list _ => exact absurd e (by simp [isE])
      | dict _ => exact absurd e (by simp [isE])
    · by_cases e2 : isPr d = true
      · cases d with
        | tuple xs =>
          match xs, e2, h with
          | [x, y], _, h =>
            have h0 : add2 (szD b x) (szD b y) = some n := h
            clear h
            cases h1 : szD b x with
            | none => rw [h1] at h0; cases h0
            | some m =>
              cases h2 : szD b y with
              | none => rw [h2, add2_none] at h0; cases h0
              | some k =>
                rw [h1, h2] at h0
                have h' : m + k = n := Option.some.inj h0
                obtain ⟨t1, rfl, q1, r1⟩ := ih x m h1
                obtain ⟨t2, rfl, q2, r2⟩ := ih y k h2
                exact ⟨.N t1 t2, rfl, by show t1.sz + t2.sz = n; omega, by show max t1.dp t2.dp + 1 ≤ b + 1; omega⟩
        | none => exact absurd e2 (by simp [isPr])
        | bool _ => exact absurd e2 (by simp [isPr])
        | int _ => exact absurd e2 (by simp [isPr])
        | str _ => exact absurd e2 (by simp [isPr])
        | list _ => exact absurd e2 (by simp [isPr])
        | dict _ => exact absurd e2 (by simp [isPr])
      · rw [szD_bad (by simpa using e) (.inl (by simpa using e2))] at h
        cases h
theorem okd_tree {d : PyData} (h : okd d = true) : ∃ t : Tree, d = t.d ∧ t.sz ≤ 12 ∧ t.dp ≤ 6 := by
  unfold okd at h
  cases e : szD 6 d with
  | none => rw [e] at h; cases h
  | some n =>
    rw [e] at h
    obtain ⟨t, h1, h2, h3⟩ := szD_tree 6 d n e
    exact ⟨t, h1, by rw [h2]; exact of_decide_eq_true h, h3⟩
theorem NT.of {K : PySem.W.Frag} {H : Hp} {v : V} {t : Tree} (h : TA K H v t) (hd : t.dp ≤ 63) : NT K H v t.d := ⟨h, tree_tup t, Tree.shaped hd⟩
def spIsPairD (K : PySem.W.Frag) : Sp := fun vs H Q _ => ∃ (v : V) (d : PyData), vs = [v] ∧ NT K H v d ∧ Q (.bl (isPr d)) H
def spIsTerm (K : PySem.W.Frag) : Sp := fun vs H Q _ => ∃ (v : V) (d : PyData), vs = [v] ∧ NT K H v d ∧ ndD d ≤ 1000 ∧ ∀ H', Same H H' → Q (.bl (okd d)) H'
/-- check_term: nothing, or the error -/
def spChk (K : PySem.W.Frag) (C : Addr) : Sp := fun vs H Q E => ∃ (v : V) (d : PyData), vs = [v] ∧ NT K H v d ∧ ndD d ≤ 1000 ∧ (okd d = true → ∀ H', Same H H' → Q .non H') ∧ (okd d = false → ∀ H', Same H H' → E (.ref C) none H')
def ItemD (K : PySem.W.Frag) (H : Hp) (p : V × PyData × Nat) : Prop := ∃ (a : Addr) (u : V), p.1 = .ref a ∧ SqT K H a [u, .int p.2.2] ∧ NT K H u p.2.1 ∧ p.2.2 ≤ 6
theorem ItemD.mono {K : PySem.W.Frag} {H H' : Hp} (e : Tp H H') {p : V × PyData × Nat} (h : ItemD K H p) : ItemD K H' p := by
  obtain ⟨a, u, h1, h2, h3, h4⟩ := h
  exact ⟨a, u, h1, e.sqT h2, h3.tp e, h4⟩
/-! ### picking -/
theorem But.sqL {K : PySem.W.Frag} {r l : Addr} {H H' : Hp} {xs : List V} (e : But r H H') (n : l ≠ r) (h : SqL K H l xs) : SqL K H' l xs := by
  rcases h with (h | ⟨o, h⟩) | h
  · exact .inl (.inl (e _ _ n h))
  · exact .inl (.inr ⟨o, e _ _ n h⟩)
  · exact .inr h
theorem But.sqT {K : PySem.W.Frag} {r l : Addr} {H H' : Hp} {xs : List V} (e : But r H H') (n : l ≠ r) (h : SqT K H l xs) : SqT K H' l xs := by
  rcases h with (h | ⟨o, h⟩) | h
  · exact .inl (.inl (e _ _ n h))
  · exact .inl (.inr ⟨o, e _ _ n h⟩)
  · exact .inr h
def spPick (K : PySem.W.Frag) : Sp := fun vs H Q _ => ∃ (r l : Addr) (xs : List V), vs = [.ref r, .ref l] ∧ Rng H r ∧ (SqL K H l xs ∨ SqT K H l xs) ∧ 0 < xs.length ∧ xs.length ≤ 10000 ∧ l ≠ r ∧ ∀ v H', v ∈ xs → Rng H' r → But r H H' → Q v H'
theorem rix_in {K : PySem.W.Frag} {H : Hp} {a : Addr} {xs : List V} {n : Int} {Q : VK} (h : SqL K H a xs ∨ SqT K H a xs) (h0 : 0 ≤ n) (h1 : n < xs.length) (q : ∀ v, v ∈ xs → Q v H) : rIx K (.ref a) (.int n) H Q := by
  have lt : n.toNat < xs.length := by omega
  obtain ⟨v, hi⟩ : ∃ v, xs[n.toNat]? = some v := ⟨_, List.getElem?_eq_getElem lt⟩
  have hq := q v (List.mem_of_getElem? hi)
  have e : atI xs n = some v := by
    have e : n = ((n.toNat : Nat) : Int) := by omega
    rw [e]
    exact atI_nat hi
  rcases h with h | h
  · exact .inl ⟨a, xs, n, v, rfl, rfl, h, e, hq⟩
  · exact .inr (.inl ⟨a, xs, n, v, rfl, rfl, h, e, hq⟩)
/-! ### written nested tuples -/
def Mk (K : PySem.W.Frag) (te : TE) (d : PyData) : Prop := ∀ σ H (Q : VK), (∀ v H', Same H H' → Dp K H' v d → Q v H') → te σ H Q
theorem mk0 {K : PySem.W.Frag} : Mk K (tTup tNil) (.tuple []) := fun σ H Q q => ⟨zero_le', fun p np => q _ _ (Same.new np _) (Dp.tup (SqT.here upd_same) .nil)⟩
theorem mk1 {K : PySem.W.Frag} {e : TE} {d : PyData} (h : Mk K e d) : Mk K (tTup (tCons e tNil)) (.tuple [d]) := fun σ H Q q =>
  h σ H _ fun v H1 s1 h1 => ⟨one_le, fun p np => q _ _ (s1.trans (Same.new np _)) (Dp.tup (SqT.here upd_same) (.cons (dp_same (Same.new np _) _ h1) .nil))⟩
theorem mk2 {K : PySem.W.Frag} {e1 e2 : TE} {d1 d2 : PyData} (h : Mk K e1 d1) (h' : Mk K e2 d2) : Mk K (tTup (tCons e1 (tCons e2 tNil))) (.tuple [d1, d2]) := fun σ H Q q =>
  h σ H _ fun v H1 s1 h1 => h' σ H1 _ fun v2 H2 s2 h2 => ⟨two_le, fun p np => q _ _ ((s1.trans s2).trans (Same.new np _)) (Dp.tup (SqT.here upd_same) (.cons (dp_same (s2.trans (Same.new np _)) _ h1) (.cons (dp_same (Same.new np _) _ h2) .nil)))⟩
theorem mk3 {K : PySem.W.Frag} {e1 e2 e3 : TE} {d1 d2 d3 : PyData} (h : Mk K e1 d1) (h' : Mk K e2 d2) (h'' : Mk K e3 d3) : Mk K (tTup (tCons e1 (tCons e2 (tCons e3 tNil)))) (.tuple [d1, d2, d3]) := fun σ H Q q =>
  h σ H _ fun v H1 s1 h1 => h' σ H1 _ fun v2 H2 s2 h2 => h'' σ H2 _ fun v3 H3 s3 h3 => ⟨by show 3 ≤ sizeLine; decide, fun p np => q _ _ (((s1.trans s2).trans s3).trans (Same.new np _)) (Dp.tup (SqT.here upd_same) (.cons (dp_same ((s2.trans s3).trans (Same.new np _)) _ h1) (.cons (dp_same (s3.trans (Same.new np _)) _ h2) (.cons (dp_same (Same.new np _) _ h3) .nil))))⟩
theorem lst5 {K : PySem.W.Frag} {e1 e2 e3 e4 e5 : TE} {d1 d2 d3 d4 d5 : PyData} (h1 : Mk K e1 d1) (h2 : Mk K e2 d2) (h3 : Mk K e3 d3) (h4 : Mk K e4 d4) (h5 : Mk K e5 d5) {i : Nat} {B : TS} {D : Ends} {σ : L2.St} {H : Hp}
    (q : ∀ a v1 v2 v3 v4 v5 H', Same H H' → H a = none → H' a = some (.lst [v1, v2, v3, v4, v5]) → DpAll K H' [v1, v2, v3, v4, v5] [d1, d2, d3, d4, d5] → B D (σ.set i (some (.ref a))) H') : tSeq (tAsg (tLst (tCons e1 (tCons e2 (tCons e3 (tCons e4 (tCons e5 tNil)))))) (gName i)) B D σ H :=
  h1 σ H _ fun v1 H1 s1 k1 => h2 σ H1 _ fun v2 H2 s2 k2 => h3 σ H2 _ fun v3 H3 s3 k3 => h4 σ H3 _ fun v4 H4 s4 k4 => h5 σ H4 _ fun v5 H5 s5 k5 => ⟨fiveV, fun a na => by
    have sa := Same.new na (.lst [v1, v2, v3, v4, v5])
    exact q a v1 v2 v3 v4 v5 _ (s1.trans (s2.trans (s3.trans (s4.trans (s5.trans sa))))) ((s1.trans (s2.trans (s3.trans (s4.trans s5)))).free na) upd_same
      (.cons (dp_same (s2.trans (s3.trans (s4.trans (s5.trans sa)))) _ k1) (.cons (dp_same (s3.trans (s4.trans (s5.trans sa))) _ k2) (.cons (dp_same (s4.trans (s5.trans sa)) _ k3) (.cons (dp_same (s5.trans sa) _ k4) (.cons (dp_same sa _ k5) .nil)))))⟩
/-- a value that no term is -/
def BadV (K : PySem.W.Frag) (H : Hp) (v : V) : Prop := ∃ d, NT K H v d ∧ ndD d ≤ 1000 ∧ okd d = false
theorem BadV.tp {K : PySem.W.Frag} {H H' : Hp} {v : V} (e : Tp H H') (h : BadV K H v) : BadV K H' v := by
  obtain ⟨d, h1, h2⟩ := h
  exact ⟨d, h1.tp e, h2⟩
def spBadT (K : PySem.W.Frag) : Sp := fun vs H Q _ => ∃ r : Addr, vs = [.ref r] ∧ Rng H r ∧ ∀ v H', BadV K H' v → Rng H' r → But r H H' → Q v H'
theorem BadV.tree {K : PySem.W.Frag} {H : Hp} {v : V} {t : Tree} (h : TA K H v t) (hd : t.dp ≤ 63) (hz : t.sz ≤ 100) (no : 6 < t.dp ∨ 12 < t.sz) : BadV K H v := by
  have e := tree_nodes t
  refine ⟨t.d, NT.of h hd, by rw [tree_nd]; omega, ?_⟩
  rw [tree_okd]
  rcases no with no | no
  · rw [decide_eq_false (by omega)]
    rfl
  · rw [decide_eq_false (show ¬ t.sz ≤ 12 by omega), Bool.and_false]
section OPN
open PySem.Spec PyProof.Rows
/-! ### t[::-1] -/
section
variable {prog : Program} {w : World} {A : Around} {E : Value → Shared → Prop} {s : Shared}
theorem sliceApplied_rev {sl : Addr} {vs : Value} {n : Nat} {Q : Int × Int × Nat → Shared → Prop} (hs : s.heap.IsSliceOf sl .none .none vs) (ps : IsPart vs (some (-1))) (h : Q ((n : Int) - 1, -1, n) s) : wpAny (model prog w) A (Builtin.Slice.sliceApplied (.ref sl) (pure (n : Int))) Q E s := by
  obtain ⟨os, hos, hcs, hds⟩ := id hs
  unfold Builtin.Slice.sliceApplied Builtin.Slice.sliceFields
  refine wpAny_bind (wpAny_bind (wpAny_field hos hds (x := .none) rfl (wpAny_bind (wpAny_field hos hds (x := .none) rfl (wpAny_bind (wpAny_field hos hds (x := vs) rfl (wpAny_pure ?_)))))))
  refine wpAny_bind (HT.slicePart_ ps ?_)
  show wpAny _ _ (if ((-1 : Int) == 0) = true then _ else _) _ _ s
  rw [if_neg (by decide)]
  refine wpAny_bind (HT.slicePart_ .none (wpAny_bind (HT.slicePart_ .none (wpAny_bind (wpAny_pure ?_)))))
  show wpAny _ _ (pure ((n : Int) - 1, (-1 : Int), Builtin.Slice.slicePlaces ((n : Int) - 1) (-1) (-1))) _ _ s
  have e : Builtin.Slice.slicePlaces ((n : Int) - 1) (-1) (-1) = n := by
    unfold Builtin.Slice.slicePlaces
    have h1 : ¬ ((-1 : Int) > 0) := by decide
    rw [if_neg h1, show (- -1 : Int) = 1 by decide]
    simp only [Int.ediv_one]
    split <;> omega
  rw [e]
  exact wpAny_pure h
theorem pick_rev (xs : Array Value) : ((List.range xs.size).filterMap fun (m : Nat) => xs[(((xs.size : Nat) : Int) - 1 + (m : Int) * -1).toNat]?).toArray = xs.toList.reverse.toArray := by
  congr 1
  rw [← PySem.W.krv_all xs, ← List.filterMap_reverse, ← PySem.W.krv_range, List.filterMap_map]
  have key : ∀ l : List Nat, (∀ m ∈ l, m < xs.size) → l.filterMap (fun (m : Nat) => xs[(((xs.size : Nat) : Int) - 1 + (m : Int) * -1).toNat]?) = l.filterMap ((fun x => xs[x]?) ∘ fun k => xs.size - 1 - k) := by
    intro l
    induction l with
    | nil => intro _; rfl
    | cons a r ih =>
      intro h
      have ha := h a List.mem_cons_self
      rw [List.filterMap_cons, List.filterMap_cons, ih fun m hm => h m (List.mem_cons_of_mem _ hm)]
      have e : (((xs.size : Nat) : Int) - 1 + (a : Int) * -1).toNat = xs.size - 1 - a := by omega
      rw [e]
      rfl
  exact key _ fun m hm => List.mem_range.mp hm
theorem getItem_tuple_rev {t sl : Addr} {items : Array Value} {vs : Value} {Q : Value → Shared → Prop} (ht : IsTup s.heap t items) (hs : s.heap.IsSliceOf sl .none .none vs) (ps : IsPart vs (some (-1)))
    (h : Q (.ref s.heap.objs.size) { s with heap := s.heap.push { cls := .type "tuple", data := .seq items.toList.reverse.toArray } })
    (hsz : items.size ≤ sizeLine) : wpAny (model prog w) A (getItem (.ref t) (.ref sl)) Q E s := by
  have htake : sizeOk (.seq items.toList.reverse.toArray) := by
    show items.toList.reverse.toArray.size ≤ sizeLine
    rw [List.size_toArray, List.length_reverse, Array.length_toList]
    exact hsz
  obtain ⟨os, hos, hcs, hds⟩ := id hs
  have hTs : s.TypeIs (.ref sl) "slice" := ⟨os, hos, hcs⟩
  unfold getItem
  try with_reducible refine wpAny_holding ?_
  first | refine wpAny_bind (wpAny_pure ?_) | skip
  refine wpAny_bind (wpAny_sequenceKey ht.typeIs (by decide) ?_)
  refine wpAny_bind (wpAny_callSpecial?_slot (name := Str.ofString "__getitem__") ht.typeIs PyProof.Rows.slot_tuple_getitem
    (wpAny_call_entry PyProof.Rows.slot_tuple_getitem ht.typeIs entry_tuple_getitem ?_ (args_tuple_getitem _ _)))
  show wpAny _ _ (Builtin.Tuple.tupleItemsOf (.ref t) >>= _) _ _ s
  refine wpAny_bind (tupleItemsOf_ ht ?_)
  refine wpAny_bind (wpAny_typeOf hTs ?_)
  rw [if_pos (by decide)]
  refine wpAny_bind (sliceApplied_rev hs ps ?_)
  have hno : ¬ ((((items.size : Nat) : Int) - 1 == 0 && (-1 : Int) == 1 && items.size == items.size) = true) := by
    intro q
    rw [Bool.and_eq_true, Bool.and_eq_true] at q
    exact absurd q.1.2 (by decide)
  show wpAny _ _ (if (((items.size : Nat) : Int) - 1 == 0 && (-1 : Int) == 1 && items.size == items.size) = true then _ else _) _ _ s
  rw [if_neg hno, pick_rev]
  first
    | exact wpAny_bind (m := Builtin.Tuple.tupleExact _) (wpAny_newObj_type (wpAny_pure ⟨_, rfl, wpAny_pure h⟩) htake)
    | exact wpAny_bind (m := Builtin.Tuple.tupleExact _) (wpAny_newObj_type (wpAny_bind (wpAny_pure (wpAny_pure ⟨_, rfl, wpAny_pure h⟩))) htake)
    | exact wpAny_bind (wpAny_bind (m := Builtin.Tuple.tupleExact _) (wpAny_newObj_type (wpAny_pure (wpAny_pure ⟨_, rfl, wpAny_pure h⟩)) htake))
    | exact wpAny_bind (wpAny_bind (m := Builtin.Tuple.tupleExact _) (wpAny_newObj_type (wpAny_pure ⟨_, rfl, wpAny_pure h⟩) htake))
end
def tRevT (K : PySem.W.Frag) (te : TE) : TE := fun σ H Q => te σ H fun x H1 => ∃ a xs, x = .ref a ∧ SqT K H1 a xs ∧ ∀ p, H1 p = none → Q (.ref p) (upd H1 p (.tup xs.reverse))
theorem pe_revT {X : Cx} {e : Expr} {te : TE} {k : Nat} {p1 p2 p3 pos : Pos} (he : PE X e te) : PE X (.Subscript e (.Slice none none (some (.UnaryOp .USub (.Constant (.int 1) k p1) p2)) p3) pos) (tRevT X.K te) := by
  refine ⟨fun pins s σ H Q I h => ?_⟩
  refine Subscript_ (thn (he.run pins s σ H _ I h) fun v s1 ⟨x, H1, I1, r1, q1⟩ => ?_)
  obtain ⟨a, xs, ex, hx, q⟩ := q1
  subst ex
  cases r1
  have hst : PO X (some (.UnaryOp .USub (.Constant (.int 1) k p1) p2)) (tPart (tUn (rU fun i => .int (-i)) (tC (.int 1)))) := po_some (pe_un un_neg pe_int)
  refine wpAny_Slice (thn (po_none.run pins s1 σ H1 (fun o H2 => o = none ∧ H2 = H1) I1 ⟨rfl, rfl⟩) fun vl s2 ⟨l, H2, I2, pl, el, e2⟩ => ?_)
  subst el e2
  refine thn (po_none.run pins s2 σ H2 (fun o H3 => o = none ∧ H3 = H2) I2 ⟨rfl, rfl⟩) fun vu s3 ⟨u, H3, I3, pu, eu, e3⟩ => ?_
  subst eu e3
  refine thn (hst.run pins s3 σ H3 (fun o H4 => o = some (-1) ∧ H4 = H3) I3 ⟨1, rfl, -1, rfl, rfl, rfl⟩) fun vs s4 ⟨o, H4, I4, ps, eo, e4⟩ => ?_
  subst eo e4
  cases pl
  cases pu
  have I5 : Inv X pins σ H4 { s4 with heap := s4.heap.push { cls := .type "slice", data := .fields #[.none, .none, vs] } } := I4.kept (t' := s4.toks) fun b ob q => Heap.get?_push_of_some _ q
  obtain ⟨its, r, ht, hz⟩ := I5.tuple hx
  have hlen := r.length
  show wpAny (model X.prog X.w) X.A (subscriptTail e (.Slice none none (some (.UnaryOp .USub (.Constant (.int 1) k p1) p2)) p3) (.ref a) (.ref s4.heap.objs.size)) (EP X pins σ Q) X.xe { s4 with heap := s4.heap.push { cls := .type "slice", data := .fields #[.none, .none, vs] } }
  refine tail_any (ops := [.ref a, .ref s4.heap.objs.size]) ht.typeIs (PyProof.Rows.slot_tuple_getitem.lookup) ?_ (by with_unfolding_all rfl)
  refine getItem_tuple_rev ht (Heap.IsSliceOf.new _ .none .none vs) ps ?_ (by rw [List.size_toArray]; omega)
  refine ⟨.ref _, _, I5.laid (t' := s4.toks) (o := .tup xs.reverse) (fun b ob q => Heap.get?_push_of_some _ q) (Nat.le_refl _) ?_, rfl, q _ (I5.hok.fresh (Nat.le_refl _))⟩
  exact ⟨by rw [List.length_reverse]; exact hz, _, r.reverse, IsTup.new _ _⟩
/-! ### comprehensions that map -/
theorem take_snoc {α : Type} {l : List α} {i : Nat} {x : α} (h : l[i]? = some x) : l.take (i + 1) = l.take i ++ [x] := by
  rw [List.take_add_one, h]
  rfl
section
variable {K : PySem.W.Frag} {a : Addr} {xs : List V} {ψ : V → V} {g : TG} {te : TE} {vs : List Nat} {σ : L2.St} {H1 : Hp} {D : Addr} {Qd : Hp → Prop}
theorem lc_mapT (hD : H1 D = none) (hS : SqT K H1 a xs) (hl : xs.length ≤ 10000)
    (hs : ∀ x G (R : V → Hp → Prop), x ∈ xs → Same H1 G → (∀ H4, Same G H4 → R (ψ x) H4) → g x (wipe σ vs) G fun σ2 H2 => wipe σ2 vs = wipe σ vs ∧ te σ2 H2 R)
    (hd : ∀ G, Same H1 G → G D = some (.lst (xs.map ψ)) → Qd G) :
    ∃ W : Nat → Nat → Hp → Prop, (∃ m, W 0 m (upd H1 D (.lst []))) ∧ ∀ i m H, W i m H →
      ((Itt K a).stop i H ∧ Qd H) ∨ ((Itt K a).go i H ∧ ∃ Nx : Hp → Prop, (∀ H', Nx H' → ∃ m', m' < m ∧ W (i + 1) m' H') ∧ ∀ x H', (Itt K a).yld i H x H' → g x (wipe σ vs) H' fun σ2 H2 => wipe σ2 vs = wipe σ vs ∧ tYes σ2 H2 fun b H3 =>
        if b = true then te σ2 H3 fun y H4 => ∃ acc, H4 D = some (.lst acc) ∧ acc.length < sizeLine ∧ Nx (upd H4 D (.lst (acc ++ [y]))) else Nx H3) := by
  refine lc_tup (K := K) (a := a) (xs := xs) (tt := tYes) (fun i G => Same H1 G ∧ G D = some (.lst ((xs.take i).map ψ))) ⟨Same.new hD _, upd_same⟩ (fun i G _ z => (Tp.same z.1).sqT hS) ?_ ?_
  · rintro i x G hi ⟨sm, hl2⟩
    refine hs x G _ (List.mem_of_getElem? hi) sm fun H4 s4 => ⟨_, s4 _ _ hl2, ?_, fun b o z => ?_, ?_⟩
    · have := (List.getElem?_eq_some_iff.mp hi).1
      rw [List.length_map, List.length_take]
      exact Nat.lt_of_lt_of_le (by omega : _ < 10001) (by decide)
    · rw [upd_ne (ne_of_none z hD)]
      exact s4 _ _ (sm _ _ z)
    · rw [upd_same, take_snoc hi, List.map_append]
      rfl
  · rintro G ⟨sm, h⟩
    rw [List.take_of_length_le (Nat.le_refl _)] at h
    exact hd G sm h
theorem lc_mapL (hD : H1 D = none) (hS : SqL K H1 a xs) (hl : xs.length ≤ 10000)
    (hs : ∀ x G (R : V → Hp → Prop), x ∈ xs → Same H1 G → (∀ H4, Same G H4 → R (ψ x) H4) → g x (wipe σ vs) G fun σ2 H2 => wipe σ2 vs = wipe σ vs ∧ te σ2 H2 R)
    (hd : ∀ G, Same H1 G → G D = some (.lst (xs.map ψ)) → Qd G) :
    ∃ W : Nat → Nat → Hp → Prop, (∃ m, W 0 m (upd H1 D (.lst []))) ∧ ∀ i m H, W i m H →
      ((Itl K a).stop i H ∧ Qd H) ∨ ((Itl K a).go i H ∧ ∃ Nx : Hp → Prop, (∀ H', Nx H' → ∃ m', m' < m ∧ W (i + 1) m' H') ∧ ∀ x H', (Itl K a).yld i H x H' → g x (wipe σ vs) H' fun σ2 H2 => wipe σ2 vs = wipe σ vs ∧ tYes σ2 H2 fun b H3 =>
        if b = true then te σ2 H3 fun y H4 => ∃ acc, H4 D = some (.lst acc) ∧ acc.length < sizeLine ∧ Nx (upd H4 D (.lst (acc ++ [y]))) else Nx H3) := by
  refine lc_list (K := K) (a := a) (xs := xs) (tt := tYes) (fun i G => Same H1 G ∧ G D = some (.lst ((xs.take i).map ψ))) ⟨Same.new hD _, upd_same⟩ (fun i G _ z => z.1.seq hS) ?_ ?_
  · rintro i x G hi ⟨sm, hl2⟩
    refine hs x G _ (List.mem_of_getElem? hi) sm fun H4 s4 => ⟨_, s4 _ _ hl2, ?_, fun b o z => ?_, ?_⟩
    · have := (List.getElem?_eq_some_iff.mp hi).1
      rw [List.length_map, List.length_take]
      exact Nat.lt_of_lt_of_le (by omega : _ < 10001) (by decide)
    · rw [upd_ne (ne_of_none z hD)]
      exact s4 _ _ (sm _ _ z)
    · rw [upd_same, take_snoc hi, List.map_append]
      rfl
  · rintro G ⟨sm, h⟩
    rw [List.take_of_length_le (Nat.le_refl _)] at h
    exact hd G sm h
theorem lc_mapRT (hD : H1 D = none) (hS : SqT K H1 a xs) (hl : xs.length ≤ 10000)
    (hs : ∀ x G (R : V → Hp → Prop), x ∈ xs → Same H1 G → (∀ H4, Same G H4 → R (ψ x) H4) → g x (wipe σ vs) G fun σ2 H2 => wipe σ2 vs = wipe σ vs ∧ te σ2 H2 R)
    (hd : ∀ G, Same H1 G → G D = some (.lst (xs.reverse.map ψ)) → Qd G) :
    ∃ W : Nat → Nat → Hp → Prop, (∃ m, W 0 m (upd H1 D (.lst []))) ∧ ∀ i m H, W i m H →
      ((RT.ItvT K a xs.length).stop i H ∧ Qd H) ∨ ((RT.ItvT K a xs.length).go i H ∧ ∃ Nx : Hp → Prop, (∀ H', Nx H' → ∃ m', m' < m ∧ W (i + 1) m' H') ∧ ∀ x H', (RT.ItvT K a xs.length).yld i H x H' → g x (wipe σ vs) H' fun σ2 H2 => wipe σ2 vs = wipe σ vs ∧ tYes σ2 H2 fun b H3 =>
        if b = true then te σ2 H3 fun y H4 => ∃ acc, H4 D = some (.lst acc) ∧ acc.length < sizeLine ∧ Nx (upd H4 D (.lst (acc ++ [y]))) else Nx H3) := by
  refine ⟨fun i m G => m = xs.length - i ∧ i ≤ xs.length ∧ Same H1 G ∧ G D = some (.lst ((xs.reverse.take i).map ψ)), ⟨_, rfl, Nat.zero_le _, Same.new hD _, upd_same⟩, ?_⟩
  rintro i m G ⟨rfl, hi, sm, hl2⟩
  rcases Nat.lt_or_ge i xs.length with lt | ge
  · have hS' := (Tp.same sm).sqT hS
    have lt' : xs.length - 1 - i < xs.length := by omega
    have hx : xs[xs.length - 1 - i]? = some xs[xs.length - 1 - i] := List.getElem?_eq_getElem lt'
    have hr : xs.reverse[i]? = some xs[xs.length - 1 - i] := by rw [List.getElem?_reverse lt]; exact hx
    refine .inr ⟨⟨lt, xs, _, hS', hx⟩, fun G => Same H1 G ∧ G D = some (.lst ((xs.reverse.take (i + 1)).map ψ)), fun H' z => ⟨_, (by omega : xs.length - (i + 1) < xs.length - i), rfl, by omega, z.1, z.2⟩, ?_⟩
    rintro x G' ⟨rfl, hy⟩
    have ex := (hy xs hS').symm.trans hx
    cases ex
    refine hs _ G' _ (List.getElem_mem lt') sm fun H4 s4 => ⟨_, s4 _ _ hl2, ?_, fun b o z => ?_, ?_⟩
    · rw [List.length_map, List.length_take, List.length_reverse]
      exact Nat.lt_of_lt_of_le (by omega : _ < 10001) (by decide)
    · rw [upd_ne (ne_of_none z hD)]
      exact s4 _ _ (sm _ _ z)
    · rw [upd_same, take_snoc hr, List.map_append]
      rfl
  · refine .inl ⟨ge, hd G sm ?_⟩
    rw [hl2, List.take_of_length_le (by rw [List.length_reverse]; exact ge)]
end
/-! ### words -/
def ab (n : Int) : Int := if n < 0 then -n else n
def isLet (n : Int) : Bool := decide (n ≠ 0) && decide (ab n ≤ 40)
def okW (ns : List Int) : Bool := decide (ns.length ≤ 300) && ns.all isLet
def inv (ns : List Int) : List Int := ns.reverse.map fun n => -n
def sgn (m l : Int) : Int := if 0 < l then m else -m
def shf (k : Int) (ns : List Int) : List Int := ns.map fun n => sgn (ab n + k) n
abbrev WT (K : PySem.W.Frag) (H : Hp) (a : Addr) (ns : List Int) : Prop := SqT K H a (ns.map V.int)
theorem cat_ok {K : PySem.W.Frag} {H : Hp} {a b : Addr} {xs ys : List V} {Q : VK} (ha : SqT K H a xs) (hb : SqT K H b ys) (hl : xs.length + ys.length ≤ sizeLine) (q : ∀ p H', Same H H' → SqT K H' p (xs ++ ys) → Q (.ref p) H') : rCatA K (.ref a) (.ref b) H Q := by
  refine ⟨a, b, xs, ys, rfl, rfl, ha, hb, hl, fun e => ?_, fun _ e => ?_, fun _ _ p np => ?_⟩
  · subst e
    exact q b H (Same.refl _) hb
  · subst e
    exact q a H (Same.refl _) (by rw [List.append_nil]; exact ha)
  · exact q p _ (Same.new np _) (SqT.here upd_same)
def vInt : V → Int
  | .int n => n
  | _ => 0
theorem map_int {ψ : Int → V} (ns : List Int) : (ns.map V.int).map (fun v => ψ (vInt v)) = ns.map ψ := by
  rw [List.map_map]
  rfl
theorem mem_int {ns : List Int} {x : V} (h : x ∈ ns.map V.int) : ∃ n, n ∈ ns ∧ x = .int n := by
  obtain ⟨n, h1, h2⟩ := List.mem_map.mp h
  exact ⟨n, h1, h2.symm⟩
def spLet : Sp := fun vs H Q _ => ∃ n : Int, vs = [.int n] ∧ Q (.bl (isLet n)) H
def spAre (K : PySem.W.Frag) : Sp := fun vs H Q _ => ∃ (a : Addr) (ns : List Int), vs = [.ref a] ∧ WT K H a ns ∧ ns.length ≤ 10000 ∧ ∀ H', Same H H' → Q (.bl (ns.all isLet)) H'
def spChkW (K : PySem.W.Frag) (C : Addr) : Sp := fun vs H Q E => ∃ (a : Addr) (ns : List Int), vs = [.ref a] ∧ WT K H a ns ∧ ns.length ≤ 10000 ∧ (okW ns = true → ∀ H', Same H H' → Q .non H') ∧ (okW ns = false → ∀ H', Same H H' → E (.ref C) none H')
/-- a def over one word that gives a new one -/
def spWW (K : PySem.W.Frag) (φ : List Int → List Int) : Sp := fun vs H Q _ => ∃ (a : Addr) (ns : List Int), vs = [.ref a] ∧ WT K H a ns ∧ ns.length ≤ 10000 ∧ ∀ p H', Same H H' → WT K H' p (φ ns) → Q (.ref p) H'
def spSgn : Sp := fun vs H Q _ => ∃ m l : Int, vs = [.int m, .int l] ∧ Q (.int (sgn m l)) H
def spShf (K : PySem.W.Frag) : Sp := fun vs H Q _ => ∃ (a : Addr) (ns : List Int) (k : Int), vs = [.ref a, .int k] ∧ WT K H a ns ∧ ns.length ≤ 10000 ∧ ∀ p H', Same H H' → WT K H' p (shf k ns) → Q (.ref p) H'
/-- inverse: the word, or the error -/
def spInvE (K : PySem.W.Frag) (C : Addr) : Sp := fun vs H Q E => ∃ (a : Addr) (ns : List Int), vs = [.ref a] ∧ WT K H a ns ∧ ns.length ≤ 10000 ∧ (okW ns = true → ∀ p H', Same H H' → WT K H' p (inv ns) → Q (.ref p) H') ∧ (okW ns = false → ∀ H', Same H H' → E (.ref C) none H')
/-- shifted: the word, or the first error -/
def spShfE (K : PySem.W.Frag) (CW CS : Addr) : Sp := fun vs H Q E => ∃ (a : Addr) (ns : List Int) (k : Int), vs = [.ref a, .int k] ∧ WT K H a ns ∧ ns.length ≤ 10000 ∧ (okW ns = true → 0 ≤ k → k ≤ 20 → (shf k ns).all isLet = true → ∀ p H', Same H H' → WT K H' p (shf k ns) → Q (.ref p) H') ∧
  (okW ns = false → ∀ H', Same H H' → E (.ref CW) none H') ∧ (okW ns = true → ¬ (0 ≤ k ∧ k ≤ 20) → ∀ H', Same H H' → E (.ref CS) none H') ∧ (okW ns = true → 0 ≤ k → k ≤ 20 → (shf k ns).all isLet = false → ∀ H', Same H H' → E (.ref CW) none H')
/-- the law's sign, step by sign -/
def lsg (n : Int) : Int := if 0 < n then 1 else -1
theorem shf_law (k n : Int) : n + k * lsg n = sgn (ab n + k) n := by
  unfold lsg sgn ab
  by_cases h : 0 < n
  · rw [if_pos h, if_pos h, if_neg (by omega), Int.mul_one]
  · rw [if_neg h, if_neg h]
    by_cases h2 : n < 0
    · rw [if_pos h2, Int.mul_neg, Int.mul_one]
      omega
    · rw [if_neg h2, Int.mul_neg, Int.mul_one]
      omega
def spSign : Sp := fun vs H Q _ => ∃ n : Int, vs = [.int n] ∧ Q (.int (lsg n)) H
/-- the law's own shift: a step below 2 ^ 64 -/
def spShfL (K : PySem.W.Frag) : Sp := fun vs H Q _ => ∃ (a : Addr) (ns : List Int) (k : Int), vs = [.ref a, .int k] ∧ WT K H a ns ∧ ns.length ≤ 10000 ∧ -1000 ≤ k ∧ k ≤ 1000 ∧ ∀ p H', Same H H' → WT K H' p (shf k ns) → Q (.ref p) H'
theorem shf_len (k : Int) (ns : List Int) : (shf k ns).length = ns.length := by unfold shf; rw [List.length_map]
theorem inv_len (ns : List Int) : (inv ns).length = ns.length := by unfold inv; rw [List.length_map, List.length_reverse]
structure BltW (mg : Str → Option Value) : Prop where
  abs : mg "abs" = none
  reversed : mg "reversed" = none
  any : mg "any" = none
structure CstW (mg : Str → Option Value) : Prop where
  MAX_LETTER : ∃ t, mg "MAX_LETTER" = some (.int 40 t)
  MAX_LETTERS : ∃ t, mg "MAX_LETTERS" = some (.int 300 t)
end OPN
section WDT
def wD (ns : List Int) : PyData := .tuple (ns.map .int)
theorem dp_ints {K : PySem.W.Frag} {H : Hp} : ∀ ns : List Int, DpAll K H (ns.map V.int) (ns.map PyData.int)
  | [] => .nil
  | n :: ns => .cons (.int n) (dp_ints ns)
theorem dp_wt {K : PySem.W.Frag} {H : Hp} {p : Addr} {ns : List Int} (h : WT K H p ns) : Dp K H (.ref p) (wD ns) := Dp.tup h (dp_ints ns)
theorem lay_ints : ∀ ns : List Int, PyData.canLayAll0 (ns.map .int) = true
  | [] => rfl
  | n :: ns => by
    show (PyData.canLay0 (.int n) && PyData.canLayAll0 (ns.map .int)) = true
    rw [lay_ints ns]
    rfl
theorem depth_ints : ∀ ns : List Int, PyData.depthAll (ns.map .int) ≤ 1
  | [] => Nat.zero_le _
  | n :: ns => by
    have h := depth_ints ns
    have e : (PyData.int n).depth ≤ 1 := by first | exact Nat.le_refl _ | exact Nat.zero_le _
    show max (PyData.int n).depth (PyData.depthAll (ns.map .int)) ≤ 1
    omega
theorem wD_depth (ns : List Int) : (wD ns).depth ≤ 2 := by
  have h := depth_ints ns
  show PyData.depthAll (ns.map .int) + 1 ≤ 2
  omega
theorem wD_shaped (ns : List Int) : SeqAt.shaped (wD ns) = true := by
  have h := wD_depth ns
  unfold SeqAt.shaped
  rw [show (wD ns).canLay0 = PyData.canLayAll0 (ns.map .int) from rfl, lay_ints, decide_eq_true (by omega)]
  rfl
theorem wide_ints : ∀ ns : List Int, wideAll (ns.map .int) = true
  | [] => rfl
  | n :: ns => by
    show (wide (.int n) && wideAll (ns.map .int)) = true
    rw [wide_ints ns]
    rfl
theorem wD_wide {ns : List Int} (h : ns.length ≤ 1000) : wide (wD ns) = true := by
  show (decide ((ns.map PyData.int).length ≤ 1000) && wideAll (ns.map .int)) = true
  rw [List.length_map, decide_eq_true h, wide_ints]
  rfl
/-- the same word twice -/
theorem same_w {K : PySem.W.Frag} {H : Hp} {p q : Addr} {ns : List Int} {Q : VK} {E : XK} (h1 : WT K H p ns) (h2 : WT K H q ns) (hl : ns.length ≤ 1000) (k : ∀ H', Same H H' → Q (.bl true) H') : spSame K 12 [.ref p, .ref q] H Q E :=
  ⟨_, _, wD ns, rfl, dp_wt h1, dp_wt h2, wD_shaped ns, by have := wD_depth ns; omega, wD_wide hl, k⟩
theorem ne_w {K : PySem.W.Frag} {H : Hp} {p q : Addr} {ns : List Int} {Q : VK} (h1 : WT K H p ns) (h2 : WT K H q ns) (k : Q (.bl false) H) : rNeD K (.ref p) (.ref q) H Q := by
  refine ⟨wD ns, wD ns, dp_wt h1, dp_wt h2, wD_shaped ns, wD_shaped ns, ?_⟩
  rw [SeqAt.eqv_refl _ (SeqAt.canLay_of_shaped (wD_shaped ns))]
  exact k
theorem eq_w {K : PySem.W.Frag} {H : Hp} {p q : Addr} {ns : List Int} {Q : VK} (h1 : WT K H p ns) (h2 : WT K H q ns) (k : Q (.bl true) H) : rEqD K (.ref p) (.ref q) H Q := by
  refine ⟨wD ns, wD ns, dp_wt h1, dp_wt h2, wD_shaped ns, wD_shaped ns, ?_⟩
  rw [SeqAt.eqv_refl _ (SeqAt.canLay_of_shaped (wD_shaped ns))]
  exact k
end WDT
theorem Tp.extN {H H' : Hp} (e : LamX.ExtN H H') : Tp H H' := fun b xs h => by
  rcases h with h | ⟨o, h⟩
  · exact .inl (e _ _ h (fun _ => by intro y; cases y))
  · exact .inr ⟨o, e _ _ h (fun _ => by intro y; cases y)⟩
theorem Rng.extN {H H' : Hp} {r : Addr} (e : LamX.ExtN H H') (h : Rng H r) : Rng H' r := by
  obtain ⟨c, ns, i, b, s, h1, h2, h3⟩ := h
  exact ⟨c, ns, i, b, s, e _ _ h1 (fun _ => by intro y; cases y), e _ _ h2 (fun _ => by intro y; cases y), h3⟩
theorem tabs1 {Pt : Addr} {q : Str} {H : Hp} (h : H Pt = some (.tbl #[])) : LamX.Tabs [(Pt, q)] H := fun p hp => by
  rw [List.mem_singleton.mp hp]
  exact ⟨#[], h, by trivial, fun _ _ z => (nomatch z)⟩
/-- an error's word and no field -/
def eD (j : Nat) : PyData := .tuple [.str (en j), .none]
theorem eD_shaped : ∀ j < 20, SeqAt.shaped (eD j) = true := by decide +kernel
theorem eq_e {K : PySem.W.Frag} {H : Hp} {p q : Addr} {j : Nat} {Q : VK} (hj : j < 20) (h1 : SqT K H p [.str (en j), .non]) (h2 : SqT K H q [.str (en j), .non]) (k : Q (.bl true) H) : rEqD K (.ref p) (.ref q) H Q := by
  refine ⟨eD j, eD j, Dp.tup h1 (.cons (.str _) (.cons .non .nil)), Dp.tup h2 (.cons (.str _) (.cons .non .nil)), eD_shaped j hj, eD_shaped j hj, ?_⟩
  rw [SeqAt.eqv_refl _ (SeqAt.canLay_of_shaped (eD_shaped j hj))]
  exact k
/-! ### the word of a term -/
def wd : Tree → List Int
  | .L => []
  | .N l r => ((wd l ++ shf 1 (wd r)) ++ [1]) ++ shf 1 (inv (wd l))
def lwd : Tree → List Int
  | .L => []
  | .N l r => ((lwd l ++ shf 1 (lwd r)) ++ [1]) ++ inv (shf 1 (lwd l))
theorem wd_lenN (l r : Tree) : (wd (.N l r)).length = 2 * (wd l).length + (wd r).length + 1 := by
  show (((wd l ++ shf 1 (wd r)) ++ [1]) ++ shf 1 (inv (wd l))).length = _
  rw [List.length_append, List.length_append, List.length_append, shf_len, shf_len, inv_len, List.length_singleton]
  omega
def wtab : List (List Nat) := [[0, 0, 0, 0, 0, 0, 0, 0, 0, 0, 0, 0, 0], [0, 0, 1, 1, 1, 1, 1, 1, 1, 1, 1, 1, 1], [0, 0, 1, 3, 4, 4, 4, 4, 4, 4, 4, 4, 4], [0, 0, 1, 3, 7, 9, 10, 12, 13, 13, 13, 13, 13], [0, 0, 1, 3, 7, 15, 19, 21, 25, 27, 28, 32, 34], [0, 0, 1, 3, 7, 15, 31, 39, 43, 51, 55, 57, 65], [0, 0, 1, 3, 7, 15, 31, 63, 79, 87, 103, 111, 115]]
def wt (d n : Nat) : Nat := (wtab.getD d []).getD n 0
theorem wt_all : ((List.range 6).all fun d => (List.range 12).all fun a => (List.range 12).all fun b => decide (0 < a → 0 < b → a + b ≤ 12 → 2 * wt d a + wt d b + 1 ≤ wt (d + 1) (a + b))) = true := by decide +kernel
theorem wt_step (d : Nat) (hd : d < 6) (a : Nat) (ha : a < 12) (b : Nat) (hb : b < 12) : 0 < a → 0 < b → a + b ≤ 12 → 2 * wt d a + wt d b + 1 ≤ wt (d + 1) (a + b) := by
  have h1 := List.all_eq_true.mp wt_all d (List.mem_range.mpr hd)
  have h2 := List.all_eq_true.mp h1 a (List.mem_range.mpr ha)
  have h3 := List.all_eq_true.mp h2 b (List.mem_range.mpr hb)
  exact of_decide_eq_true h3
theorem wd_tab : ∀ (d : Nat), d ≤ 6 → ∀ t : Tree, t.dp ≤ d → t.sz ≤ 12 → (wd t).length ≤ wt d t.sz
  | d, _, .L, _, _ => Nat.zero_le _
  | 0, _, .N l r, h, _ => absurd (show max l.dp r.dp + 1 ≤ 0 from h) (by omega)
  | d + 1, hd, .N l r, h, hz => by
    have h : max l.dp r.dp + 1 ≤ d + 1 := h
    have hz : l.sz + r.sz ≤ 12 := hz
    have p1 := l.sz_pos
    have p2 := r.sz_pos
    have h1 := wd_tab d (by omega) l (by omega) (by omega)
    have h2 := wd_tab d (by omega) r (by omega) (by omega)
    have h3 := wt_step d (by omega) l.sz (by omega) r.sz (by omega) p1 p2 hz
    rw [wd_lenN]
    show _ ≤ wt (d + 1) (l.sz + r.sz)
    omega
theorem wt_top : ∀ n < 13, wt 6 n ≤ 115 := by decide +kernel
theorem wd_len {t : Tree} (hd : t.dp ≤ 6) (hz : t.sz ≤ 12) : (wd t).length ≤ 115 := Nat.le_trans (wd_tab 6 (Nat.le_refl _) t hd hz) (wt_top _ (by omega))
theorem ab_pos {n : Int} (h : 0 < n) : ab n = n := if_neg (by omega)
theorem ab_neg {n : Int} (h : n < 0) : ab n = -n := if_pos h
theorem shf_let {k n : Int} (hk : 0 ≤ k) (h : n ≠ 0) : sgn (ab n + k) n ≠ 0 ∧ ab (sgn (ab n + k) n) = ab n + k := by
  unfold sgn
  rcases Int.lt_or_gt_of_ne h with h | h
  · rw [if_neg (by omega), ab_neg h, ab_neg (by omega)]
    omega
  · rw [if_pos h, ab_pos h, ab_pos (by omega)]
    omega
theorem inv_let {n : Int} (h : n ≠ 0) : -n ≠ 0 ∧ ab (-n) = ab n := by
  rcases Int.lt_or_gt_of_ne h with h | h
  · rw [ab_neg h, ab_pos (by omega)]
    omega
  · rw [ab_pos h, ab_neg (by omega)]
    omega
/-- every letter is no 0 and at most m -/
def Lets (m : Int) (ns : List Int) : Prop := ∀ n ∈ ns, n ≠ 0 ∧ ab n ≤ m
theorem Lets.mono {m m' : Int} {ns : List Int} (h : m ≤ m') (l : Lets m ns) : Lets m' ns := fun n hn => ⟨(l n hn).1, Int.le_trans (l n hn).2 h⟩
theorem Lets.app {m : Int} {ns ms : List Int} (h1 : Lets m ns) (h2 : Lets m ms) : Lets m (ns ++ ms) := fun n hn => (List.mem_append.mp hn).elim (h1 n) (h2 n)
theorem Lets.shf {m k : Int} (hk : 0 ≤ k) {ns : List Int} (h : Lets m ns) : Lets (m + k) (shf k ns) := fun n hn => by
  obtain ⟨x, hx, rfl⟩ := List.mem_map.mp hn
  have a := h x hx
  have b := shf_let hk a.1
  exact ⟨b.1, by rw [b.2]; omega⟩
theorem Lets.inv {m : Int} {ns : List Int} (h : Lets m ns) : Lets m (inv ns) := fun n hn => by
  obtain ⟨x, hx, rfl⟩ := List.mem_map.mp hn
  have a := h x (List.mem_reverse.mp hx)
  have b := inv_let a.1
  exact ⟨b.1, by rw [b.2]; exact a.2⟩
theorem Lets.all {m : Int} (hm : m ≤ 40) {ns : List Int} (h : Lets m ns) : ns.all isLet = true := by
  rw [List.all_eq_true]
  intro n hn
  have a := h n hn
  unfold isLet
  rw [decide_eq_true a.1, decide_eq_true (by omega)]
  rfl
theorem okW_of {m : Int} (hm : m ≤ 40) {ns : List Int} (h : Lets m ns) (hl : ns.length ≤ 300) : okW ns = true := by
  unfold okW
  rw [decide_eq_true hl, h.all hm]
  rfl
theorem wd_lets : ∀ t : Tree, Lets t.dp (wd t)
  | .L => fun n hn => by cases hn
  | .N l r => by
    have h1 := wd_lets l
    have h2 := wd_lets r
    have e : ((Tree.N l r).dp : Int) = ((max l.dp r.dp + 1 : Nat) : Int) := rfl
    rw [e]
    refine Lets.app (Lets.app (Lets.app (h1.mono (by omega)) ((h2.shf (by omega)).mono (by omega))) ?_) ((h1.inv.shf (by omega)).mono (by omega))
    intro n hn
    rw [List.mem_singleton.mp hn, ab_pos (by decide)]
    exact ⟨by decide, by omega⟩
theorem shf_inv {k : Int} {ns : List Int} (h : ∀ n ∈ ns, n ≠ 0) : inv (shf k ns) = shf k (inv ns) := by
  unfold inv shf
  rw [← List.map_reverse, List.map_map, List.map_map]
  apply List.map_congr_left
  intro n hn
  have h0 := h n (List.mem_reverse.mp hn)
  show -(sgn (ab n + k) n) = sgn (ab (-n) + k) (-n)
  rw [(inv_let h0).2]
  unfold sgn
  rcases Int.lt_or_gt_of_ne h0 with h | h
  · rw [if_neg (by omega), if_pos (by omega)]
    omega
  · rw [if_pos h, if_neg (by omega)]
theorem lwd_eq : ∀ t : Tree, lwd t = wd t
  | .L => rfl
  | .N l r => by
    show ((lwd l ++ shf 1 (lwd r)) ++ [1]) ++ inv (shf 1 (lwd l)) = ((wd l ++ shf 1 (wd r)) ++ [1]) ++ shf 1 (inv (wd l))
    rw [lwd_eq l, lwd_eq r, shf_inv fun n hn => (wd_lets l n hn).1]
def spWd (K : PySem.W.Frag) (g : Tree → List Int) (n : Nat) : Sp := fun vs H Q _ => ∃ (v : V) (t : Tree), vs = [v] ∧ TA K H v t ∧ t.dp < n ∧ t.dp ≤ 6 ∧ t.sz ≤ 12 ∧ ∀ p H', Same H H' → WT K H' p (g t) → Q (.ref p) H'
theorem spWd_no {K : PySem.W.Frag} {g : Tree → List Int} : ∀ vs H Q E, ¬ spWd K g 0 vs H Q E := fun vs H Q E h => by
  obtain ⟨v, t, _, _, h, _⟩ := h
  omega
/-- word_of: the word, or the error -/
def spWordE (K : PySem.W.Frag) (C : Addr) : Sp := fun vs H Q E => ∃ (v : V) (d : PyData), vs = [v] ∧ NT K H v d ∧ ndD d ≤ 1000 ∧ (∀ t : Tree, d = t.d → t.sz ≤ 12 → t.dp ≤ 6 → ∀ p H', Same H H' → WT K H' p (wd t) → Q (.ref p) H') ∧ (okd d = false → ∀ H', Same H H' → E (.ref C) none H')
theorem wfits {a b : List Int} (h : a.length + b.length ≤ 10000) : (a.map V.int).length + (b.map V.int).length ≤ sizeLine := by
  rw [List.length_map, List.length_map]
  exact Nat.le_trans h (by decide)
theorem cat_w {K : PySem.W.Frag} {H : Hp} {a b : Addr} {ns ms : List Int} {Q : VK} (ha : WT K H a ns) (hb : WT K H b ms) (hl : ns.length + ms.length ≤ 10000) (q : ∀ p H', Same H H' → WT K H' p (ns ++ ms) → Q (.ref p) H') : rCatA K (.ref a) (.ref b) H Q :=
  cat_ok ha hb (wfits hl) fun p H' sm h => q p H' sm (by rw [WT, List.map_append]; exact h)
theorem d_inj : ∀ {t u : Tree}, t.d = u.d → t = u
  | .L, .L, _ => rfl
  | .L, .N _ _, h => by
    have h : PyData.tuple [] = .tuple [_, _] := h
    injection h with h
    cases h
  | .N _ _, .L, h => by
    have h : PyData.tuple [_, _] = .tuple [] := h
    injection h with h
    cases h
  | .N l r, .N l' r', h => by
    have h : PyData.tuple [l.d, r.d] = .tuple [l'.d, r'.d] := h
    injection h with h
    injection h with h1 h2
    injection h2 with h2 _
    rw [d_inj h1, d_inj h2]
/-! ### the draws' state, its list of cells named -/
def RngC (H : Hp) (r c : Addr) : Prop := ∃ (ns : List Int) (i b s : Int), H r = some (.lst [.ref c, .int i, .int b, .int s]) ∧ H c = some (.lst (ns.map V.int)) ∧ c ≠ r ∧ 0 ≤ i ∧ 0 ≤ b ∧ 0 ≤ s ∧ s < 2147483647
theorem Rng.toC {H : Hp} {r : Addr} (h : Rng H r) : ∃ c, RngC H r c := by
  obtain ⟨c, h⟩ := h
  exact ⟨c, h⟩
theorem RngC.rng {H : Hp} {r c : Addr} (h : RngC H r c) : Rng H r := ⟨c, h⟩
theorem RngC.keep {H H' : Hp} {r c : Addr} (h : RngC H r c) (e1 : ∀ o, H r = some o → H' r = some o) (e2 : ∀ o, H c = some o → H' c = some o) : RngC H' r c := by
  obtain ⟨ns, i, b, s, h1, h2, h3⟩ := h
  exact ⟨ns, i, b, s, e1 _ h1, e2 _ h2, h3⟩
theorem RngC.same {H H' : Hp} {r c : Addr} (e : Same H H') (h : RngC H r c) : RngC H' r c := h.keep (e _) (e _)
theorem RngC.lst {H : Hp} {r c : Addr} (h : RngC H r c) : ∃ ys, H r = some (.lst ys) := h.rng.lst
theorem RngC.ne {H : Hp} {r c p : Addr} (h : RngC H r c) (e : H p = none) : p ≠ r ∧ p ≠ c := by
  obtain ⟨ns, i, b, s, h1, h2, h3⟩ := h
  refine ⟨fun z => ?_, fun z => ?_⟩
  · rw [z, h1] at e
    cases e
  · rw [z, h2] at e
    cases e
theorem RngC.set {H : Hp} {r c p : Addr} {o : HO} (h : RngC H r c) (n : p ≠ r ∧ p ≠ c) : RngC (upd H p o) r c :=
  h.keep (fun o e => by rw [upd_ne (Ne.symm n.1)]; exact e) (fun o e => by rw [upd_ne (Ne.symm n.2)]; exact e)
theorem RngC.extN {H H' : Hp} {r c : Addr} (e : LamX.ExtN H H') (h : RngC H r c) : RngC H' r c := by
  obtain ⟨ns, i, b, s, h1, h2, h3⟩ := h
  exact ⟨ns, i, b, s, e _ _ h1 (fun _ => by intro y; cases y), e _ _ h2 (fun _ => by intro y; cases y), h3⟩
theorem RngC.tp {H H' : Hp} {r c : Addr} (R : RngC H r c) (b : But r H H') : Tp H H' := by
  obtain ⟨ys, hy⟩ := R.lst
  exact Tp.but hy b
theorem RngC.tabs {T : List (Addr × Str)} {H H' : Hp} {r c : Addr} (R : RngC H r c) (b : But r H H') (t : LamX.Tabs T H) : LamX.Tabs T H' := by
  obtain ⟨ys, hy⟩ := R.lst
  exact tabs_set t hy b
theorem tabs_same {T : List (Addr × Str)} {H H' : Hp} (e : Same H H') (t : LamX.Tabs T H) : LamX.Tabs T H' := fun p hp => by
  obtain ⟨ps, h1, h2, h3⟩ := t p hp
  refine ⟨ps, e _ _ h1, h2, fun pos cv ec => ?_⟩
  obtain ⟨c, rfl, hc⟩ := h3 pos cv ec
  exact ⟨c, rfl, e _ _ hc⟩
def spDrawC : Sp := fun vs H Q _ => ∃ (r : Addr) (n : Int) (c : Addr), vs = [.ref r, .int n] ∧ RngC H r c ∧ 0 < n ∧ n < 1073741824 ∧ ∀ (v : Int) (H' : Hp), 0 ≤ v → v < n → RngC H' r c → But r H H' → Q (.int v) H'
theorem spDraw_C {vs : List V} {H : Hp} {Q : VK} {E : XK} (h : spDraw vs H Q E) : spDrawC vs H Q E := by
  obtain ⟨r, n, rfl, R, h1, h2, q⟩ := h
  obtain ⟨c, R⟩ := R.toC
  exact ⟨r, n, c, rfl, R, h1, h2, fun v H' v0 v1 R' b' => q v H' v0 v1 R'.rng b'⟩
def spPickC (K : PySem.W.Frag) : Sp := fun vs H Q _ => ∃ (r l c : Addr) (xs : List V), vs = [.ref r, .ref l] ∧ RngC H r c ∧ (SqL K H l xs ∨ SqT K H l xs) ∧ 0 < xs.length ∧ xs.length ≤ 10000 ∧ l ≠ r ∧ ∀ v H', v ∈ xs → RngC H' r c → But r H H' → Q v H'
theorem spPick_C {K : PySem.W.Frag} {vs : List V} {H : Hp} {Q : VK} {E : XK} (h : spPick K vs H Q E) : spPickC K vs H Q E := by
  obtain ⟨r, l, xs, rfl, R, h1, h2, h3, h4, q⟩ := h
  obtain ⟨c, R⟩ := R.toC
  exact ⟨r, l, c, xs, rfl, R, h1, h2, h3, h4, fun v H' hv R' b' => q v H' hv R'.rng b'⟩
def spTermC (K : PySem.W.Frag) (n : Nat) : Sp := fun vs H Q _ => ∃ (r : Addr) (many : Int) (k : Nat) (c : Addr), k < n ∧ vs = [.ref r, .int many, .int (2 ^ k)] ∧ k ≤ 6 ∧ 1 ≤ many ∧ many ≤ 2 ^ k ∧ RngC H r c ∧
  ∀ (v : V) (t : Tree) (H' : Hp), TA K H' v t → (t.sz : Int) = many → t.dp ≤ k → RngC H' r c → But r H H' → Q v H'
theorem spTerm_C {K : PySem.W.Frag} {n : Nat} {vs : List V} {H : Hp} {Q : VK} {E : XK} (h : spTerm K n vs H Q E) : spTermC K n vs H Q E := by
  obtain ⟨r, m, k, hk, e, h1, h2, h3, R, q⟩ := h
  obtain ⟨c, R⟩ := R.toC
  exact ⟨r, m, k, c, hk, e, h1, h2, h3, R, fun v t H' a b d R' b' => q v t H' a b d R'.rng b'⟩
def spAnyC (K : PySem.W.Frag) : Sp := fun vs H Q _ => ∃ (r : Addr) (top : Int) (c : Addr), vs = [.ref r, .int top] ∧ 1 ≤ top ∧ top ≤ 64 ∧ RngC H r c ∧
  ∀ (v : V) (t : Tree) (H' : Hp), TA K H' v t → (t.sz : Int) ≤ top → t.dp ≤ 6 → RngC H' r c → But r H H' → Q v H'
theorem spAny_C {K : PySem.W.Frag} {vs : List V} {H : Hp} {Q : VK} {E : XK} (h : spAny K vs H Q E) : spAnyC K vs H Q E := by
  obtain ⟨r, m, e, h1, h2, R, q⟩ := h
  obtain ⟨c, R⟩ := R.toC
  exact ⟨r, m, c, e, h1, h2, R, fun v t H' a b d R' b' => q v t H' a b d R'.rng b'⟩
/-! ### tuple * int, also where the tuple itself is given back -/
section OPR
open PySem.Spec PyProof.Rows
theorem tuple_mul_same (l : Addr) (items : Array Value) (n : Nat) (dd : Option Addr) (sl : Array (Option Value)) (x : Int) (u : Tok) (c0 : (decide (x < -(2 ^ 63)) || decide (x ≥ 2 ^ 63)) = false) (c1 : (items.isEmpty || x == 1) = true) :
    Meets (Builtin.«tuple.__mul__» ⟨[.ref l, .int x u], []⟩) (fun _ R s => s.heap.get? l = some { cls := .type "tuple", dict := dd, data := .seq items n, slots := sl } ∧ R (.ok (.ret (Value.ref l))) { s with heap := s.heap, toks := s.toks }) :=
  .of_wp fun prog w A R s h => by
    obtain ⟨hp, g, d, tk, os⟩ := s
    obtain ⟨hl, h⟩ := h
    have f1 := AutoSeq1.idx_int
    wp_walk using wpAny_loadPart' hl
    repeat (first
      | (refine wpAny_ite_false (decide_eq_false (by rw [c0]; exact Bool.false_ne_true)) ?_; wp_walk using wpAny_loadPart' hl)
      | (refine wpAny_ite_true (decide_eq_true c1) ?_; wp_walk using wpAny_loadPart' hl))
    exact ⟨_, rfl, h⟩
theorem op_repS {X : Cx} : OpR X (binaryOp .Mult) (fun x y H Q => ∃ l k xs, x = .ref l ∧ y = .int k ∧ SqT X.K H l xs ∧ (xs = [] ∨ k = 1) ∧ 1 ≤ k ∧ k ≤ 1000 ∧ Q (.ref l) H) := by
  intro pins s σ H x y v u Q I rx ry h
  obtain ⟨l, k, xs, rfl, rfl, hT, hne, h1, h2, q⟩ := h
  cases rx
  obtain ⟨t, rfl⟩ := ry
  obtain ⟨its, r, ⟨⟨cls, dd, data, sl⟩, ho, hc, n, hd⟩, hs⟩ := I.tuple hT
  simp only at hc hd
  subst hc hd
  have c0 : (decide (k < -(2 ^ 63)) || decide (k ≥ 2 ^ 63)) = false := by
    rw [decide_eq_false (by omega), decide_eq_false (by omega)] <;> rfl
  have c1 : (its.toArray.isEmpty || k == 1) = true := by
    rcases hne with e | e
    · subst e
      cases r
      rfl
    · rw [e]
      simp
  exact wpAny_binaryOp_repeat_ref (T := "tuple") (U := "int") (by decide) ⟨_, ho, rfl⟩ (fun s' => typeIs_int s' k t) noFill_tuple_mul PySem.F.fills_int_mul PySem.F.slot_int_rmul repeat_tuple PySem.F.slot_int_index.lookup
    (call_meets PySem.F.slot_int_rmul (typeIs_int s k t) PySem.F.entry_int_rmul (PySem.F.args_int_rmul_2 _ _) (int_rmul_tuple k t l its.toArray n dd sl)
      ⟨ho, rfl, ⟨_, ho, rfl⟩, call_meets PySem.F.slot_tuple_mul ⟨_, ho, rfl⟩ PySem.F.entry_tuple_mul (PySem.F.args_tuple_mul_2 _ _) (tuple_mul_same l its.toArray n dd sl k t c0 c1) ⟨ho, ⟨.ref l, H, I, rfl, q⟩⟩⟩)
def rRepA (K : PySem.W.Frag) : R2 := fun x y H Q => ∃ l k xs, x = .ref l ∧ y = .int k ∧ SqT K H l xs ∧ 1 ≤ k ∧ k ≤ 1000 ∧ xs.length ≤ 1000 ∧ ∀ p H', Same H H' → SqT K H' p (List.replicate k.toNat xs).flatten → Q (.ref p) H'
theorem op_repA {X : Cx} : OpR X (binaryOp .Mult) (rRepA X.K) := by
  intro pins s σ H x y v u Q I rx ry h
  obtain ⟨l, k, xs, rfl, rfl, hT, h1, h2, hz, q⟩ := h
  by_cases hx : xs = []
  · refine op_repS pins s σ H _ _ v u Q I rx ry ⟨l, k, xs, rfl, rfl, hT, .inl hx, h1, h2, q l H (Same.refl _) ?_⟩
    have e : (List.replicate k.toNat xs).flatten = xs := by
      rw [hx]
      simp
    rw [e]
    exact hT
  · by_cases hk : k = 1
    · refine op_repS pins s σ H _ _ v u Q I rx ry ⟨l, k, xs, rfl, rfl, hT, .inr hk, h1, h2, q l H (Same.refl _) ?_⟩
      have e : (List.replicate k.toNat xs).flatten = xs := by
        rw [hk]
        simp
      rw [e]
      exact hT
    · exact op_repT pins s σ H _ _ v u Q I rx ry ⟨l, k, xs, rfl, rfl, hT, hx, by omega, h2, hz, fun p np => q p _ (Same.new np _) (SqT.here upd_same)⟩
end OPR
/-- a word repeated -/
def repW (k : Int) (ns : List Int) : List Int := (List.replicate k.toNat ns).flatten
theorem repW_map (k : Int) (ns : List Int) : (List.replicate k.toNat (ns.map V.int)).flatten = (repW k ns).map V.int := by
  unfold repW
  rw [List.map_flatten, List.map_replicate]
theorem repW_len (k : Int) (ns : List Int) : (repW k ns).length = k.toNat * ns.length := by
  unfold repW
  rw [List.length_flatten, List.map_replicate, List.sum_replicate_nat]
theorem repW_mem {k : Int} {ns : List Int} {n : Int} (h : n ∈ repW k ns) : n ∈ ns := by
  unfold repW at h
  obtain ⟨l, h1, h2⟩ := List.mem_flatten.mp h
  rw [List.eq_of_mem_replicate h1] at h2
  exact h2
theorem rep_w {K : PySem.W.Frag} {H : Hp} {a : Addr} {ns : List Int} {k : Int} {Q : VK} (ha : WT K H a ns) (h1 : 1 ≤ k) (h2 : k ≤ 1000) (hl : ns.length ≤ 1000) (q : ∀ p H', Same H H' → WT K H' p (repW k ns) → Q (.ref p) H') : rRepA K (.ref a) (.int k) H Q :=
  ⟨a, k, _, rfl, rfl, ha, h1, h2, by rw [List.length_map]; exact hl, fun p H' sm h => q p H' sm (by rw [WT, ← repW_map]; exact h)⟩
/-! ### words that are drawn -/
theorem Tp.rng {r : Addr} {H H' : Hp} (R : Rng H r) (b : But r H H') : Tp H H' := by
  obtain ⟨ys, hy⟩ := R.lst
  exact Tp.but hy b
def spAnyW (K : PySem.W.Frag) : Sp := fun vs H Q _ => ∃ (r : Addr) (top wide : Int) (c : Addr), vs = [.ref r, .int top, .int wide] ∧ 0 ≤ top ∧ top ≤ 1000 ∧ 1 ≤ wide ∧ wide ≤ 1000 ∧ RngC H r c ∧
  ∀ (p : Addr) (ns : List Int) (H' : Hp), WT K H' p ns → (ns.length : Int) ≤ top → Lets wide ns → RngC H' r c → But r H H' → Q (.ref p) H'
def spBadW (K : PySem.W.Frag) : Sp := fun vs H Q _ => ∃ r c : Addr, vs = [.ref r] ∧ RngC H r c ∧ ∀ (p : Addr) (ns : List Int) (H' : Hp), WT K H' p ns → okW ns = false → ns.length ≤ 400 → RngC H' r c → But r H H' → Q (.ref p) H'
theorem okW_mem {ns : List Int} {n : Int} (h : n ∈ ns) (hb : isLet n = false) : okW ns = false := by
  unfold okW
  have : ns.all isLet = false := by
    rw [List.all_eq_false]
    exact ⟨n, h, by rw [hb]; decide⟩
  rw [this, Bool.and_false]
theorem okW_long {ns : List Int} (h : 300 < ns.length) : okW ns = false := by
  unfold okW
  rw [decide_eq_false (by omega)]
  rfl
theorem inv_inv (ns : List Int) : inv (inv ns) = ns := by
  unfold inv
  rw [← List.map_reverse, List.map_map, List.reverse_reverse]
  have e : ((fun n : Int => -n) ∘ fun n => -n) = id := by
    funext n
    exact Int.neg_neg n
  rw [e, List.map_id]
theorem okW_inv {m : Int} (hm : m ≤ 40) {ns : List Int} (h : Lets m ns) (hl : ns.length ≤ 300) : okW (inv ns) = true := okW_of hm h.inv (by rw [inv_len]; exact hl)
theorem shf_all {k : Int} (hk : 0 ≤ k) {ns : List Int} (h : Lets 40 ns) : (shf k ns).all isLet = !(ns.any fun n => decide (40 < ab n + k)) := by
  induction ns with
  | nil => rfl
  | cons n ns ih =>
    have h1 := h n List.mem_cons_self
    have h2 := ih fun x hx => h x (List.mem_cons_of_mem _ hx)
    have h3 := shf_let hk h1.1
    show (isLet (sgn (ab n + k) n) && (shf k ns).all isLet) = !(decide (40 < ab n + k) || ns.any fun n => decide (40 < ab n + k))
    rw [h2, Bool.not_or]
    congr 1
    unfold isLet
    rw [decide_eq_true h3.1, h3.2, Bool.true_and]
    by_cases z : ab n + k ≤ 40
    · rw [decide_eq_true z, decide_eq_false (by omega)]
      rfl
    · rw [decide_eq_false z, decide_eq_true (by omega)]
      rfl
def vD (d : PyData) : PyData := .tuple [.str ("value" : Str), d]
theorem vD_shaped (ns : List Int) : SeqAt.shaped (vD (wD ns)) = true := by
  have h := wD_depth ns
  have hs := wD_shaped ns
  have e1 : (vD (wD ns)).canLay0 = (PyData.canLay0 (.str ("value" : Str)) && (PyData.canLay0 (wD ns) && true)) := rfl
  have e2 : (vD (wD ns)).depth = max (PyData.depth (.str ("value" : Str))) (max (wD ns).depth 0) + 1 := rfl
  have e3 : PyData.depth (.str ("value" : Str)) ≤ 1 := by first | exact Nat.le_refl _ | exact Nat.zero_le _
  unfold SeqAt.shaped
  rw [e1, SeqAt.canLay_of_shaped hs, decide_eq_true (by omega)]
  decide +kernel
theorem vD_wide {ns : List Int} (h : ns.length ≤ 1000) : wide (vD (wD ns)) = true := by
  show (decide (2 ≤ 1000) && (true && (wide (wD ns) && true))) = true
  rw [wD_wide h]
  decide
theorem vD_depth (ns : List Int) : (vD (wD ns)).depth < 12 := by
  have h := wD_depth ns
  have e2 : (vD (wD ns)).depth = max (PyData.depth (.str ("value" : Str))) (max (wD ns).depth 0) + 1 := rfl
  have e3 : PyData.depth (.str ("value" : Str)) ≤ 1 := by first | exact Nat.le_refl _ | exact Nat.zero_le _
  omega
theorem dp_vD {K : PySem.W.Frag} {H : Hp} {q p : Addr} {ns : List Int} (h : SqT K H q [.str ("value" : Str), .ref p]) (w : WT K H p ns) : Dp K H (.ref q) (vD (wD ns)) := Dp.tup h (.cons (.str _) (.cons (dp_wt w) .nil))
theorem dp_eD {K : PySem.W.Frag} {H : Hp} {q : Addr} {j : Nat} (h : SqT K H q [.str (en j), .non]) : Dp K H (.ref q) (eD j) := Dp.tup h (.cons (.str _) (.cons .non .nil))
theorem eD_wide (j : Nat) : wide (eD j) = true := rfl
theorem eD_depth : ∀ j < 20, (eD j).depth < 12 := by decide +kernel
section OPL
open PySem.Spec PyProof.Rows
/-! ### a lambda whose only parameter has a written int for default, and is not read -/
structure LamSD (N : List Str) (sc scope : Scope) : Prop where
  kind : scope.kind = .function
  co : scope.isCoroutine = false
  gen : scope.isGenerator = false
  own : ∀ y ∈ scope.names, y.2 ≠ .cell ∧ (y.2 = .local → y.1 ∉ N)
  free : ∀ y ∈ scope.names, y.2 = .free → sc.names.lookup y.1 = some .cell ∨ sc.names.lookup y.1 = some .free
def lamSDB (N : List Str) (sc scope : Scope) : Bool :=
  decide (scope.kind = .function) && !scope.isCoroutine && !scope.isGenerator && scope.names.all fun y => !decide (y.2 = .cell) && (!decide (y.2 = .local) || !decide (y.1 ∈ N)) && (!decide (y.2 = .free) || decide (sc.names.lookup y.1 = some .cell) || decide (sc.names.lookup y.1 = some .free))
theorem lamSD_by {N : List Str} {sc scope : Scope} (h : lamSDB N sc scope = true) : LamSD N sc scope := by
  unfold lamSDB at h
  simp only [Bool.and_eq_true, Bool.or_eq_true, Bool.not_eq_true', decide_eq_true_eq, decide_eq_false_iff_not, List.all_eq_true] at h
  obtain ⟨⟨⟨h1, h2⟩, h3⟩, h4⟩ := h
  refine ⟨h1, h2, h3, fun y hy => ⟨(h4 y hy).1.1, fun e => ?_⟩, fun y hy e => ?_⟩
  · rcases (h4 y hy).1.2 with z | z
    · exact absurd e z
    · exact z
  · rcases (h4 y hy).2 with (z | z) | z
    · exact absurd e z
    · exact .inl z
    · exact .inr z
theorem LamSD.has {X : Cx} {N : List Str} {scope : Scope} (L : LamSD N X.env.scope scope) (ok : X.Ok) : ∀ y ∈ scope.names, y.2 = .free → ∃ c, X.env.cells.lookup y.1 = some c := fun y hy e => by
  rcases L.free y hy e with k | k
  · exact ok.has _ (.inl k)
  · exact ok.has _ (.inr k)
section
variable {X : Cx} {pins : List (Addr × Obj)} {σ : L2.St} {H HZ : Hp} {s s1 : Shared}
theorem lam_startD {A : Around} {outer : List Env} {E : XK} {scope : Scope} {f c' : Addr} {h₁ : Heap} {tk : Nat} {mb : Str → Option Value} (I : Inv X pins σ H s) (L : LamSD X.N X.env.scope scope) (e0 : Env0 X.prog X.w X.K X.mg X.base A outer s1 HZ) (hd : A.handled = none)
    (un : Un (frs X.stack) [] H HZ s.heap s1.heap) (hns : h₁.Ns s1.heap.objs.size mb) (kp : ∀ b o, s1.heap.get? b = some o → h₁.get? b = some o) :
    Inv (LamX.lamCx X A outer s1 HZ E scope f c') [] σ HZ { s1 with heap := h₁, toks := tk } := by
  have hfree := L.has I.ok
  have cm : ∀ {y c}, (cloFrom X.env.cells scope.names []).lookup y = some c → X.env.cells.lookup y = some c := fun {y c} e => by
    rcases cloFrom_mem (PySem.mem_of_lookup e) with hm | ⟨h1, h2⟩
    · cases hm
    · obtain ⟨c1, hc⟩ := hfree _ h1 rfl
      have hc : X.env.cells.lookup y = some c1 := hc
      have e2 : c = c1 := by
        rw [h2, hc] <;> rfl
      rw [e2]
      exact hc
  have look : ∀ {y}, scope.names.lookup y = some .free → ∃ c, (cloFrom X.env.cells scope.names []).lookup y = some c := fun {y} hl => by
    have hy : (y, NameKind.free) ∈ scope.names := PySem.mem_of_lookup hl
    exact mem_lookup (cloFrom_has (cells := X.env.cells) (acc := []) hy)
  have cellK : ∀ {c : Addr} {v : Option Value}, H c = none → s.heap.IsCell c v → h₁.IsCell c v := fun {c v} n ⟨o, ho, hd⟩ => by
    obtain ⟨sl, q⟩ := un.any ho n (by simp)
    exact ⟨_, kp _ _ q, hd⟩
  have noA : ∀ b : Addr, b ∉ (LamX.lamCx X A outer s1 HZ E scope f c').ex := fun b z => absurd (show b ∈ ([] : List Addr) from z) (by simp)
  refine ⟨⟨e0.mod, L.kind, rfl, rfl, Nat.le_refl _, fun y z c e1 e2 => I.ok.inj y z c (cm e1) (cm e2), fun y hy => ?_, fun y c z _ => ?_, fun _ => hd, Around.frames_deeper e0.frames, .inr ⟨rfl, rfl⟩, fun b z => absurd z (noA b), e0.bs, e0.bsz, fun b _ _ => noA b,
      fun b z => absurd z (noA b), e0.funs, e0.frf⟩,
    rfl, e0.bare, Un.kept kp, ⟨_, hns, fun i y v e1 e2 e3 => ?_⟩, fun y c e => ?_, e0.hok.fresh (Nat.le_refl _), fun y c e => ?_, fun q hq => absurd (show q ∈ ([] : List (Addr × Obj)) ++ [] from hq) (by simp), e0.hok.kept kp, I.len⟩
  · have hy : scope.names.lookup y = some .cell ∨ scope.names.lookup y = some .free := hy
    rcases hy with hy | hy
    · exact absurd rfl (L.own _ (PySem.mem_of_lookup hy)).1
    · exact look hy
  · have z : false = true := z
    cases z
  · have e3 : Vis scope y := e3
    have e1' : X.N[i]? = some y := e1
    rcases e3 with k | k | k
    · exact absurd (List.mem_of_getElem? e1') ((L.own _ (PySem.mem_of_lookup k)).2 rfl)
    · exact absurd rfl (L.own _ (PySem.mem_of_lookup k)).1
    · obtain ⟨m, hn, hl⟩ := I.loc
      have hvis : Vis X.env.scope y := (L.free _ (PySem.mem_of_lookup k) rfl).elim (fun k => .inr (.inl k)) (fun k => .inr (.inr k))
      obtain ⟨w', r, q⟩ := hl i y v e1 e2 hvis
      obtain ⟨c2, h2⟩ := look k
      refine ⟨w', r, .inr ⟨.inr k, c2, h2, ?_⟩⟩
      have c1 := cm h2
      rcases q with ⟨k', _⟩ | ⟨_, c3, e', z⟩
      · have k' : X.env.scope.names.lookup y = some .local := k'
        rcases L.free _ (PySem.mem_of_lookup k) rfl with k2 | k2 <;> rw [show X.env.scope.names.lookup y = _ from k2] at k' <;> cases k'
      · rw [c1] at e'
        cases e'
        exact cellK (I.freeC y _ c1) z
  · obtain ⟨w', z⟩ := I.cell y c (cm e)
    exact ⟨w', cellK (I.freeC y c (cm e)) z⟩
  · obtain ⟨v, o, ho, hd⟩ := I.cell y c (cm e)
    exact un.free c o ho (I.freeC y c (cm e)) (by simp)
theorem lam_makeD {T : List (Addr × Str)} {c P : Addr} {params : Arguments} {body : Expr} {scope : Scope} {pos pz : Pos} {z : Int} {jz : Nat} {Q : Value → Shared → Prop} (I : Inv X pins σ H s) (TB : LamX.TabB X.base X.mg c P) (hcode : X.env.code = .ref c)
    (hm : (P, X.env.qual ++ "<lambda>") ∈ T) (hu : ∀ p ∈ T, p.1 = P → p.2 = X.env.qual ++ "<lambda>") (hT : LamX.Tabs T H) (hd1 : params.defaults = [.Constant (.int z) jz pz]) (hk0 : params.kw_defaults = []) (hfree : ∀ y ∈ scope.names, y.2 = .free → ∃ c, X.env.cells.lookup y.1 = some c)
    (h : ∀ (f c' T0 : Addr) (u doc pm ctv : Value) (H1 : Hp) (s' : Shared), Inv X pins σ H1 s' → LamX.ExtN H H1 → LamX.Tabs T H1 →
      s'.heap.get? f = some (PySem.W.kdv_obj "<lambda>" (X.env.qual ++ "<lambda>") params (.expr body) scope (cloFrom X.env.cells scope.names []) (.ref T0) doc pm c' ctv) → H1 f = none → f ∉ frs X.stack → s'.heap.get? T0 = some (PySem.W.kdv_tup [u]) → H1 T0 = none → T0 ∉ frs X.stack → H1 c' = some (LamX.CodeO c' (X.env.qual ++ "<lambda>")) → Q (.ref f) s') :
    wpAny (model X.prog X.w) X.A (eval (.Lambda params body scope pos) X.env) Q X.xe s := by
  refine PySem.W.kdv_lam (by rw [hd1]; rfl) hk0 ?_
  rw [hd1]
  refine PySem.W.kdv_all1 (thn (pe_int.run pins s σ H (fun v H' => v = .int z ∧ H' = H) I ⟨rfl, rfl⟩) fun u s0 ⟨v, H0, I0, r0, ev, eH⟩ => PySem.W.kdv_all0 ?_)
  subst ev eH
  rw [makeFunction_eq]
  simp only [List.zip_nil_right, List.filterMap_nil, List.isEmpty_nil, if_true, pure_bind, List.isEmpty_cons, Bool.false_eq_true, if_false]
  refine wpAny_bind (wpAny_newTextTuple ?_)
  obtain ⟨ps, hP, ht, ha⟩ := hT _ hm
  have I2 : Inv X pins σ H0 { s0 with heap := s0.heap.push (PySem.W.kdv_tup [u]) } := I0.kept (t' := s0.toks) fun b o e => Heap.get?_push_of_some _ e
  have hT0 : (s0.heap.push (PySem.W.kdv_tup [u])).get? s0.heap.objs.size = some (PySem.W.kdv_tup [u]) := Heap.get?_push_size _ rfl
  have hT0n : H0 s0.heap.objs.size = none := I0.hok.fresh (Nat.le_refl _)
  have bP : (s0.heap.push (PySem.W.kdv_tup [u])).BuiltinsAt X.mg P := TB.bm.keeps I2.bk
  have hP' : (s0.heap.push (PySem.W.kdv_tup [u])).get? P = some { cls := .none, data := .fields ps } := I2.hok P _ hP
  have nofr : ∀ f, s0.heap.objs.size ≤ f → f ∉ frs X.stack := fun f hf z => by
    rcases List.mem_cons.mp (I0.stkSub _ z) with e | e
    · have h1 := I0.lt
      rw [← e] at h1
      exact Nat.lt_irrefl _ (Nat.lt_of_lt_of_le h1 hf)
    · exact I0.nofs hf e
  have sz2 : s0.heap.objs.size ≤ (s0.heap.push (PySem.W.kdv_tup [u])).objs.size := by rw [Heap.size_push]; omega
  have ltT : s0.heap.objs.size < (s0.heap.push (PySem.W.kdv_tup [u])).objs.size := by rw [Heap.size_push]; omega
  have nTP : s0.heap.objs.size ≠ P := fun z => by
    rw [← z, hT0n] at hP
    cases hP
  cases hc : codeAmong pos ps.toList with
  | none =>
    refine PySem.W.kdv_makeTail (s := { s0 with heap := s0.heap.push (PySem.W.kdv_tup [u]) }) (mg := X.mg) (c := c) (P := P) (ps := ps) (closure_ok hfree) I2.ok.glob (I2.mod.glob.keeps I2.bk) hcode (TB.code.keeps I2.bk) hP' ht hc TB.gP bP fun c' ctv doc h' tk hx hge hlt hrec htb => ?_
    obtain ⟨c2, oc, vs, t, e2, hoc, hd, hv⟩ := hrec
    cases e2
    have hsz : (s0.heap.push (PySem.W.kdv_tup [u])).objs.size ≤ h'.objs.size := Nat.le_trans hge (Nat.le_of_lt hlt)
    have nC : H0 c' = none := I2.hok.fresh hge
    have I1 := LamX.inv_table (t' := tk) (more := #[rawInt pos.line, rawInt pos.col, .ref c']) (h' := h'.push (PySem.W.kdv_obj "<lambda>" (X.env.qual ++ "<lambda>") params (.expr body) scope (cloFrom X.env.cells scope.names []) (.ref s0.heap.objs.size) doc ((X.mg "__name__").getD .none) c' ctv)) I2 hP
      (fun b o hb e => Heap.get?_push_of_some _ (hx b o hb e)) (Heap.get?_push_of_some _ htb) hge ⟨oc, vs, t, Heap.get?_push_of_some _ hoc, hd, hv⟩
    have hE : LamX.ExtN H0 (upd (upd H0 P (.tbl (ps ++ #[rawInt pos.line, rawInt pos.col, .ref c']))) c' (LamX.CodeO c' (X.env.qual ++ "<lambda>"))) := fun b o e n => by
      rw [upd_ne (ne_of_none e nC), upd_ne (fun z => n ps (Option.some.inj (e.symm.trans (by rw [z]; exact hP))))]
      exact e
    have eL : (ps ++ #[rawInt pos.line, rawInt pos.col, .ref c']).toList = ps.toList ++ [rawInt pos.line, rawInt pos.col, .ref c'] := by simp
    have nTc : s0.heap.objs.size ≠ c' := Nat.ne_of_lt (Nat.lt_of_lt_of_le ltT hge)
    refine h h'.objs.size c' s0.heap.objs.size u doc ((X.mg "__name__").getD .none) ctv _ _ I1 hE (fun p hp => ?_) (Heap.get?_push_size _ rfl) ?_ (nofr _ (Nat.le_trans sz2 hsz)) (Heap.get?_push_of_some _ (hx _ _ nTP hT0)) ?_ (nofr _ (Nat.le_refl _)) upd_same
    · by_cases hb : p.1 = P
      · rw [hu p hp hb, hb]
        refine ⟨_, by rw [upd_ne (ne_of_none hP nC), upd_same], by rw [eL]; exact PySem.TriplesOk_snoc _ _ _ _ ht, fun p' cv hcv => ?_⟩
        rw [eL] at hcv
        rcases LamX.among_app _ ht hcv with z | z
        · obtain ⟨c0, e1, e2⟩ := ha p' cv z
          exact ⟨c0, e1, hE _ _ e2 LamX.codeO_ne⟩
        · exact ⟨c', z, upd_same⟩
      · obtain ⟨ps', a1, a2, a3⟩ := hT p hp
        refine ⟨ps', by rw [upd_ne (ne_of_none a1 nC), upd_ne hb]; exact a1, a2, fun p' cv hcv => ?_⟩
        obtain ⟨c0, e1, e2⟩ := a3 p' cv hcv
        exact ⟨c0, e1, hE _ _ e2 LamX.codeO_ne⟩
    · have n1 : h'.objs.size ≠ c' := Nat.ne_of_gt hlt
      have n2 : h'.objs.size ≠ P := Nat.ne_of_gt (Nat.lt_of_lt_of_le (Heap.lt_size hP') hsz)
      rw [upd_ne n1, upd_ne n2]
      exact I2.hok.fresh hsz
    · rw [upd_ne nTc, upd_ne nTP]
      exact hT0n
  | some cv =>
    obtain ⟨c', e, hco⟩ := ha pos cv hc
    subst e
    refine PySem.W.kdv_makeTailHit (s := { s0 with heap := s0.heap.push (PySem.W.kdv_tup [u]) }) (mg := X.mg) (c := c) (P := P) (ps := ps) (closure_ok hfree) I2.ok.glob (I2.mod.glob.keeps I2.bk) hcode (TB.code.keeps I2.bk) hP' ht hc bP fun ctv doc h' tk hx hsz => ?_
    have I1 : Inv X pins σ H0 { s0 with heap := h'.push (PySem.W.kdv_obj "<lambda>" (X.env.qual ++ "<lambda>") params (.expr body) scope (cloFrom X.env.cells scope.names []) (.ref s0.heap.objs.size) doc ((X.mg "__name__").getD .none) c' ctv), toks := tk } := I2.kept fun b o e => Heap.get?_push_of_some _ (hx b o e)
    exact h h'.objs.size c' s0.heap.objs.size u doc ((X.mg "__name__").getD .none) ctv H0 _ I1 (LamX.ExtN.refl H0) hT (Heap.get?_push_size _ rfl) (I2.hok.fresh hsz) (nofr _ (Nat.le_trans sz2 hsz)) (Heap.get?_push_of_some _ (hx _ _ hT0)) hT0n (nofr _ (Nat.le_refl _)) hco
theorem pe_actD {CXg : CXT} {Eg : XK} {Ng : List Str} {qg : Str} {sg : Scope} {g f c T0 : Addr} {u doc cdg pm ctv : Value} {params : Arguments} {body : Expr} {scope : Scope} {k i : Nat} {a a0 : Str} {pn : List (Addr × Obj)} {xe : Value → Shared → Prop} {W : WX} {E : L2.St → XK} {tb : XK → TE} {p1 p2 : Pos}
    (I : Inv X pins σ H s) (L : LamSD X.N X.env.scope scope) (hf : s.heap.get? f = some (PySem.W.kdv_obj "<lambda>" (X.env.qual ++ "<lambda>") params (.expr body) scope (cloFrom X.env.cells scope.names []) (.ref T0) doc pm c ctv)) (hfn : H f = none) (hfr : f ∉ frs X.stack)
    (hT0 : s.heap.get? T0 = some (PySem.W.kdv_tup [u])) (hTn : H T0 = none) (hTr : T0 ∉ frs X.stack) (hl0 : scope.names.lookup a0 = some .local)
    (hbind : ∀ (q : Str) (cl : List (Str × Addr)) (dV doc pm cv ctv : Value), ∃ k, bindArgs (PySem.W.kdv_fn "<lambda>" q params (.expr body) scope cl dV doc pm cv ctv) ⟨[], []⟩ = seqItems? dV >>= k ∧ ∀ u, k (some #[u]) = pure [(a0, u)])
    (tk : L2N.Takes ((cxOf CXg X.prog X.w X.K X.mg X.base Ng qg sg g cdg X.A X.stack s H Eg).tr pn xe) W) (hW : ∀ cls d σ2 H2, E σ2 cls d H2 → W cls d σ2 H2) (hr : Room (k + 1) (X.A.deeper (envOfC qg sg s.heap.objs.size g cdg)))
    (hbody : ∀ (A : Around) (outer : List Env) (s : Shared) (H : Hp) (E : XK), Room k (A.deeper (LamX.lamEnv X scope s.heap.objs.size f c)) → PE (lamCxN X A outer s H E scope f c) body (tb E))
    (hN : Ng[i]? = some a) (hv : Vis sg a) (hd : (a == ("__debug__" : Str)) = false := by decide) (hcd : (a == ("__classdict__" : Str)) = false := by decide) :
    PE ((cxOf CXg X.prog X.w X.K X.mg X.base Ng qg sg g cdg X.A X.stack s H Eg).tr pn xe) (.Call (.Name a p1) [] [] p2) (fun σZ HZ Q => σZ[i]? = some (some (.ref f)) ∧ HZ c = some (LamX.CodeO c (X.env.qual ++ "<lambda>")) ∧ tb (E σZ) σ HZ Q) := by
  refine ⟨fun pz sz σz Hz Q Iz ⟨hs, hc, y⟩ => ?_⟩
  refine wpAny_Call_Name_kw (thn ((pe_var (pos := p1) (i := i) hN hv hd hcd).run pz sz σz Hz (fun v H1 => v = .ref f ∧ H1 = Hz) Iz ⟨.ref f, hs, rfl, rfl⟩) fun u' s1 ⟨v, H1, I1, r1, ev, eH⟩ => ?_)
  subst ev eH
  cases (show u' = Value.ref f from r1)
  have of1 := I1.base.keep f _ hf hfn hfr (fun z => nomatch (show f ∈ ([] : List Addr) from z))
  have oT1 := I1.base.keep T0 _ hT0 hTn hTr (fun z => nomatch (show T0 ∈ ([] : List Addr) from z))
  refine PySem.W.callWith_F0 ⟨_, _, _, _, of1⟩ ?_
  obtain ⟨⟨oc, vs, t, hoc, hdc, hvc⟩, _, _⟩ := I1.hok c _ hc
  have run : codeAny (model X.prog X.w) (X.A.deeper (envOfC qg sg s.heap.objs.size g cdg)) (.call (.ref f) ⟨[], []⟩) (CR (L2N.CX X.prog X.w) (envOfC qg sg s.heap.objs.size g cdg :: X.stack) X.prog X.w H1 s1 Q (E σz)) s1 := by
    obtain ⟨kk, hb1, hb2⟩ := hbind (X.env.qual ++ "<lambda>") (cloFrom X.env.cells scope.names []) (.ref T0) doc pm (.ref c) ctv
    have hB : BindsTo s1 (PySem.W.kdv_fn "<lambda>" (X.env.qual ++ "<lambda>") params (.expr body) scope (cloFrom X.env.cells scope.names []) (.ref T0) doc pm (.ref c) ctv) ⟨[], []⟩ [(a0, u)] := BindsTo.of_defaults rfl oT1 rfl hb1 (hb2 u)
    refine PySem.W.kla_callFunE hr.depth of1 rfl L.co L.gen rfl ⟨c, oc, vs, t, rfl, hoc, hdc, hvc⟩ (hB _ _ _ _ ?_)
    refine wpAny_newFunctionEnv (fun y hy => (L.own y hy).1) (fun y hy => by rw [List.mem_singleton.mp hy]; exact hl0) (fun g1 hns hsb => ⟨I1.nolimit.fresh _ hsb, ?_⟩) L.kind
    have kp : ∀ b o, s1.heap.get? b = some o → g1.get? b = some o := fun b o e => hsb.extBut b o (Nat.ne_of_lt (Heap.lt_size e)) (Heap.get?_push_of_some _ e)
    have J := lam_startD (E := E σz) (f := f) (c' := c) (tk := s1.toks + ([(a0, u)] : List (Str × Value)).length) I L I1.env0 hr.hd I1.base hns kp
    refine PySem.W.kla_codeExpr (wpAny_mono ((hbody _ _ s1 H1 (E σz) (hr.deeper _)).run [] _ _ H1 Q (J.wish _) y) (fun v s3 ⟨w3, H3, J3, rv, q⟩ => ⟨w3, H3, J3.os, J3.bare, J3.base, J3.hok, rv, q⟩) fun e s3 z => z)
  refine wpAny_call (codeAny_mono run fun rs s2 hq => ?_)
  cases rs with
  | error e => exact tk e s2 (L2N.XE.of_call I1 (fun cls d H' h => hW cls d σz H' h) hq)
  | ok fl =>
    cases fl with
    | ret u => exact I1.after hq
    | next => exact False.elim hq
    | brk => exact False.elim hq
    | cont => exact False.elim hq
end
theorem pe_lamD {X : Cx} {T : List (Addr × Str)} {TT : (XK → Hp → VK → Prop) → Hp → VK → Prop} {x a a0 : Str} {g c P : Addr} {k : Nat} {pg : Arguments} {bg : List Stmt} {sg : Scope} {dV kV doc pm cdv ct oc : Value} {an od : Option Addr} {osl : Array (Option Value)} {Ng : List Str}
    {params : Arguments} {body : Expr} {scope : Scope} {t : XK → TE} {p lpos pos pz : Pos} {z : Int} {jz : Nat} (hg : Gl X x) (hm : X.mg x = some (.ref g)) (hk : PySem.W.keepIn X.K (.ref g) = true)
    (lk : X.K.lookup g = some ⟨oc, od, .func (PySem.W.fnOf x x pg bg sg dV kV doc pm an cdv ct), osl⟩) (hcg : PySem.W.codeIn X.K cdv x = true) (hb : Binds X.K (PySem.W.fnOf x x pg bg sg dV kV doc pm an cdv ct) [a] []) (Sg : FnScope Ng [a] sg) (hNg : Ng[0]? = some a) (hva : Vis sg a)
    (hG : GivesN X Ng x sg g cdv bg a (X.env.qual ++ "<lambda>") TT) (TB : LamX.TabB X.base X.mg c P) (hcode : X.env.code = .ref c) (hmT : (P, X.env.qual ++ "<lambda>") ∈ T) (hu : ∀ p ∈ T, p.1 = P → p.2 = X.env.qual ++ "<lambda>") (hr : Room (k + 2) X.A) (k40 : 40 ≤ k + 1) (L : LamSD X.N X.env.scope scope) (hd1 : params.defaults = [.Constant (.int z) jz pz]) (hk0 : params.kw_defaults = []) (hl0 : scope.names.lookup a0 = some .local)
    (hbind : ∀ (q : Str) (cl : List (Str × Addr)) (dV doc pm cv ctv : Value), ∃ k, bindArgs (PySem.W.kdv_fn "<lambda>" q params (.expr body) scope cl dV doc pm cv ctv) ⟨[], []⟩ = seqItems? dV >>= k ∧ ∀ u, k (some #[u]) = pure [(a0, u)])
    (hbody : ∀ (A : Around) (outer : List Env) (s : Shared) (H : Hp) (E : XK) (f c2 : Addr), Room k (A.deeper (LamX.lamEnv X scope s.heap.objs.size f c2)) → PE (lamCxN X A outer s H E scope f c2) body (t E))
    (hdb : (x == ("__debug__" : Str)) = false := by decide) (hd : (a == ("__debug__" : Str)) = false := by decide) (hcd : (a == ("__classdict__" : Str)) = false := by decide) :
    PE X (.Call (.Name x p) [.Lambda params body scope lpos] [] pos) (LamX.tLam T TT t) := by
  refine ⟨fun pins s σ H Q I ⟨hT, y⟩ => ?_⟩
  refine wpAny_Call_Name_kw (ld_glob I hg hm (PySem.W.callWith_K (h₀ := X.base) I.ok.mod.kin hk ?_ (by rfl) (by rfl)) hdb)
  show wpAny _ _ (spliced ((false, eval (.Lambda params body scope lpos) X.env) :: backTo pos (starEach [] X.env))) _ _ s
  refine Calls.spliced_cons (lam_makeD I TB hcode hmT hu hT hd1 hk0 (L.has I.ok) fun f c2 T0 u doc2 pm2 ctv H1 s1 I1 eN T1 hf hfn hfr hT0 hTn hTr hco => Calls.spliced_nil ⟨I1.kIn, ?_⟩)
  have run : codeAny (model X.prog X.w) X.A (.call (.ref g) ⟨[.ref f], []⟩) (CR CX0 X.stack X.prog X.w H1 s1 Q E0) s1 := by
    refine LamX.run_ofS (N := Ng) (ps := [a]) (us := [.ref f]) (vs := [.ref f]) lk hcg Sg hr I1.env0 (hb s1 [.ref f] I1.kIn rfl) (.cons rfl .nil) rfl fun hr2 => ?_
    obtain ⟨t2, ht2, hq2⟩ := hG _ f c2 s1 H1 Q (fun E H' Q' => t E σ H' Q') hr2 k40 (fun W pn xe E p1 p2 tk hW => pe_actD (i := 0) I1 L hf hfn hfr hT0 hTn hTr hl0 hbind tk hW hr2 (fun A outer s H E hr3 => hbody A outer s H E f c2 hr3) hNg hva hd hcd) hco (y H1 eN T1)
    exact ⟨t2, ht2.nox, hq2⟩
  refine wpAny_call (codeAny_mono run fun rs s2 hq => ?_)
  cases rs with
  | error e => exact (show False from hq).elim
  | ok fl =>
    cases fl with
    | ret u => exact I1.after hq
    | next => exact False.elim hq
    | brk => exact False.elim hq
    | cont => exact False.elim hq
end OPL
section OPL
open PySem.Spec PyProof.Rows
/-! ### the same, where the parameter's name is a slot of the law's own: the lambda does not see that slot -/
structure LamSE (N : List Str) (sc scope : Scope) (i0 : Nat) (a0 : Str) : Prop where
  kind : scope.kind = .function
  co : scope.isCoroutine = false
  gen : scope.isGenerator = false
  nd : N.Nodup
  at_ : N[i0]? = some a0
  own : ∀ y ∈ scope.names, y.2 ≠ .cell ∧ (y.2 = .local → y.1 = a0)
  free : ∀ y ∈ scope.names, y.2 = .free → sc.names.lookup y.1 = some .cell ∨ sc.names.lookup y.1 = some .free
def lamSEB (N : List Str) (sc scope : Scope) (i0 : Nat) (a0 : Str) : Bool :=
  decide (scope.kind = .function) && !scope.isCoroutine && !scope.isGenerator && decide (N[i0]? = some a0) && scope.names.all fun y => !decide (y.2 = .cell) && (!decide (y.2 = .local) || decide (y.1 = a0)) && (!decide (y.2 = .free) || decide (sc.names.lookup y.1 = some .cell) || decide (sc.names.lookup y.1 = some .free))
theorem lamSE_by {N : List Str} {sc scope : Scope} {i0 : Nat} {a0 : Str} (nd : N.Nodup) (h : lamSEB N sc scope i0 a0 = true) : LamSE N sc scope i0 a0 := by
  unfold lamSEB at h
  simp only [Bool.and_eq_true, Bool.or_eq_true, Bool.not_eq_true', decide_eq_true_eq, decide_eq_false_iff_not, List.all_eq_true] at h
  obtain ⟨⟨⟨⟨h1, h2⟩, h3⟩, h5⟩, h4⟩ := h
  refine ⟨h1, h2, h3, nd, h5, fun y hy => ⟨(h4 y hy).1.1, fun e => ?_⟩, fun y hy e => ?_⟩
  · rcases (h4 y hy).1.2 with z | z
    · exact absurd e z
    · exact z
  · rcases (h4 y hy).2 with (z | z) | z
    · exact absurd e z
    · exact .inl z
    · exact .inr z
theorem LamSE.has {X : Cx} {N : List Str} {scope : Scope} {i0 : Nat} {a0 : Str} (L : LamSE N X.env.scope scope i0 a0) (ok : X.Ok) : ∀ y ∈ scope.names, y.2 = .free → ∃ c, X.env.cells.lookup y.1 = some c := fun y hy e => by
  rcases L.free y hy e with k | k
  · exact ok.has _ (.inl k)
  · exact ok.has _ (.inr k)
theorem nd_at {N : List Str} (nd : N.Nodup) {i j : Nat} {y : Str} (h1 : N[i]? = some y) (h2 : N[j]? = some y) : i = j := by
  obtain ⟨a1, b1⟩ := List.getElem?_eq_some_iff.mp h1
  obtain ⟨a2, b2⟩ := List.getElem?_eq_some_iff.mp h2
  rcases Nat.lt_trichotomy i j with h | h | h
  · exact absurd (b1.trans b2.symm) (List.pairwise_iff_getElem.mp nd i j a1 a2 h)
  · exact h
  · exact absurd (b2.trans b1.symm) (List.pairwise_iff_getElem.mp nd j i a2 a1 h)
section
variable {X : Cx} {pins : List (Addr × Obj)} {σ : L2.St} {H HZ : Hp} {s s1 : Shared}
theorem lam_startE {A : Around} {outer : List Env} {E : XK} {scope : Scope} {f c' : Addr} {h₁ : Heap} {tk : Nat} {mb : Str → Option Value} {i0 : Nat} {a0 : Str} (I : Inv X pins σ H s) (L : LamSE X.N X.env.scope scope i0 a0) (e0 : Env0 X.prog X.w X.K X.mg X.base A outer s1 HZ) (hd : A.handled = none)
    (un : Un (frs X.stack) [] H HZ s.heap s1.heap) (hns : h₁.Ns s1.heap.objs.size mb) (kp : ∀ b o, s1.heap.get? b = some o → h₁.get? b = some o) :
    Inv (LamX.lamCx X A outer s1 HZ E scope f c') [] (σ.set i0 none) HZ { s1 with heap := h₁, toks := tk } := by
  have hfree := L.has I.ok
  have cm : ∀ {y c}, (cloFrom X.env.cells scope.names []).lookup y = some c → X.env.cells.lookup y = some c := fun {y c} e => by
    rcases cloFrom_mem (PySem.mem_of_lookup e) with hm | ⟨h1, h2⟩
    · cases hm
    · obtain ⟨c1, hc⟩ := hfree _ h1 rfl
      have hc : X.env.cells.lookup y = some c1 := hc
      have e2 : c = c1 := by
        rw [h2, hc] <;> rfl
      rw [e2]
      exact hc
  have look : ∀ {y}, scope.names.lookup y = some .free → ∃ c, (cloFrom X.env.cells scope.names []).lookup y = some c := fun {y} hl => by
    have hy : (y, NameKind.free) ∈ scope.names := PySem.mem_of_lookup hl
    exact mem_lookup (cloFrom_has (cells := X.env.cells) (acc := []) hy)
  have cellK : ∀ {c : Addr} {v : Option Value}, H c = none → s.heap.IsCell c v → h₁.IsCell c v := fun {c v} n ⟨o, ho, hd⟩ => by
    obtain ⟨sl, q⟩ := un.any ho n (by simp)
    exact ⟨_, kp _ _ q, hd⟩
  have noA : ∀ b : Addr, b ∉ (LamX.lamCx X A outer s1 HZ E scope f c').ex := fun b z => absurd (show b ∈ ([] : List Addr) from z) (by simp)
  refine ⟨⟨e0.mod, L.kind, rfl, rfl, Nat.le_refl _, fun y z c e1 e2 => I.ok.inj y z c (cm e1) (cm e2), fun y hy => ?_, fun y c z _ => ?_, fun _ => hd, Around.frames_deeper e0.frames, .inr ⟨rfl, rfl⟩, fun b z => absurd z (noA b), e0.bs, e0.bsz, fun b _ _ => noA b,
      fun b z => absurd z (noA b), e0.funs, e0.frf⟩,
    rfl, e0.bare, Un.kept kp, ⟨_, hns, fun i y v e1 e2 e3 => ?_⟩, fun y c e => ?_, e0.hok.fresh (Nat.le_refl _), fun y c e => ?_, fun q hq => absurd (show q ∈ ([] : List (Addr × Obj)) ++ [] from hq) (by simp), e0.hok.kept kp, (by rw [List.length_set]; exact I.len)⟩
  · have hy : scope.names.lookup y = some .cell ∨ scope.names.lookup y = some .free := hy
    rcases hy with hy | hy
    · exact absurd rfl (L.own _ (PySem.mem_of_lookup hy)).1
    · exact look hy
  · have z : false = true := z
    cases z
  · have e3 : Vis scope y := e3
    have e1' : X.N[i]? = some y := e1
    have ni : i ≠ i0 := fun z => by
      subst z
      rw [List.getElem?_set] at e2
      split at e2 <;> (try split at e2) <;> first | cases e2 | (rename_i z _; exact z rfl) | (rename_i z; exact z rfl)
    have e2 : σ[i]? = some (some v) := by
      rw [List.getElem?_set_ne (Ne.symm ni)] at e2
      exact e2
    rcases e3 with k | k | k
    · have ea : y = a0 := (L.own _ (PySem.mem_of_lookup k)).2 rfl
      exact absurd (nd_at L.nd (ea ▸ e1') L.at_) ni
    · exact absurd rfl (L.own _ (PySem.mem_of_lookup k)).1
    · obtain ⟨m, hn, hl⟩ := I.loc
      have hvis : Vis X.env.scope y := (L.free _ (PySem.mem_of_lookup k) rfl).elim (fun k => .inr (.inl k)) (fun k => .inr (.inr k))
      obtain ⟨w', r, q⟩ := hl i y v e1 e2 hvis
      obtain ⟨c2, h2⟩ := look k
      refine ⟨w', r, .inr ⟨.inr k, c2, h2, ?_⟩⟩
      have c1 := cm h2
      rcases q with ⟨k', _⟩ | ⟨_, c3, e', z⟩
      · have k' : X.env.scope.names.lookup y = some .local := k'
        rcases L.free _ (PySem.mem_of_lookup k) rfl with k2 | k2 <;> rw [show X.env.scope.names.lookup y = _ from k2] at k' <;> cases k'
      · rw [c1] at e'
        cases e'
        exact cellK (I.freeC y _ c1) z
  · obtain ⟨w', z⟩ := I.cell y c (cm e)
    exact ⟨w', cellK (I.freeC y c (cm e)) z⟩
  · obtain ⟨v, o, ho, hd⟩ := I.cell y c (cm e)
    exact un.free c o ho (I.freeC y c (cm e)) (by simp)
theorem pe_actE {CXg : CXT} {Eg : XK} {Ng : List Str} {qg : Str} {sg : Scope} {g f c T0 : Addr} {u doc cdg pm ctv : Value} {params : Arguments} {body : Expr} {scope : Scope} {k i i0 : Nat} {a a0 : Str} {pn : List (Addr × Obj)} {xe : Value → Shared → Prop} {W : WX} {E : L2.St → XK} {tb : XK → TE} {p1 p2 : Pos}
    (I : Inv X pins σ H s) (L : LamSE X.N X.env.scope scope i0 a0) (hf : s.heap.get? f = some (PySem.W.kdv_obj "<lambda>" (X.env.qual ++ "<lambda>") params (.expr body) scope (cloFrom X.env.cells scope.names []) (.ref T0) doc pm c ctv)) (hfn : H f = none) (hfr : f ∉ frs X.stack)
    (hT0 : s.heap.get? T0 = some (PySem.W.kdv_tup [u])) (hTn : H T0 = none) (hTr : T0 ∉ frs X.stack) (hl0 : scope.names.lookup a0 = some .local)
    (hbind : ∀ (q : Str) (cl : List (Str × Addr)) (dV doc pm cv ctv : Value), ∃ k, bindArgs (PySem.W.kdv_fn "<lambda>" q params (.expr body) scope cl dV doc pm cv ctv) ⟨[], []⟩ = seqItems? dV >>= k ∧ ∀ u, k (some #[u]) = pure [(a0, u)])
    (tk : L2N.Takes ((cxOf CXg X.prog X.w X.K X.mg X.base Ng qg sg g cdg X.A X.stack s H Eg).tr pn xe) W) (hW : ∀ cls d σ2 H2, E σ2 cls d H2 → W cls d σ2 H2) (hr : Room (k + 1) (X.A.deeper (envOfC qg sg s.heap.objs.size g cdg)))
    (hbody : ∀ (A : Around) (outer : List Env) (s : Shared) (H : Hp) (E : XK), Room k (A.deeper (LamX.lamEnv X scope s.heap.objs.size f c)) → PE (lamCxN X A outer s H E scope f c) body (tb E))
    (hN : Ng[i]? = some a) (hv : Vis sg a) (hd : (a == ("__debug__" : Str)) = false := by decide) (hcd : (a == ("__classdict__" : Str)) = false := by decide) :
    PE ((cxOf CXg X.prog X.w X.K X.mg X.base Ng qg sg g cdg X.A X.stack s H Eg).tr pn xe) (.Call (.Name a p1) [] [] p2) (fun σZ HZ Q => σZ[i]? = some (some (.ref f)) ∧ HZ c = some (LamX.CodeO c (X.env.qual ++ "<lambda>")) ∧ tb (E σZ) (σ.set i0 none) HZ Q) := by
  refine ⟨fun pz sz σz Hz Q Iz ⟨hs, hc, y⟩ => ?_⟩
  refine wpAny_Call_Name_kw (thn ((pe_var (pos := p1) (i := i) hN hv hd hcd).run pz sz σz Hz (fun v H1 => v = .ref f ∧ H1 = Hz) Iz ⟨.ref f, hs, rfl, rfl⟩) fun u' s1 ⟨v, H1, I1, r1, ev, eH⟩ => ?_)
  subst ev eH
  cases (show u' = Value.ref f from r1)
  have of1 := I1.base.keep f _ hf hfn hfr (fun z => nomatch (show f ∈ ([] : List Addr) from z))
  have oT1 := I1.base.keep T0 _ hT0 hTn hTr (fun z => nomatch (show T0 ∈ ([] : List Addr) from z))
  refine PySem.W.callWith_F0 ⟨_, _, _, _, of1⟩ ?_
  obtain ⟨⟨oc, vs, t, hoc, hdc, hvc⟩, _, _⟩ := I1.hok c _ hc
  have run : codeAny (model X.prog X.w) (X.A.deeper (envOfC qg sg s.heap.objs.size g cdg)) (.call (.ref f) ⟨[], []⟩) (CR (L2N.CX X.prog X.w) (envOfC qg sg s.heap.objs.size g cdg :: X.stack) X.prog X.w H1 s1 Q (E σz)) s1 := by
    obtain ⟨kk, hb1, hb2⟩ := hbind (X.env.qual ++ "<lambda>") (cloFrom X.env.cells scope.names []) (.ref T0) doc pm (.ref c) ctv
    have hB : BindsTo s1 (PySem.W.kdv_fn "<lambda>" (X.env.qual ++ "<lambda>") params (.expr body) scope (cloFrom X.env.cells scope.names []) (.ref T0) doc pm (.ref c) ctv) ⟨[], []⟩ [(a0, u)] := BindsTo.of_defaults rfl oT1 rfl hb1 (hb2 u)
    refine PySem.W.kla_callFunE hr.depth of1 rfl L.co L.gen rfl ⟨c, oc, vs, t, rfl, hoc, hdc, hvc⟩ (hB _ _ _ _ ?_)
    refine wpAny_newFunctionEnv (fun y hy => (L.own y hy).1) (fun y hy => by rw [List.mem_singleton.mp hy]; exact hl0) (fun g1 hns hsb => ⟨I1.nolimit.fresh _ hsb, ?_⟩) L.kind
    have kp : ∀ b o, s1.heap.get? b = some o → g1.get? b = some o := fun b o e => hsb.extBut b o (Nat.ne_of_lt (Heap.lt_size e)) (Heap.get?_push_of_some _ e)
    have J := lam_startE (E := E σz) (f := f) (c' := c) (tk := s1.toks + ([(a0, u)] : List (Str × Value)).length) I L I1.env0 hr.hd I1.base hns kp
    refine PySem.W.kla_codeExpr (wpAny_mono ((hbody _ _ s1 H1 (E σz) (hr.deeper _)).run [] _ _ H1 Q (J.wish _) y) (fun v s3 ⟨w3, H3, J3, rv, q⟩ => ⟨w3, H3, J3.os, J3.bare, J3.base, J3.hok, rv, q⟩) fun e s3 z => z)
  refine wpAny_call (codeAny_mono run fun rs s2 hq => ?_)
  cases rs with
  | error e => exact tk e s2 (L2N.XE.of_call I1 (fun cls d H' h => hW cls d σz H' h) hq)
  | ok fl =>
    cases fl with
    | ret u => exact I1.after hq
    | next => exact False.elim hq
    | brk => exact False.elim hq
    | cont => exact False.elim hq
end
theorem pe_lamE {X : Cx} {T : List (Addr × Str)} {TT : (XK → Hp → VK → Prop) → Hp → VK → Prop} {x a a0 : Str} {g c P : Addr} {k i0 : Nat} {pg : Arguments} {bg : List Stmt} {sg : Scope} {dV kV doc pm cdv ct oc : Value} {an od : Option Addr} {osl : Array (Option Value)} {Ng : List Str}
    {params : Arguments} {body : Expr} {scope : Scope} {t : XK → TE} {p lpos pos pz : Pos} {z : Int} {jz : Nat} (hg : Gl X x) (hm : X.mg x = some (.ref g)) (hk : PySem.W.keepIn X.K (.ref g) = true)
    (lk : X.K.lookup g = some ⟨oc, od, .func (PySem.W.fnOf x x pg bg sg dV kV doc pm an cdv ct), osl⟩) (hcg : PySem.W.codeIn X.K cdv x = true) (hb : Binds X.K (PySem.W.fnOf x x pg bg sg dV kV doc pm an cdv ct) [a] []) (Sg : FnScope Ng [a] sg) (hNg : Ng[0]? = some a) (hva : Vis sg a)
    (hG : GivesN X Ng x sg g cdv bg a (X.env.qual ++ "<lambda>") TT) (TB : LamX.TabB X.base X.mg c P) (hcode : X.env.code = .ref c) (hmT : (P, X.env.qual ++ "<lambda>") ∈ T) (hu : ∀ p ∈ T, p.1 = P → p.2 = X.env.qual ++ "<lambda>") (hr : Room (k + 2) X.A) (k40 : 40 ≤ k + 1) (L : LamSE X.N X.env.scope scope i0 a0) (hd1 : params.defaults = [.Constant (.int z) jz pz]) (hk0 : params.kw_defaults = []) (hl0 : scope.names.lookup a0 = some .local)
    (hbind : ∀ (q : Str) (cl : List (Str × Addr)) (dV doc pm cv ctv : Value), ∃ k, bindArgs (PySem.W.kdv_fn "<lambda>" q params (.expr body) scope cl dV doc pm cv ctv) ⟨[], []⟩ = seqItems? dV >>= k ∧ ∀ u, k (some #[u]) = pure [(a0, u)])
    (hbody : ∀ (A : Around) (outer : List Env) (s : Shared) (H : Hp) (E : XK) (f c2 : Addr), Room k (A.deeper (LamX.lamEnv X scope s.heap.objs.size f c2)) → PE (lamCxN X A outer s H E scope f c2) body (t E))
    (hdb : (x == ("__debug__" : Str)) = false := by decide) (hd : (a == ("__debug__" : Str)) = false := by decide) (hcd : (a == ("__classdict__" : Str)) = false := by decide) :
    PE X (.Call (.Name x p) [.Lambda params body scope lpos] [] pos) (LamX.tLam T TT (fun E σ H Q => t E (σ.set i0 none) H Q)) := by
  refine ⟨fun pins s σ H Q I ⟨hT, y⟩ => ?_⟩
  refine wpAny_Call_Name_kw (ld_glob I hg hm (PySem.W.callWith_K (h₀ := X.base) I.ok.mod.kin hk ?_ (by rfl) (by rfl)) hdb)
  show wpAny _ _ (spliced ((false, eval (.Lambda params body scope lpos) X.env) :: backTo pos (starEach [] X.env))) _ _ s
  refine Calls.spliced_cons (lam_makeD I TB hcode hmT hu hT hd1 hk0 (L.has I.ok) fun f c2 T0 u doc2 pm2 ctv H1 s1 I1 eN T1 hf hfn hfr hT0 hTn hTr hco => Calls.spliced_nil ⟨I1.kIn, ?_⟩)
  have run : codeAny (model X.prog X.w) X.A (.call (.ref g) ⟨[.ref f], []⟩) (CR CX0 X.stack X.prog X.w H1 s1 Q E0) s1 := by
    refine LamX.run_ofS (N := Ng) (ps := [a]) (us := [.ref f]) (vs := [.ref f]) lk hcg Sg hr I1.env0 (hb s1 [.ref f] I1.kIn rfl) (.cons rfl .nil) rfl fun hr2 => ?_
    obtain ⟨t2, ht2, hq2⟩ := hG _ f c2 s1 H1 Q (fun E H' Q' => t E (σ.set i0 none) H' Q') hr2 k40 (fun W pn xe E p1 p2 tk hW => pe_actE (i := 0) I1 L hf hfn hfr hT0 hTn hTr hl0 hbind tk hW hr2 (fun A outer s H E hr3 => hbody A outer s H E f c2 hr3) hNg hva hd hcd) hco (y H1 eN T1)
    exact ⟨t2, ht2.nox, hq2⟩
  refine wpAny_call (codeAny_mono run fun rs s2 hq => ?_)
  cases rs with
  | error e => exact (show False from hq).elim
  | ok fl =>
    cases fl with
    | ret u => exact I1.after hq
    | next => exact False.elim hq
    | brk => exact False.elim hq
    | cont => exact False.elim hq
end OPL
/-! ### tables at hand -/
def nts (r : List Nat) : List V := r.map fun (k : Nat) => V.int (k : Int)
theorem nts_len (r : List Nat) : (nts r).length = r.length := by unfold nts; rw [List.length_map]
theorem nts_get {r : List Nat} {i : Nat} (h : i < r.length) : (nts r)[i]? = some (V.int ((r.getD i 0 : Nat) : Int)) := by
  unfold nts
  rw [List.getElem?_map, List.getElem?_eq_getElem h, List.getD_eq_getElem?_getD, List.getElem?_eq_getElem h]
  rfl
theorem atI_nat {α : Type} {xs : List α} {j : Nat} {v : α} (h : xs[j]? = some v) : atI xs (j : Int) = some v := by
  obtain ⟨hj, _⟩ := List.getElem?_eq_some_iff.mp h
  unfold atI ixN
  rw [if_pos (by omega), if_pos (by omega)]
  exact h
theorem ixN_nat {n j : Nat} (h : j < n) : ixN n (j : Int) = some j := by
  unfold ixN
  rw [if_pos (by omega), if_pos (by omega)]
  rfl
/-- rows, correct from the place e on -/
structure RowsAt (H : Hp) (ra : Addr) (as : List Addr) (T : List (List Nat)) (e : Nat) : Prop where
  l : H ra = some (.lst (as.map V.ref))
  n : as.length = T.length
  r : ∀ i a, e ≤ i → as[i]? = some a → H a = some (.lst (nts (T.getD i [])))
theorem RowsAt.same {H H' : Hp} {ra : Addr} {as : List Addr} {T : List (List Nat)} {e : Nat} (h : RowsAt H ra as T e) (s : Same H H') : RowsAt H' ra as T e := ⟨s _ _ h.l, h.n, fun i a h1 h2 => s _ _ (h.r i a h1 h2)⟩
def spEntry : Sp := fun vs H Q _ => ∃ (a : Addr) (r : List Nat) (b : Nat), vs = [.ref a, .int (b : Int)] ∧ H a = some (.lst (nts r)) ∧ 0 < r.length ∧ 1 ≤ b ∧ Q (.int ((ent r b : Nat) : Int)) H
theorem ent_at {r : List Nat} {b : Nat} (h : 0 < r.length) (hb : 1 ≤ b) : atI (nts r) (((b : Int) - 1) % ((nts r).length : Int)) = some (V.int ((ent r b : Nat) : Int)) := by
  have e : ((b : Int) - 1) % ((nts r).length : Int) = (((b - 1) % r.length : Nat) : Int) := by
    rw [nts_len, show (b : Int) - 1 = ((b - 1 : Nat) : Int) by omega]
    exact (Int.natCast_emod _ _).symm
  rw [e]
  exact atI_nat (nts_get (Nat.mod_lt _ h))
def spRows : Sp := fun vs H Q _ => ∃ (N : Nat) (T : List (List Nat)), vs = [.int (N : Int)] ∧ Good N T ∧ N ≤ 512 ∧ ∀ (ra : Addr) (as : List Addr) (H' : Hp), Same H H' → H ra = none → RowsAt H' ra as T 0 → Q (.ref ra) H'
theorem flat_one {α : Type} (x : α) : ∀ n : Nat, (List.replicate n [x]).flatten = List.replicate n x
  | 0 => rfl
  | n + 1 => by rw [List.replicate_succ, List.flatten_cons, flat_one x n, List.replicate_succ]; rfl
theorem rgV_nts (N : Nat) : rgV 1 ((N : Int) + 1) = nts (List.range' 1 N) := by
  unfold rgV nts
  rw [show ((N : Int) + 1 - 1).toNat = N by omega, List.range'_eq_map_range, List.map_map]
  refine List.map_congr_left fun i _ => ?_
  show V.int (1 + (i : Int)) = V.int (((1 + i : Nat)) : Int)
  rw [Int.natCast_add]
  rfl
theorem take_nts {r : List Nat} {j : Nat} (h : j < r.length) : nts (r.take (j + 1)) = nts (r.take j) ++ [V.int ((r.getD j 0 : Nat) : Int)] := by
  unfold nts
  rw [List.take_add_one, List.getElem?_eq_getElem h, List.map_append, List.getD_eq_getElem?_getD, List.getElem?_eq_getElem h]
  rfl
theorem RowsAt.but {H H' : Hp} {p ra : Addr} {as : List Addr} {T : List (List Nat)} {e : Nat} (h : RowsAt H ra as T e) (s : But p H H') (hp : H p = none) : RowsAt H' ra as T e :=
  ⟨s _ _ (ne_of_none h.l hp) h.l, h.n, fun i a h1 h2 => s _ _ (ne_of_none (h.r i a h1 h2) hp) (h.r i a h1 h2)⟩
theorem RowsAt.set {H : Hp} {ra rl : Addr} {as : List Addr} {T : List (List Nat)} {e j : Nat} (h : RowsAt H ra as T e) (he : e = j + 1) (hj : j < T.length) (hl : H rl = some (.lst (nts (T.getD j [])))) (hne : rl ≠ ra) (hn : ∀ i a, e ≤ i → as[i]? = some a → a ≠ ra) :
    RowsAt (upd H ra (.lst ((as.map V.ref).set j (.ref rl)))) ra (as.set j rl) T j := by
  refine ⟨by rw [upd_same, List.map_set], by rw [List.length_set]; exact h.n, fun i a h1 h2 => ?_⟩
  rcases Nat.eq_or_lt_of_le h1 with rfl | h3
  · rw [List.getElem?_set_self (by rw [h.n]; exact hj)] at h2
    cases h2
    rw [upd_ne hne]
    exact hl
  · rw [List.getElem?_set_ne (by omega)] at h2
    rw [upd_ne (hn i a (by omega) h2)]
    exact h.r i a (by omega) h2
theorem nts_refs {r : List Nat} {as : List Addr} (h : 0 < as.length) : ¬ nts r = as.map V.ref := fun z => by
  cases as with
  | nil => exact absurd h (by decide)
  | cons a as =>
    cases r with
    | nil => cases z
    | cons b r =>
      have z : V.int (b : Int) :: nts r = V.ref a :: as.map V.ref := z
      cases z
theorem RowsAt.ne {H : Hp} {ra : Addr} {as : List Addr} {T : List (List Nat)} {e : Nat} (h : RowsAt H ra as T e) (h0 : 0 < T.length) {i : Nat} {a : Addr} (h1 : e ≤ i) (h2 : as[i]? = some a) : a ≠ ra := fun z => by
  have w := h.r i a h1 h2
  rw [z, h.l] at w
  injection w with w
  injection w with w
  exact nts_refs (by rw [h.n]; exact h0) w.symm
/-! ### the class Table -/
structure TabT (K : PySem.W.Frag) (mg : Str → Option Value) (C : Addr) : Prop where
  cl : Cls K C
  n1 : NoAttr K C "size"
  n2 : NoAttr K C "rows"
  mgC : mg "Table" = some (.ref C)
theorem tne1 : ¬ (("size" : Str) = "rows") := by decide +kernel
def tbf (n : Int) (ra : Addr) : List (Str × V) := putF "rows" (.ref ra) (putF "size" (.int n) [])
theorem tbf_r (n : Int) (ra : Addr) : (tbf n ra).lookup ("rows" : Str) = some (.ref ra) := by
  unfold tbf
  rw [lookup_putF, if_pos rfl]
theorem tbf_s (n : Int) (ra : Addr) : (tbf n ra).lookup ("size" : Str) = some (.int n) := by
  unfold tbf
  rw [lookup_putF, if_neg tne1, lookup_putF, if_pos rfl]
theorem tbf_no (n : Int) (ra : Addr) {m : Str} (h1 : ¬ m = "rows") (h2 : ¬ m = "size") : (tbf n ra).lookup m = none := by
  unfold tbf
  rw [lookup_putF, if_neg h1, lookup_putF, if_neg h2]
  rfl
def tbs : Nat → List (List Nat)
  | 0 => tb0
  | 1 => tb1
  | 2 => tb2
  | 3 => tb3
  | 4 => tb4
  | 5 => tb5
  | 6 => tb6
  | 7 => tb7
  | 8 => tb8
  | _ => tb9
theorem good_tbs {n : Nat} (h : n ≤ 9) : Good (2 ^ n) (tbs n) := by
  match n, h with
  | 0, _ => exact good_of tb0_ok
  | 1, _ => exact good_of tb1_ok
  | 2, _ => exact good_of tb2_ok
  | 3, _ => exact good_of tb3_ok
  | 4, _ => exact good_of tb4_ok
  | 5, _ => exact good_of tb5_ok
  | 6, _ => exact good_of tb6_ok
  | 7, _ => exact good_of tb7_ok
  | 8, _ => exact good_of tb8_ok
  | 9, _ => exact good_of tb9_ok
  | n + 10, h => exact absurd h (by omega)
theorem pow_le512 {n : Nat} (h : n ≤ 9) : 2 ^ n ≤ 512 := Nat.pow_le_pow_right (by decide) h
def TabA (H : Hp) (C x : Addr) (n : Nat) : Prop := ∃ (dx ra : Addr) (as : List Addr), H x = some (.ins C dx (tbf n ra)) ∧ RowsAt H ra as (tbs n) 0
theorem TabA.same {H H' : Hp} {C x : Addr} {n : Nat} (h : TabA H C x n) (s : Same H H') : TabA H' C x n := by
  obtain ⟨dx, ra, as, h1, h2⟩ := h
  exact ⟨dx, ra, as, s _ _ h1, h2.same s⟩
def spTInit (C CS : Addr) : Sp := fun vs H Q E => ∃ (H0 : Hp) (x dx : Addr) (n : Int), vs = [.ref x, .int n] ∧ Same H0 H ∧ H0 x = none ∧ H x = some (.ins C dx []) ∧ (∀ m : Nat, n = (m : Int) → m ≤ 9 → ∀ H', Same H0 H' → TabA H' C x m → Q .non H') ∧ (¬ (0 ≤ n ∧ n ≤ 9) → E (.ref CS) none H)
def spTLen (C : Addr) : Sp := fun vs H Q _ => ∃ (x : Addr) (n : Nat), vs = [.ref x] ∧ TabA H C x n ∧ n ≤ 9 ∧ Q (.int ((2 ^ n : Nat) : Int)) H
def spTChk (C CE : Addr) : Sp := fun vs H Q E => ∃ (x : Addr) (n : Nat) (a : Int), vs = [.ref x, .int a] ∧ TabA H C x n ∧ n ≤ 9 ∧ (1 ≤ a → a ≤ ((2 ^ n : Nat) : Int) → Q .non H) ∧ (¬ (1 ≤ a ∧ a ≤ ((2 ^ n : Nat) : Int)) → E (.ref CE) none H)
def spTApp (C CE : Addr) : Sp := fun vs H Q E => ∃ (x : Addr) (n : Nat) (a b : Int), vs = [.ref x, .int a, .int b] ∧ TabA H C x n ∧ n ≤ 9 ∧ (∀ a' b' : Nat, a = (a' : Int) → b = (b' : Int) → 1 ≤ a' → a' ≤ 2 ^ n → 1 ≤ b' → b' ≤ 2 ^ n → Q (.int ((opT (tbs n) a' b' : Nat) : Int)) H) ∧
  (¬ ((1 ≤ a ∧ a ≤ ((2 ^ n : Nat) : Int)) ∧ 1 ≤ b ∧ b ≤ ((2 ^ n : Nat) : Int)) → E (.ref CE) none H)
theorem dec_t {p : Prop} [Decidable p] {b : Bool} (h : decide p = b) (hb : b = true) : p := of_decide_eq_true (h.trans hb)
theorem not_dec {p : Prop} [Decidable p] (c : (!decide p) = true) : ¬ p := fun z => by rw [decide_eq_true z] at c; cases c
theorem yes_dec {p : Prop} [Decidable p] (c : ¬ (!decide p) = true) : p := by
  by_cases z : p
  · exact z
  · rw [decide_eq_false z] at c
    exact absurd rfl c
theorem RowsAt.ins {H : Hp} {ra x C dx : Addr} {as : List Addr} {T : List (List Nat)} {fs : List (Str × V)} {o : HO} (h : RowsAt H ra as T 0) (hx : H x = some (.ins C dx fs)) : RowsAt (upd H x o) ra as T 0 := by
  refine ⟨by rw [upd_ne (fun z => by rw [← z, h.l] at hx; cases hx)]; exact h.l, h.n, fun i a h1 h2 => ?_⟩
  have w := h.r i a h1 h2
  rw [upd_ne (fun z => by rw [← z, w] at hx; cases hx)]
  exact w
theorem TabA.rng {H H' : Hp} {C x r c : Addr} {n : Nat} (h : TabA H C x n) (R : RngC H r c) (b : But r H H') : TabA H' C x n := by
  obtain ⟨dx, ra, as, h1, h2⟩ := h
  obtain ⟨ns, i, b0, s, hr, _⟩ := R
  have hl := h2.l
  refine ⟨dx, ra, as, b _ _ (fun z => by rw [z, hr] at h1; cases h1) h1, b _ _ (fun z => ?_) h2.l, h2.n, fun i a k1 k2 => ?_⟩
  · rw [z, hr] at hl
    injection hl with hl
    injection hl with hl
    cases as with
    | nil => cases hl
    | cons a as =>
      cases as with
      | nil => cases hl
      | cons a' as =>
        have hl : [V.ref c, V.int i, V.int b0, V.int s] = V.ref a :: V.ref a' :: as.map V.ref := hl
        cases hl
  · have w := h2.r i a k1 k2
    refine b _ _ (fun z => ?_) w
    rw [z, hr] at w
    injection w with w
    injection w with w
    cases hrow : (tbs n).getD i [] with
    | nil => rw [hrow] at w; cases w
    | cons y ys =>
      rw [hrow] at w
      have w : [V.ref c, V.int _, V.int b0, V.int s] = V.int (y : Int) :: nts ys := w
      cases w
/-! ### the law's own rows: at the place of each element its row -/
structure RowsB (H : Hp) (ra : Addr) (as : List Addr) (T : List (List Nat)) (e : Nat) : Prop where
  l : H ra = some (.lst (as.map V.ref))
  n : as.length = T.length + 1
  r : ∀ i a, e < i → as[i]? = some a → H a = some (.lst (nts (T.getD (i - 1) [])))
theorem RowsB.same {H H' : Hp} {ra : Addr} {as : List Addr} {T : List (List Nat)} {e : Nat} (h : RowsB H ra as T e) (s : Same H H') : RowsB H' ra as T e := ⟨s _ _ h.l, h.n, fun i a h1 h2 => s _ _ (h.r i a h1 h2)⟩
theorem RowsB.but {H H' : Hp} {p ra : Addr} {as : List Addr} {T : List (List Nat)} {e : Nat} (h : RowsB H ra as T e) (s : But p H H') (hp : H p = none) : RowsB H' ra as T e :=
  ⟨s _ _ (ne_of_none h.l hp) h.l, h.n, fun i a h1 h2 => s _ _ (ne_of_none (h.r i a h1 h2) hp) (h.r i a h1 h2)⟩
theorem RowsB.ne {H : Hp} {ra : Addr} {as : List Addr} {T : List (List Nat)} {e : Nat} (h : RowsB H ra as T e) {i : Nat} {a : Addr} (h1 : e < i) (h2 : as[i]? = some a) : a ≠ ra := fun z => by
  have w := h.r i a h1 h2
  rw [z, h.l] at w
  injection w with w
  injection w with w
  exact nts_refs (by rw [h.n]; omega) w.symm
theorem RowsB.set {H : Hp} {ra rl : Addr} {as : List Addr} {T : List (List Nat)} {e : Nat} (h : RowsB H ra as T e) (h0 : 1 ≤ e) (he : e ≤ T.length) (hl : H rl = some (.lst (nts (T.getD (e - 1) [])))) (hne : rl ≠ ra) :
    RowsB (upd H ra (.lst ((as.map V.ref).set e (.ref rl)))) ra (as.set e rl) T (e - 1) := by
  refine ⟨by rw [upd_same, List.map_set], by rw [List.length_set]; exact h.n, fun i a h1 h2 => ?_⟩
  by_cases c : e = i
  · subst c
    rw [List.getElem?_set_self (by rw [h.n]; omega)] at h2
    cases h2
    rw [upd_ne hne]
    exact hl
  · rw [List.getElem?_set_ne c] at h2
    rw [upd_ne (h.ne (by omega) h2)]
    exact h.r i a (by omega) h2
theorem nts_four {c : Addr} {x y z : V} {r : List Nat} : ¬ [V.ref c, x, y, z] = nts r := fun w => by
  cases r with
  | nil => cases w
  | cons b r =>
    have w : [V.ref c, x, y, z] = V.int (b : Int) :: nts r := w
    cases w
theorem refs_four {c : Addr} {x y z : Int} {as : List Addr} : ¬ [V.ref c, V.int x, V.int y, V.int z] = as.map V.ref := fun w => by
  match as, w with
  | [], w => cases w
  | [_], w => cases w
  | a :: b :: as, w =>
    have w : [V.ref c, V.int x, V.int y, V.int z] = V.ref a :: V.ref b :: as.map V.ref := w
    cases w
theorem RowsB.rng {H H' : Hp} {ra r c : Addr} {as : List Addr} {T : List (List Nat)} {e : Nat} (h : RowsB H ra as T e) (R : RngC H r c) (b : But r H H') : RowsB H' ra as T e := by
  obtain ⟨ns, i, b0, s, hr, _⟩ := R
  refine ⟨b _ _ (fun z => ?_) h.l, h.n, fun i a k1 k2 => b _ _ (fun z => ?_) (h.r i a k1 k2)⟩
  · have w := h.l
    rw [z, hr] at w
    injection w with w
    injection w with w
    exact refs_four w
  · have w := h.r i a k1 k2
    rw [z, hr] at w
    injection w with w
    injection w with w
    exact nts_four w
def spShort : Sp := fun vs H Q _ => ∃ n : Nat, vs = [.int (n : Int)] ∧ n ≤ 9 ∧ ∀ (ra : Addr) (as : List Addr) (H' : Hp), Same H H' → H ra = none → RowsB H' ra as (tbs n) 0 → Q (.ref ra) H'
def spProd : Sp := fun vs H Q _ => ∃ (ra : Addr) (as : List Addr) (n a b : Nat), vs = [.ref ra, .int (a : Int), .int (b : Int)] ∧ RowsB H ra as (tbs n) 0 ∧ n ≤ 9 ∧ 1 ≤ a ∧ a ≤ 2 ^ n ∧ 1 ≤ b ∧ Q (.int ((opT (tbs n) a b : Nat) : Int)) H
theorem row_ne {N a : Nat} {T : List (List Nat)} (g : Good N T) (h1 : 1 ≤ a) (h2 : a ≤ N) : 0 < (T.getD (a - 1) []).length := by
  by_cases c : a < N
  · exact (g.row a h1 c).ne
  · have e : a = N := by omega
    rw [e, g.top, List.length_range']
    exact g.pos
/-- the composed element -/
def cmp (N : Nat) (T : List (List Nat)) (a b : Nat) : Nat := if opT T a (opT T b 1) = 1 then N else opT T a (opT T b 1) - 1
theorem one_of {N : Nat} {T : List (List Nat)} (g : Good N T) {b : Nat} (h1 : 1 ≤ b) (h2 : b ≤ N) : 1 ≤ opT T b 1 ∧ opT T b 1 ≤ N := lv_rng g h1 h2 (by omega) g.pos
theorem cmp_rng {N : Nat} {T : List (List Nat)} (g : Good N T) {a b : Nat} (a1 : 1 ≤ a) (a2 : a ≤ N) (b1 : 1 ≤ b) (b2 : b ≤ N) : 1 ≤ cmp N T a b ∧ cmp N T a b ≤ N := by
  have o := one_of g b1 b2
  have s := lv_rng g a1 a2 o.1 o.2
  have p := g.pos
  unfold cmp
  split <;> omega
theorem cmp_acts {N : Nat} {T : List (List Nat)} (g : Good N T) {a b : Nat} (a1 : 1 ≤ a) (a2 : a ≤ N) (b1 : 1 ≤ b) (b2 : b ≤ N) : ∀ d, 1 ≤ d → d ≤ N → opT T (cmp N T a b) d = opT T a (opT T b d) := by
  have o := one_of g b1 b2
  have s := lv_rng g a1 a2 o.1 o.2
  have p := g.pos
  by_cases c : opT T a (opT T b 1) = 1
  · have ea : a = N := by
      rcases Nat.eq_or_lt_of_le a2 with h | h
      · exact h
      · have := lv_gt (b := opT T b 1) g a1 h
        omega
    subst ea
    rw [lv_top g o.1 o.2] at c
    have eb : b = a := by
      rcases Nat.eq_or_lt_of_le b2 with h | h
      · exact h
      · have := lv_gt (b := 1) g b1 h
        omega
    subst eb
    intro d d1 d2
    unfold cmp
    rw [lv_top g (Nat.le_refl 1) p, lv_top g (Nat.le_refl 1) p, if_pos rfl, lv_top g d1 d2, lv_top g d1 d2]
  · have ec : cmp N T a b = opT T a (opT T b 1) - 1 := if_neg c
    have hc1 : 1 ≤ cmp N T a b := by omega
    have hc2 : cmp N T a b < N := by omega
    have hs : cmp N T a b + 1 = opT T a (opT T b 1) := by omega
    intro d d1
    induction d with
    | zero => omega
    | succ d ih =>
      intro d2
      rcases Nat.eq_zero_or_pos d with rfl | d0
      · rw [Nat.zero_add, lv_one g hc1 hc2, hs]
      · have r := lv_rng g b1 b2 d0 (by omega)
        rw [lv_suc g hc1 hc2 d0, ih d0 (by omega), hs, ← lv_dist g a1 a2 r.1 r.2 o.1 o.2]
        rcases Nat.eq_or_lt_of_le b2 with h | h
        · rw [h, lv_top g d0 (by omega), lv_top g (Nat.le_refl 1) p, lv_top g d1 d2, lv_one g d0 (by omega)]
        · rw [lv_one g b1 h, ← lv_suc g b1 h d0]
def spTCmp (C CE : Addr) : Sp := fun vs H Q E => ∃ (x : Addr) (n : Nat) (a b : Int), vs = [.ref x, .int a, .int b] ∧ TabA H C x n ∧ n ≤ 9 ∧ (∀ a' b' : Nat, a = (a' : Int) → b = (b' : Int) → 1 ≤ a' → a' ≤ 2 ^ n → 1 ≤ b' → b' ≤ 2 ^ n → Q (.int ((cmp (2 ^ n) (tbs n) a' b' : Nat) : Int)) H) ∧
  (¬ ((1 ≤ a ∧ a ≤ ((2 ^ n : Nat) : Int)) ∧ 1 ≤ b ∧ b ≤ ((2 ^ n : Nat) : Int)) → E (.ref CE) none H)
theorem TabA.extN {H H' : Hp} {C x : Addr} {n : Nat} (e : LamX.ExtN H H') (h : TabA H C x n) : TabA H' C x n := by
  obtain ⟨dx, ra, as, h1, h2⟩ := h
  exact ⟨dx, ra, as, e _ _ h1 (fun _ => by intro y; cases y), e _ _ h2.l (fun _ => by intro y; cases y), h2.n, fun i a k1 k2 => e _ _ (h2.r i a k1 k2) (fun _ => by intro y; cases y)⟩
theorem RowsB.extN {H H' : Hp} {ra : Addr} {as : List Addr} {T : List (List Nat)} {k : Nat} (e : LamX.ExtN H H') (h : RowsB H ra as T k) : RowsB H' ra as T k :=
  ⟨e _ _ h.l (fun _ => by intro y; cases y), h.n, fun i a k1 k2 => e _ _ (h.r i a k1 k2) (fun _ => by intro y; cases y)⟩
/-- what stays while the law runs -/
structure Fr43 (Cp Pt : Addr) (q : Str) (r c x : Addr) (n : Nat) (rb : Addr) (bs : List Addr) (H : Hp) : Prop where
  R : RngC H r c
  t : LamX.Tabs [(Pt, q)] H
  A : TabA H Cp x n
  B : RowsB H rb bs (tbs n) 0
theorem Fr43.same {Cp Pt r c x rb : Addr} {q : Str} {n : Nat} {bs : List Addr} {H H' : Hp} (h : Fr43 Cp Pt q r c x n rb bs H) (s : Same H H') : Fr43 Cp Pt q r c x n rb bs H' := ⟨h.R.same s, tabs_same s h.t, h.A.same s, h.B.same s⟩
theorem Fr43.but {Cp Pt r c x rb : Addr} {q : Str} {n : Nat} {bs : List Addr} {H H' : Hp} (h : Fr43 Cp Pt q r c x n rb bs H) (R : RngC H' r c) (b : But r H H') : Fr43 Cp Pt q r c x n rb bs H' := ⟨R, h.R.tabs b h.t, h.A.rng h.R b, h.B.rng h.R b⟩
theorem Fr43.extN {Cp Pt r c x rb : Addr} {q : Str} {n : Nat} {bs : List Addr} {H H' : Hp} (h : Fr43 Cp Pt q r c x n rb bs H) (e : LamX.ExtN H H') (t : LamX.Tabs [(Pt, q)] H') : Fr43 Cp Pt q r c x n rb bs H' := ⟨h.R.extN e, t, h.A.extN e, h.B.extN e⟩
/-! ### the law's full rows, and values of terms -/
def fro (T : List (List Nat)) (i j : Nat) : List Nat := (List.range' 1 j).map (opT T i)
theorem fro_len (T : List (List Nat)) (i j : Nat) : (fro T i j).length = j := by unfold fro; rw [List.length_map, List.length_range']
theorem fro_suc (T : List (List Nat)) (i j : Nat) : fro T i (j + 1) = fro T i j ++ [opT T i (j + 1)] := by
  unfold fro
  rw [List.range'_concat, List.map_append, Nat.one_mul, Nat.add_comm 1 j]
  rfl
theorem fro_get {T : List (List Nat)} {i N j : Nat} (h1 : 1 ≤ j) (h2 : j ≤ N) : (nts (fro T i N))[j - 1]? = some (V.int ((opT T i j : Nat) : Int)) := by
  rw [nts_get (by rw [fro_len]; omega)]
  unfold fro
  rw [List.getD_eq_getElem?_getD, List.getElem?_map, List.getElem?_range' (by omega)]
  show some (V.int ((opT T i (1 + 1 * (j - 1)) : Nat) : Int)) = _
  rw [show 1 + 1 * (j - 1) = j by omega]
structure RowsF (H : Hp) (ra : Addr) (as : List Addr) (T : List (List Nat)) (N e : Nat) : Prop where
  l : H ra = some (.lst (as.map V.ref))
  n : as.length = N + 1
  r : ∀ i a, e < i → as[i]? = some a → H a = some (.lst (nts (fro T i N)))
theorem RowsF.same {H H' : Hp} {ra : Addr} {as : List Addr} {T : List (List Nat)} {N e : Nat} (h : RowsF H ra as T N e) (s : Same H H') : RowsF H' ra as T N e := ⟨s _ _ h.l, h.n, fun i a h1 h2 => s _ _ (h.r i a h1 h2)⟩
theorem RowsF.but {H H' : Hp} {p ra : Addr} {as : List Addr} {T : List (List Nat)} {N e : Nat} (h : RowsF H ra as T N e) (s : But p H H') (hp : ∀ i a, e < i → as[i]? = some a → a ≠ p) (hr : ra ≠ p) : RowsF H' ra as T N e :=
  ⟨s _ _ hr h.l, h.n, fun i a h1 h2 => s _ _ (hp i a h1 h2) (h.r i a h1 h2)⟩
theorem RowsF.ne {H : Hp} {ra : Addr} {as : List Addr} {T : List (List Nat)} {N e : Nat} (h : RowsF H ra as T N e) {i : Nat} {a : Addr} (h1 : e < i) (h2 : as[i]? = some a) : a ≠ ra := fun z => by
  have w := h.r i a h1 h2
  rw [z, h.l] at w
  injection w with w
  injection w with w
  exact nts_refs (by rw [h.n]; omega) w.symm
theorem RowsF.rng {H H' : Hp} {ra r c : Addr} {as : List Addr} {T : List (List Nat)} {N e : Nat} (h : RowsF H ra as T N e) (R : RngC H r c) (b : But r H H') : RowsF H' ra as T N e := by
  obtain ⟨ns, i, b0, s, hr, _⟩ := R
  refine h.but b (fun i a k1 k2 z => ?_) (fun z => ?_)
  · have w := h.r i a k1 k2
    rw [z, hr] at w
    injection w with w
    injection w with w
    exact nts_four w
  · have w := h.l
    rw [z, hr] at w
    injection w with w
    injection w with w
    exact refs_four w
theorem RowsF.extN {H H' : Hp} {ra : Addr} {as : List Addr} {T : List (List Nat)} {N k : Nat} (e : LamX.ExtN H H') (h : RowsF H ra as T N k) : RowsF H' ra as T N k :=
  ⟨e _ _ h.l (fun _ => by intro y; cases y), h.n, fun i a k1 k2 => e _ _ (h.r i a k1 k2) (fun _ => by intro y; cases y)⟩
def spFull : Sp := fun vs H Q _ => ∃ n : Nat, vs = [.int (n : Int)] ∧ n ≤ 9 ∧ ∀ (ra : Addr) (as : List Addr) (H' : Hp), Same H H' → H ra = none → RowsF H' ra as (tbs n) (2 ^ n) 0 → Q (.ref ra) H'
def Tree.vl (T : List (List Nat)) : Tree → Nat
  | .L => 1
  | .N l r => opT T (l.vl T) (r.vl T)
theorem vl_rng {N : Nat} {T : List (List Nat)} (g : Good N T) : ∀ t : Tree, 1 ≤ t.vl T ∧ t.vl T ≤ N
  | .L => ⟨Nat.le_refl _, g.pos⟩
  | .N l r => lv_rng g (vl_rng g l).1 (vl_rng g l).2 (vl_rng g r).1 (vl_rng g r).2
def spLV (K : PySem.W.Frag) (k : Nat) : Sp := fun vs H Q _ => ∃ (ra : Addr) (as : List Addr) (n : Nat) (v : V) (t : Tree), vs = [.ref ra, v] ∧ RowsF H ra as (tbs n) (2 ^ n) 0 ∧ n ≤ 9 ∧ TA K H v t ∧ t.dp < k ∧ k ≤ 40 ∧ ∀ H', Same H H' → Q (.int ((t.vl (tbs n) : Nat) : Int)) H'
def spTVal (K : PySem.W.Frag) (C : Addr) (k : Nat) : Sp := fun vs H Q _ => ∃ (x : Addr) (n : Nat) (v : V) (t : Tree), vs = [.ref x, v] ∧ TabA H C x n ∧ n ≤ 9 ∧ TA K H v t ∧ t.dp < k ∧ k ≤ 40 ∧ ∀ H', Same H H' → Q (.int ((t.vl (tbs n) : Nat) : Int)) H'
def spTEv (K : PySem.W.Frag) (C CI : Addr) : Sp := fun vs H Q E => ∃ (x : Addr) (n : Nat) (v : V) (d : PyData), vs = [.ref x, v] ∧ TabA H C x n ∧ n ≤ 9 ∧ NT K H v d ∧ ndD d ≤ 1000 ∧ (∀ t : Tree, d = t.d → t.sz ≤ 12 → t.dp ≤ 6 → ∀ H', Same H H' → Q (.int ((t.vl (tbs n) : Nat) : Int)) H') ∧ (okd d = false → ∀ H', Same H H' → E (.ref CI) none H')
structure Fr45 (Cp Pt : Addr) (q : Str) (r c x : Addr) (n : Nat) (rb : Addr) (bs : List Addr) (H : Hp) : Prop where
  R : RngC H r c
  t : LamX.Tabs [(Pt, q)] H
  A : TabA H Cp x n
  B : RowsF H rb bs (tbs n) (2 ^ n) 0
theorem Fr45.same {Cp Pt r c x rb : Addr} {q : Str} {n : Nat} {bs : List Addr} {H H' : Hp} (h : Fr45 Cp Pt q r c x n rb bs H) (s : Same H H') : Fr45 Cp Pt q r c x n rb bs H' := ⟨h.R.same s, tabs_same s h.t, h.A.same s, h.B.same s⟩
theorem Fr45.but {Cp Pt r c x rb : Addr} {q : Str} {n : Nat} {bs : List Addr} {H H' : Hp} (h : Fr45 Cp Pt q r c x n rb bs H) (R : RngC H' r c) (b : But r H H') : Fr45 Cp Pt q r c x n rb bs H' := ⟨R, h.R.tabs b h.t, h.A.rng h.R b, h.B.rng h.R b⟩
theorem Fr45.extN {Cp Pt r c x rb : Addr} {q : Str} {n : Nat} {bs : List Addr} {H H' : Hp} (h : Fr45 Cp Pt q r c x n rb bs H) (e : LamX.ExtN H H') (t : LamX.Tabs [(Pt, q)] H') : Fr45 Cp Pt q r c x n rb bs H' := ⟨h.R.extN e, t, h.A.extN e, h.B.extN e⟩
theorem iD_shaped (k : Int) : SeqAt.shaped (.int k) = true := rfl
/-! ### models: tuples of tuples of ints -/
def MdA (K : PySem.W.Frag) (H : Hp) (p : Addr) (rows : List (List Int)) : Prop := ∃ qs : List Addr, SqT K H p (qs.map V.ref) ∧ qs.length = rows.length ∧ ∀ (i : Nat) (q : Addr) (r : List Int), qs[i]? = some q → rows[i]? = some r → SqT K H q (r.map V.int)
theorem MdA.tp {K : PySem.W.Frag} {H H' : Hp} {p : Addr} {rows : List (List Int)} (e : Tp H H') (h : MdA K H p rows) : MdA K H' p rows := by
  obtain ⟨qs, h1, h2, h3⟩ := h
  exact ⟨qs, e.sqT h1, h2, fun i q r k1 k2 => e.sqT (h3 i q r k1 k2)⟩
def okV (n : Nat) (v : Int) : Bool := decide (0 ≤ v) && decide (v < (n : Int))
def okR (n : Nat) (r : List Int) : Bool := decide (r.length = n) && r.all (okV n)
def okM (rows : List (List Int)) : Bool := decide (1 ≤ rows.length) && (decide (rows.length ≤ 12) && rows.all (okR rows.length))
def spRow (K : PySem.W.Frag) : Sp := fun vs H Q _ => ∃ (q : Addr) (r : List Int) (n : Nat), vs = [.ref q, .int (n : Int)] ∧ SqT K H q (r.map V.int) ∧ r.length ≤ 1000 ∧ n ≤ 1000 ∧ ∀ H', Same H H' → Q (.bl (okR n r)) H'
def spMd (K : PySem.W.Frag) (C : Addr) : Sp := fun vs H Q E => ∃ (p : Addr) (rows : List (List Int)), vs = [.ref p] ∧ MdA K H p rows ∧ rows.length ≤ 1000 ∧ (∀ r ∈ rows, r.length ≤ 1000) ∧ (okM rows = true → ∀ H', Same H H' → Q .non H') ∧ (okM rows = false → ∀ H', Same H H' → E (.ref C) none H')
theorem not_decB {p : Prop} [Decidable p] (c : (!decide p) = true) : ¬ p := fun z => by rw [decide_eq_true z] at c; cases c
theorem yes_decB {p : Prop} [Decidable p] (c : ¬ (!decide p) = true) : p := by
  by_cases z : p
  · exact z
  · rw [decide_eq_false z] at c
    exact absurd rfl c
def ev (rows : List (List Int)) (a b : Nat) : Nat := ((rows.getD a []).getD b 0).toNat
structure MdN (K : PySem.W.Frag) (H : Hp) (p : Addr) (rows : List (List Int)) (n : Nat) (qs : List Addr) : Prop where
  S : SqT K H p (qs.map V.ref)
  n1 : 1 ≤ n
  n2 : n ≤ 12
  len : qs.length = n
  ix : ∀ a : Nat, a < n → atI (qs.map V.ref) (a : Int) = some (V.ref (qs.getD a 0))
  row : ∀ a : Nat, a < n → SqT K H (qs.getD a 0) ((rows.getD a []).map V.int)
  at_ : ∀ a b : Nat, a < n → b < n → atI ((rows.getD a []).map V.int) (b : Int) = some (V.int ((ev rows a b : Nat) : Int))
  lt : ∀ a b : Nat, a < n → b < n → ev rows a b < n
theorem okM_row {rows : List (List Int)} (h : okM rows = true) : 1 ≤ rows.length ∧ rows.length ≤ 12 ∧ ∀ r ∈ rows, r.length = rows.length ∧ ∀ v ∈ r, 0 ≤ v ∧ v < (rows.length : Int) := by
  unfold okM at h
  rw [Bool.and_eq_true, Bool.and_eq_true] at h
  obtain ⟨h1, h2, h3⟩ := h
  refine ⟨of_decide_eq_true h1, of_decide_eq_true h2, fun r hr => ?_⟩
  have z := List.all_eq_true.mp h3 r hr
  unfold okR at z
  rw [Bool.and_eq_true] at z
  refine ⟨of_decide_eq_true z.1, fun v hv => ?_⟩
  have y := List.all_eq_true.mp z.2 v hv
  unfold okV at y
  rw [Bool.and_eq_true] at y
  exact ⟨of_decide_eq_true y.1, of_decide_eq_true y.2⟩
theorem MdA.n {K : PySem.W.Frag} {H : Hp} {p : Addr} {rows : List (List Int)} (h : MdA K H p rows) (ok : okM rows = true) : ∃ qs, MdN K H p rows rows.length qs := by
  obtain ⟨qs, h1, h2, h3⟩ := h
  obtain ⟨o1, o2, o3⟩ := okM_row ok
  have hr : ∀ a : Nat, a < rows.length → rows[a]? = some (rows.getD a []) := fun a ha => by
    rw [List.getD_eq_getElem?_getD, List.getElem?_eq_getElem ha]
    rfl
  have hq : ∀ a : Nat, a < rows.length → qs[a]? = some (qs.getD a 0) := fun a ha => by
    rw [List.getD_eq_getElem?_getD, List.getElem?_eq_getElem (by omega)]
    rfl
  have hl : ∀ a : Nat, a < rows.length → (rows.getD a []).length = rows.length := fun a ha => (o3 _ (List.mem_of_getElem? (hr a ha))).1
  have hv : ∀ a b : Nat, a < rows.length → b < rows.length → (rows.getD a [])[b]? = some ((rows.getD a []).getD b 0) := fun a b ha hb => by
    rw [List.getD_eq_getElem?_getD (l := rows.getD a []), List.getElem?_eq_getElem (by rw [hl a ha]; exact hb)]
    rfl
  have hp : ∀ a b : Nat, a < rows.length → b < rows.length → 0 ≤ (rows.getD a []).getD b 0 ∧ (rows.getD a []).getD b 0 < (rows.length : Int) := fun a b ha hb => (o3 _ (List.mem_of_getElem? (hr a ha))).2 _ (List.mem_of_getElem? (hv a b ha hb))
  refine ⟨qs, h1, o1, o2, h2, fun a ha => atI_nat (by rw [List.getElem?_map, hq a ha]; rfl), fun a ha => h3 a _ _ (hq a ha) (hr a ha), fun a b ha hb => atI_nat ?_, fun a b ha hb => ?_⟩
  · rw [List.getElem?_map, hv a b ha hb]
    show some (V.int _) = some (V.int (((((rows.getD a []).getD b 0).toNat : Nat)) : Int))
    rw [Int.toNat_of_nonneg (hp a b ha hb).1]
  · have := hp a b ha hb
    unfold ev
    omega
theorem MdN.tp {K : PySem.W.Frag} {H H' : Hp} {p : Addr} {rows : List (List Int)} {n : Nat} {qs : List Addr} (e : Tp H H') (h : MdN K H p rows n qs) : MdN K H' p rows n qs := ⟨e.sqT h.S, h.n1, h.n2, h.len, h.ix, fun a ha => e.sqT (h.row a ha), h.at_, h.lt⟩
def okT (rows : List (List Int)) (a b c : Nat) : Prop := ev rows a (ev rows b c) = ev rows (ev rows a b) (ev rows a c)
def Fst (n : Nat) (P : Nat → Nat → Nat → Prop) : Option (Nat × Nat × Nat) → Prop
  | none => ∀ a b c, a < n → b < n → c < n → P a b c
  | some (a, b, c) => a < n ∧ b < n ∧ c < n ∧ ¬ P a b c ∧ (∀ a' b' c', a' < a → b' < n → c' < n → P a' b' c') ∧ (∀ b' c', b' < b → c' < n → P a b' c') ∧ ∀ c', c' < c → P a b c'
theorem Fst.unique {n : Nat} {P : Nat → Nat → Nat → Prop} : ∀ {x y : Option (Nat × Nat × Nat)}, Fst n P x → Fst n P y → x = y
  | none, none, _, _ => rfl
  | none, some (a, b, c), h, ⟨h1, h2, h3, h4, _⟩ => absurd (h a b c h1 h2 h3) h4
  | some (a, b, c), none, ⟨h1, h2, h3, h4, _⟩, h => absurd (h a b c h1 h2 h3) h4
  | some (a, b, c), some (a', b', c'), ⟨h1, h2, h3, h4, h5, h6, h7⟩, ⟨k1, k2, k3, k4, k5, k6, k7⟩ => by
    have ea : a = a' := by
      rcases Nat.lt_trichotomy a a' with z | z | z
      · exact absurd (k5 a b c z h2 h3) h4
      · exact z
      · exact absurd (h5 a' b' c' z k2 k3) k4
    subst ea
    have eb : b = b' := by
      rcases Nat.lt_trichotomy b b' with z | z | z
      · exact absurd (k6 b c z h3) h4
      · exact z
      · exact absurd (h6 b' c' z k3) k4
    subst eb
    have ec : c = c' := by
      rcases Nat.lt_trichotomy c c' with z | z | z
      · exact absurd (k7 c z) h4
      · exact z
      · exact absurd (h7 c' z) k4
    rw [ec]
def VRes (K : PySem.W.Frag) (H : Hp) (v : V) : Option (Nat × Nat × Nat) → Prop
  | none => v = .non
  | some (a, b, c) => ∃ q, v = .ref q ∧ SqT K H q [.int (a : Int), .int (b : Int), .int (c : Int)]
def spFV (K : PySem.W.Frag) (C : Addr) : Sp := fun vs H Q E => ∃ (p : Addr) (rows : List (List Int)), vs = [.ref p] ∧ MdA K H p rows ∧ rows.length ≤ 1000 ∧ (∀ r ∈ rows, r.length ≤ 1000) ∧ (okM rows = true → ∀ (H' : Hp) (v : V) (res : Option (Nat × Nat × Nat)), Same H H' → VRes K H' v res → Fst rows.length (okT rows) res → Q v H') ∧ (okM rows = false → ∀ H', Same H H' → E (.ref C) none H')
def spLVi (K : PySem.W.Frag) : Sp := fun vs H Q _ => ∃ (p : Addr) (rows : List (List Int)), vs = [.ref p] ∧ MdA K H p rows ∧ okM rows = true ∧ ∀ (H' : Hp) (v : V) (res : Option (Nat × Nat × Nat)), Same H H' → VRes K H' v res → Fst rows.length (okT rows) res → Q v H'
/-- a def that checks its model first: what it does with an invalid one -/
def spMdX (K : PySem.W.Frag) (C : Addr) (k : Nat) : Sp := fun vs H Q E => ∃ (p : Addr) (rows : List (List Int)) (ws : List V), vs = .ref p :: ws ∧ ws.length = k ∧ MdA K H p rows ∧ rows.length ≤ 1000 ∧ (∀ r ∈ rows, r.length ≤ 1000) ∧ okM rows = false ∧ ∀ H', Same H H' → E (.ref C) none H'
def MkA (K : PySem.W.Frag) (ta : L2.TA) (ds : List PyData) : Prop := ∀ σ H (Q : List V → Hp → Prop), (∀ vs H', Same H H' → DpAll K H' vs ds → Q vs H') → ta σ H Q
theorem mkA_nil {K : PySem.W.Frag} : MkA K tNil [] := fun σ H Q q => q [] H (Same.refl _) .nil
theorem mkA_cons {K : PySem.W.Frag} {te : TE} {ta : L2.TA} {d : PyData} {ds : List PyData} (h : Mk K te d) (hA : MkA K ta ds) : MkA K (tCons te ta) (d :: ds) := fun σ H Q q =>
  h σ H _ fun v H1 s1 h1 => hA σ H1 _ fun vs H2 s2 h2 => q (v :: vs) H2 (s1.trans s2) (.cons (dp_same s2 _ h1) h2)
theorem dpAll_lenV {K : PySem.W.Frag} {H : Hp} : ∀ {vs : List V} {ds : List PyData}, DpAll K H vs ds → vs.length = ds.length
  | _, _, .nil => rfl
  | _, _, .cons _ h => congrArg (· + 1) (dpAll_lenV h)
theorem mk_tup {K : PySem.W.Frag} {ta : L2.TA} {ds : List PyData} (h : MkA K ta ds) (hl : ds.length ≤ 1000) : Mk K (tTup ta) (.tuple ds) := fun σ H Q q =>
  h σ H _ fun vs H1 s1 h1 => ⟨by rw [dpAll_lenV h1, sizeLine_eq]; omega, fun p np => q _ _ (s1.trans (Same.new np _)) (Dp.tup (SqT.here upd_same) (dp_sameAll (Same.new np _) _ h1))⟩
theorem mk_int {K : PySem.W.Frag} {i : Int} : Mk K (tC (.int i)) (.int i) := fun σ H Q q => q _ H (Same.refl _) (.int i)
def rowD (r : List Int) : PyData := .tuple (r.map .int)
def mdD (rows : List (List Int)) : PyData := .tuple (rows.map rowD)
theorem row_of {K : PySem.W.Frag} {H : Hp} : ∀ {vs : List V} {r : List Int}, DpAll K H vs (r.map .int) → vs = r.map V.int
  | [], [], _ => rfl
  | v :: vs, i :: r, .cons h1 h2 => by
    cases h1
    rw [row_of h2]
    rfl
theorem rows_of {K : PySem.W.Frag} {H : Hp} : ∀ {vs : List V} {rows : List (List Int)}, DpAll K H vs (rows.map rowD) → ∃ qs : List Addr, vs = qs.map V.ref ∧ qs.length = rows.length ∧ ∀ (i : Nat) (q : Addr) (r : List Int), qs[i]? = some q → rows[i]? = some r → SqT K H q (r.map V.int)
  | [], [], _ => ⟨[], rfl, rfl, fun i q r h => by cases h⟩
  | v :: vs, r :: rows, .cons h1 h2 => by
    obtain ⟨qs, rfl, e2, e3⟩ := rows_of h2
    cases h1 with
    | tup hS hA =>
      rename_i a xs
      have ex := row_of hA
      subst ex
      refine ⟨a :: qs, rfl, by simp [e2], fun i q r' k1 k2 => ?_⟩
      cases i with
      | zero =>
        cases k1
        cases k2
        exact hS
      | succ i => exact e3 i q r' k1 k2
theorem md_of {K : PySem.W.Frag} {H : Hp} {v : V} {rows : List (List Int)} (h : Dp K H v (mdD rows)) : ∃ p, v = .ref p ∧ MdA K H p rows := by
  cases h with
  | tup hS hA =>
    obtain ⟨qs, rfl, e2, e3⟩ := rows_of hA
    exact ⟨_, rfl, qs, hS, e2, e3⟩
def BadMd (K : PySem.W.Frag) (H : Hp) (v : V) : Prop := ∃ (p : Addr) (rows : List (List Int)), v = .ref p ∧ MdA K H p rows ∧ rows.length ≤ 1000 ∧ (∀ r ∈ rows, r.length ≤ 1000) ∧ okM rows = false
theorem BadMd.tp {K : PySem.W.Frag} {H H' : Hp} {v : V} (e : Tp H H') (h : BadMd K H v) : BadMd K H' v := by
  obtain ⟨p, rows, h1, h2, h3⟩ := h
  exact ⟨p, rows, h1, h2.tp e, h3⟩
theorem bad_of {K : PySem.W.Frag} {H : Hp} {v : V} (rows : List (List Int)) (h : Dp K H v (mdD rows)) (h1 : rows.length ≤ 1000) (h2 : rows.all (fun r => decide (r.length ≤ 1000)) = true) (h3 : okM rows = false) : BadMd K H v := by
  obtain ⟨p, e, hM⟩ := md_of h
  exact ⟨p, rows, e, hM, h1, fun r hr => of_decide_eq_true (List.all_eq_true.mp h2 r hr), h3⟩
def spBadM (K : PySem.W.Frag) : Sp := fun vs H Q _ => ∃ r c : Addr, vs = [.ref r] ∧ RngC H r c ∧ ∀ v H', BadMd K H' v → RngC H' r c → But r H H' → Q v H'
theorem lstA {K : PySem.W.Frag} {ta : L2.TA} {ds : List PyData} (h : MkA K ta ds) (hl : ds.length ≤ 1000) {i : Nat} {B : TS} {D : Ends} {σ : L2.St} {H : Hp}
    (q : ∀ (a : Addr) (vs : List V) (H' : Hp), Same H H' → H a = none → H' a = some (.lst vs) → DpAll K H' vs ds → B D (σ.set i (some (.ref a))) H') : tSeq (tAsg (tLst ta) (gName i)) B D σ H :=
  h σ H _ fun vs H1 s1 h1 => ⟨by rw [dpAll_lenV h1, sizeLine_eq]; omega, fun a na => q a vs _ (s1.trans (Same.new na _)) (s1.free na) upd_same (dp_sameAll (Same.new na _) _ h1)⟩
theorem allBad {K : PySem.W.Frag} {H : Hp} : ∀ {vs : List V} (rs : List (List (List Int))), DpAll K H vs (rs.map mdD) → (rs.all fun rows => decide (rows.length ≤ 1000) && (rows.all (fun r => decide (r.length ≤ 1000)) && !okM rows)) = true → ∀ x ∈ vs, BadMd K H x
  | [], [], _, _ => fun x hx => nomatch hx
  | v :: vs, rows :: rs, .cons h1 h2, hc => by
    have hc : ((decide (rows.length ≤ 1000) && (rows.all (fun r => decide (r.length ≤ 1000)) && !okM rows)) && rs.all fun rows => decide (rows.length ≤ 1000) && (rows.all (fun r => decide (r.length ≤ 1000)) && !okM rows)) = true := hc
    rw [Bool.and_eq_true, Bool.and_eq_true, Bool.and_eq_true] at hc
    obtain ⟨⟨c1, c2, c3⟩, c4⟩ := hc
    intro x hx
    rcases List.mem_cons.mp hx with rfl | hx
    · exact bad_of rows h1 (of_decide_eq_true c1) c2 (by simpa using c3)
    · exact allBad rs h2 c4 x hx
def z13 : List (List Int) := List.replicate 13 (List.replicate 13 0)
theorem z13_bad {K : PySem.W.Frag} {H : Hp} {p q : Addr} (h1 : SqT K H p (List.replicate (13 : Int).toNat [V.ref q]).flatten) (h2 : SqT K H q (List.replicate (13 : Int).toNat [V.int 0]).flatten) : BadMd K H (.ref p) := by
  refine ⟨p, z13, rfl, ⟨List.replicate 13 q, h1, rfl, fun i a r k1 k2 => ?_⟩, by decide, ?_, by decide⟩
  · have e1 : a = q := (List.mem_replicate.mp (List.mem_of_getElem? k1)).2
    have e2 : r = List.replicate 13 0 := (List.mem_replicate.mp (List.mem_of_getElem? k2)).2
    rw [e1, e2]
    exact h2
  · intro r hr
    rw [(List.mem_replicate.mp hr).2]
    decide
def spAnyM (K : PySem.W.Frag) : Sp := fun vs H Q _ => ∃ (r c : Addr) (top : Int), vs = [.ref r, .int top] ∧ RngC H r c ∧ 1 ≤ top ∧ top ≤ 12 ∧ ∀ (p : Addr) (rows : List (List Int)) (H' : Hp), MdA K H' p rows → okM rows = true → RngC H' r c → But r H H' → Q (.ref p) H'
def rTupOf (K : PySem.W.Frag) : List V → Hp → VK → Prop := fun xs H Q => ∃ (p : Addr) (ys : List V), xs = [V.ref p] ∧ ((SqL K H p ys ∧ ∀ l, H l = none → Q (.ref l) (upd H l (.tup ys))) ∨ (SqT K H p ys ∧ Q (.ref p) H))
theorem call_tupK {X : Cx} : CallR X (.type "tuple") (rTupOf X.K) := call_tuple_of
/-- a list of lists of ints in the making -/
structure RowsL (H : Hp) (D : Addr) (N : Nat) (qs : List Addr) (rows : List (List Int)) : Prop where
  l : H D = some (.lst (qs.map V.ref))
  n : qs.length = rows.length
  ok : ∀ rw ∈ rows, okR N rw = true
  r : ∀ (j : Nat) (q : Addr) (rw : List Int), qs[j]? = some q → rows[j]? = some rw → H q = some (.lst (rw.map V.int)) ∧ q ≠ D
theorem RowsL.step {G G2 : Hp} {D q r : Addr} {N : Nat} {qs : List Addr} {rows : List (List Int)} {rw' : List Int} (h : RowsL G D N qs rows) (b : But r G G2) (hD : D ≠ r) (hr : ∀ (j : Nat) (q : Addr), qs[j]? = some q → q ≠ r) (hq : G q = none) (h2 : G2 q = some (.lst (rw'.map V.int))) (ok : okR N rw' = true) :
    RowsL (upd G2 D (.lst (qs.map V.ref ++ [.ref q]))) D N (qs ++ [q]) (rows ++ [rw']) := by
  have nq : q ≠ D := fun z => by rw [z, h.l] at hq; cases hq
  refine ⟨by rw [upd_same, List.map_append]; rfl, by rw [List.length_append, List.length_append, h.n]; rfl, fun rw hrw => ?_, fun j a rw k1 k2 => ?_⟩
  · rcases List.mem_append.mp hrw with z | z
    · exact h.ok rw z
    · rw [List.mem_singleton.mp z]
      exact ok
  · rcases Nat.lt_or_ge j qs.length with z | z
    · rw [List.getElem?_append_left z] at k1
      rw [List.getElem?_append_left (by rw [← h.n]; exact z)] at k2
      obtain ⟨e1, e2⟩ := h.r j a rw k1 k2
      exact ⟨by rw [upd_ne e2]; exact b _ _ (hr j a k1) e1, e2⟩
    · rw [List.getElem?_append_right z] at k1
      rw [List.getElem?_append_right (by rw [← h.n]; exact z)] at k2
      have hj : j - qs.length = 0 := by
        obtain ⟨y, _⟩ := List.getElem?_eq_some_iff.mp k1
        simpa using y
      rw [hj] at k1
      rw [← h.n, hj] at k2
      cases k1
      cases k2
      exact ⟨by rw [upd_ne nq]; exact h2, nq⟩
theorem rgV_ints (N : Int) : rgV 0 N = ((List.range N.toNat).map fun i => (0 : Int) + (i : Nat)).map V.int := by
  unfold rgV
  rw [List.map_map, Int.sub_zero]
  rfl
theorem rowF {N : Nat} {ns : List Int} {f : Int → Int} (hl : ns.length = N) (hf : ∀ n, 0 ≤ f n ∧ f n < (N : Int)) : okR N (ns.map f) = true := by
  unfold okR
  rw [List.length_map, decide_eq_true hl, Bool.true_and, List.all_map, List.all_eq_true]
  intro n _
  show okV N (f n) = true
  unfold okV
  rw [decide_eq_true (hf n).1, decide_eq_true (hf n).2]
  rfl
theorem RowsL.step0 {G G2 : Hp} {D q r : Addr} {N : Nat} {qs : List Addr} {rows : List (List Int)} {rw' : List Int} (h : RowsL G D N qs rows) (b : But r G G2) (hD : D ≠ r) (hr : ∀ (j : Nat) (q : Addr), qs[j]? = some q → q ≠ r) (nq : q ≠ D) (h2 : G2 q = some (.lst (rw'.map V.int))) (ok : okR N rw' = true) :
    RowsL (upd G2 D (.lst (qs.map V.ref ++ [.ref q]))) D N (qs ++ [q]) (rows ++ [rw']) := by
  refine ⟨by rw [upd_same, List.map_append]; rfl, by rw [List.length_append, List.length_append, h.n]; rfl, fun rw hrw => ?_, fun j a rw k1 k2 => ?_⟩
  · rcases List.mem_append.mp hrw with z | z
    · exact h.ok rw z
    · rw [List.mem_singleton.mp z]
      exact ok
  · rcases Nat.lt_or_ge j qs.length with z | z
    · rw [List.getElem?_append_left z] at k1
      rw [List.getElem?_append_left (by rw [← h.n]; exact z)] at k2
      obtain ⟨e1, e2⟩ := h.r j a rw k1 k2
      exact ⟨by rw [upd_ne e2]; exact b _ _ (hr j a k1) e1, e2⟩
    · rw [List.getElem?_append_right z] at k1
      rw [List.getElem?_append_right (by rw [← h.n]; exact z)] at k2
      have hj : j - qs.length = 0 := by
        obtain ⟨y, _⟩ := List.getElem?_eq_some_iff.mp k1
        simpa using y
      rw [hj] at k1
      rw [← h.n, hj] at k2
      cases k1
      cases k2
      exact ⟨by rw [upd_ne nq]; exact h2, nq⟩
theorem rg_mem {N : Int} {v : Int} (h : v ∈ (List.range N.toNat).map fun i => (0 : Int) + (i : Nat)) : 0 ≤ v ∧ v < N := by
  obtain ⟨i, hi, rfl⟩ := List.mem_map.mp h
  have := List.mem_range.mp hi
  omega
theorem okM_of {rows : List (List Int)} {M : Nat} (h : rows.length = M) (h1 : 1 ≤ M) (h2 : M ≤ 12) (ok : ∀ rw ∈ rows, okR M rw = true) : okM rows = true := by
  unfold okM
  rw [h, decide_eq_true h1, decide_eq_true h2, Bool.true_and, Bool.true_and, List.all_eq_true]
  exact ok
theorem cut_sufM {ys : List V} {j : Nat} (h : j ≤ ys.length) : cutV ys (some (j : Int)) none = ys.drop j := by
  unfold cutV
  rw [HT.sIx_none, HT.sIx_nat, Nat.min_eq_left h, List.take_of_length_le (by rw [List.length_drop]; omega)]
theorem nts_ints (r : List Nat) : nts r = (r.map fun (k : Nat) => (k : Int)).map V.int := by
  unfold nts
  rw [List.map_map]
  rfl
def resD : Option (Nat × Nat × Nat) → PyData
  | none => .none
  | some (a, b, c) => .tuple [.int (a : Int), .int (b : Int), .int (c : Int)]
theorem dp_res {K : PySem.W.Frag} {H : Hp} {v : V} : ∀ {res : Option (Nat × Nat × Nat)}, VRes K H v res → Dp K H v (resD res)
  | none, h => by
    have h : v = .non := h
    rw [h]
    exact .non
  | some (a, b, c), ⟨q, e, h⟩ => by
    rw [e]
    exact Dp.tup h (.cons (.int _) (.cons (.int _) (.cons (.int _) .nil)))
theorem res_shaped (res : Option (Nat × Nat × Nat)) : SeqAt.shaped (resD res) = true := by
  match res with
  | none => rfl
  | some (a, b, c) =>
    show SeqAt.shaped (.tuple [.int 0, .int 0, .int 0]) = true
    decide +kernel
theorem res_depth (res : Option (Nat × Nat × Nat)) : (resD res).depth < 14 := by
  match res with
  | none => decide +kernel
  | some (a, b, c) =>
    show PyData.depth (.tuple [.int 0, .int 0, .int 0]) < 14
    decide +kernel
theorem res_wide (res : Option (Nat × Nat × Nat)) : wide (resD res) = true := by
  match res with
  | none => rfl
  | some (a, b, c) => rfl
theorem fst_one {res : Option (Nat × Nat × Nat)} (h : Fst 1 (okT [[0]]) res) : res = none := by
  refine h.unique (y := none) ?_
  intro a b c h1 h2 h3
  obtain rfl : a = 0 := by omega
  obtain rfl : b = 0 := by omega
  obtain rfl : c = 0 := by omega
  show _ = _
  decide
theorem fst_two {res : Option (Nat × Nat × Nat)} (h : Fst 2 (okT [[0, 0], [1, 0]]) res) : res = some (1, 0, 0) := by
  refine h.unique (y := some (1, 0, 0)) ⟨by decide, by decide, by decide, (fun z => absurd (show _ = _ from z) (by decide)), fun a b c h1 h2 h3 => ?_, fun b c h1 => absurd h1 (by omega), fun c h1 => absurd h1 (by omega)⟩
  obtain rfl : a = 0 := by omega
  show _ = _
  match b, c, h2, h3 with
  | 0, 0, _, _ => decide
  | 0, 1, _, _ => decide
  | 1, 0, _, _ => decide
  | 1, 1, _, _ => decide
/-! ### models by an operation -/
def rowsOf (n : Nat) (op : Nat → Nat → Nat) : List (List Int) := (List.range n).map fun a => (List.range n).map fun b => ((op a b : Nat) : Int)
theorem rowsOf_len (n : Nat) (op : Nat → Nat → Nat) : (rowsOf n op).length = n := by
  unfold rowsOf
  rw [List.length_map, List.length_range]
theorem rowsOf_at {n : Nat} {op : Nat → Nat → Nat} {a : Nat} (h : a < n) : (rowsOf n op)[a]? = some ((List.range n).map fun b => ((op a b : Nat) : Int)) := by
  unfold rowsOf
  rw [List.getElem?_map, List.getElem?_range h]
  rfl
theorem ev_rowsOf {n : Nat} {op : Nat → Nat → Nat} {a b : Nat} (ha : a < n) (hb : b < n) : ev (rowsOf n op) a b = op a b := by
  unfold ev
  have h1 : (rowsOf n op).getD a [] = (List.range n).map fun b => ((op a b : Nat) : Int) := by
    rw [List.getD_eq_getElem?_getD, rowsOf_at ha]
    rfl
  rw [h1]
  rw [List.getD_eq_getElem?_getD, List.getElem?_map, List.getElem?_range hb]
  exact Int.toNat_natCast _
theorem okM_rowsOf {n : Nat} {op : Nat → Nat → Nat} (n1 : 1 ≤ n) (n2 : n ≤ 12) (h : ∀ a b, a < n → b < n → op a b < n) : okM (rowsOf n op) = true := by
  unfold okM
  rw [rowsOf_len, decide_eq_true n1, decide_eq_true n2, Bool.true_and, Bool.true_and, List.all_eq_true]
  intro r hr
  unfold rowsOf at hr
  obtain ⟨a, ha, rfl⟩ := List.mem_map.mp hr
  have ha := List.mem_range.mp ha
  unfold okR
  rw [List.length_map, List.length_range, decide_eq_true rfl, Bool.true_and, List.all_eq_true]
  intro v hv
  obtain ⟨b, hb, rfl⟩ := List.mem_map.mp hv
  have hb := List.mem_range.mp hb
  have := h a b ha hb
  unfold okV
  rw [decide_eq_true (Int.natCast_nonneg _), decide_eq_true (by omega)]
  rfl
theorem rowsOf_small {n : Nat} {op : Nat → Nat → Nat} (h : n ≤ 1000) : (rowsOf n op).length ≤ 1000 ∧ ∀ r ∈ rowsOf n op, r.length ≤ 1000 := by
  refine ⟨by rw [rowsOf_len]; exact h, fun r hr => ?_⟩
  unfold rowsOf at hr
  obtain ⟨a, _, rfl⟩ := List.mem_map.mp hr
  rw [List.length_map, List.length_range]
  exact h
theorem rowsOf_congr {n : Nat} {op op' : Nat → Nat → Nat} (h : ∀ a b, a < n → b < n → op a b = op' a b) : rowsOf n op = rowsOf n op' := by
  unfold rowsOf
  refine List.map_congr_left fun a ha => List.map_congr_left fun b hb => ?_
  rw [h a b (List.mem_range.mp ha) (List.mem_range.mp hb)]
theorem Fst_none {n : Nat} {op : Nat → Nat → Nat} (hl : ∀ a b, a < n → b < n → op a b < n) (h : ∀ a b c, a < n → b < n → c < n → op a (op b c) = op (op a b) (op a c)) : Fst n (okT (rowsOf n op)) none := fun a b c ha hb hc => by
  unfold okT
  have h1 := hl b c hb hc
  have h2 := hl a b ha hb
  have h3 := hl a c ha hc
  rw [ev_rowsOf hb hc, ev_rowsOf ha h1, ev_rowsOf ha hb, ev_rowsOf ha hc, ev_rowsOf h2 h3]
  exact h a b c ha hb hc
def spMdOf (P : Program) (w : World) (K : PySem.W.Frag) (mg : Str → Option Value) (base : Heap) (k : Nat) : Sp := fun vs H Q _ => ∃ (n : Nat) (f : Addr) (op : Nat → Nat → Nat), vs = [.int (n : Int), .ref f] ∧ LamP P w K mg base k f n op H ∧ n ≤ 1000 ∧ ∀ (p : Addr) (H' : Hp), Same H H' → MdA K H' p (rowsOf n op) → Q (.ref p) H'
/-- a comprehension over range(n) that maps -/
theorem lc_mapRg {n : Nat} {g : TG} {te : TE} {vs : List Nat} {σ : L2.St} {H1 : Hp} {D : Addr} {Qd : Hp → Prop} {ψ : Nat → V} (hD : H1 D = none) (hl : n ≤ 10000)
    (hs : ∀ i G (R : V → Hp → Prop), i < n → Same H1 G → (∀ H4, Same G H4 → R (ψ i) H4) → g (.int ((0 : Int) + (i : Nat))) (wipe σ vs) G fun σ2 H2 => wipe σ2 vs = wipe σ vs ∧ te σ2 H2 R)
    (hd : ∀ G, Same H1 G → G D = some (.lst ((List.range n).map ψ)) → Qd G) :
    ∃ W : Nat → Nat → Hp → Prop, (∃ m, W 0 m (upd H1 D (.lst []))) ∧ ∀ i m H, W i m H →
      ((Itr 0 n).stop i H ∧ Qd H) ∨ ((Itr 0 n).go i H ∧ ∃ Nx : Hp → Prop, (∀ H', Nx H' → ∃ m', m' < m ∧ W (i + 1) m' H') ∧ ∀ x H', (Itr 0 n).yld i H x H' → g x (wipe σ vs) H' fun σ2 H2 => wipe σ2 vs = wipe σ vs ∧ tYes σ2 H2 fun b H3 =>
        if b = true then te σ2 H3 fun y H4 => ∃ acc, H4 D = some (.lst acc) ∧ acc.length < sizeLine ∧ Nx (upd H4 D (.lst (acc ++ [y]))) else Nx H3) := by
  refine lc_range (lo := 0) (n := n) (tt := tYes) (fun i G => Same H1 G ∧ G D = some (.lst ((List.range i).map ψ))) ⟨Same.new hD _, upd_same⟩ ?_ ?_
  · rintro i G hi ⟨sm, hl2⟩
    refine hs i G _ hi sm fun H4 s4 => ⟨_, s4 _ _ hl2, ?_, fun b o z => ?_, ?_⟩
    · rw [List.length_map, List.length_range]
      exact Nat.lt_of_lt_of_le (by omega : _ < 10001) (by decide)
    · rw [upd_ne (ne_of_none z hD)]
      exact s4 _ _ (sm _ _ z)
    · rw [upd_same, List.range_succ, List.map_append]
      rfl
  · rintro G ⟨sm, h⟩
    exact hd G sm h
/-! ### affine models -/
def aff (m : Nat) (f : Int) (a b : Nat) : Nat := (((a : Int) + f * ((b : Int) - (a : Int))) % (m : Int)).toNat
theorem aff_cast {m : Nat} (hm : 1 ≤ m) (f : Int) (a b : Nat) : ((aff m f a b : Nat) : Int) = ((a : Int) + f * ((b : Int) - (a : Int))) % (m : Int) := by
  unfold aff
  exact Int.toNat_of_nonneg (Int.emod_nonneg _ (by omega))
theorem aff_lt {m : Nat} (hm : 1 ≤ m) (f : Int) (a b : Nat) : aff m f a b < m := by
  have h1 := aff_cast hm f a b
  have h2 := Int.emod_lt_of_pos ((a : Int) + f * ((b : Int) - (a : Int))) (show (0 : Int) < (m : Int) by omega)
  omega
theorem emod_same {x y m k : Int} (h : x - y = m * k) : x % m = y % m := by
  have e : x = y + m * k := by omega
  rw [e, Int.add_mul_emod_self_left]
theorem aff_dist {m : Nat} (hm : 1 ≤ m) (f : Int) (a b c : Nat) : aff m f a (aff m f b c) = aff m f (aff m f a b) (aff m f a c) := by
  have e : ((aff m f a (aff m f b c) : Nat) : Int) = ((aff m f (aff m f a b) (aff m f a c) : Nat) : Int) := by
    rw [aff_cast hm f a (aff m f b c), aff_cast hm f (aff m f a b) (aff m f a c), aff_cast hm f b c, aff_cast hm f a b, aff_cast hm f a c]
    have q1 := Int.emod_def ((b : Int) + f * ((c : Int) - (b : Int))) (m : Int)
    have q2 := Int.emod_def ((a : Int) + f * ((b : Int) - (a : Int))) (m : Int)
    have q3 := Int.emod_def ((a : Int) + f * ((c : Int) - (a : Int))) (m : Int)
    rw [q1, q2, q3]
    generalize ((b : Int) + f * ((c : Int) - (b : Int))) / (m : Int) = d1
    generalize ((a : Int) + f * ((b : Int) - (a : Int))) / (m : Int) = d2
    generalize ((a : Int) + f * ((c : Int) - (a : Int))) / (m : Int) = d3
    exact emod_same (k := d2 + f * (d3 - d2) - f * d1) (by grind)
  exact Int.ofNat.inj e
def affT (T : List (Addr × Str)) (K : PySem.W.Frag) (CS : Addr) : Sp := fun vs H Q E => ∃ (m f : Int), vs = [.int m, .int f] ∧ LamX.Tabs T H ∧ -(2 ^ 60) < f ∧ f < 2 ^ 60 ∧ (¬ (1 ≤ m ∧ m ≤ 12) → E (.ref CS) none H) ∧ ∀ n : Nat, m = (n : Int) → 1 ≤ n → n ≤ 12 → ∀ (p : Addr) (H' : Hp), LamX.ExtN H H' → LamX.Tabs T H' → MdA K H' p (rowsOf n (aff n f)) → Q (.ref p) H'
theorem ExtN.same {H H' : Hp} (s : Same H H') : LamX.ExtN H H' := LamX.ExtN.of s
def spLawTs (K : PySem.W.Frag) (Ps : List Addr) : Sp := fun vs H Q _ => ∃ (a : Addr) (ns : List Int), vs = [.ref a] ∧ SqL K H a (ns.map V.int) ∧ (∀ P ∈ Ps, H P = some (.tbl #[])) ∧ ∀ H', Q (.bl true) H'
theorem dp_row {K : PySem.W.Frag} {H : Hp} : ∀ r : List Int, DpAll K H (r.map V.int) (r.map .int)
  | [] => .nil
  | i :: r => .cons (.int i) (dp_row r)
theorem dp_rows {K : PySem.W.Frag} {H : Hp} : ∀ {qs : List Addr} {rows : List (List Int)}, qs.length = rows.length → (∀ (i : Nat) (q : Addr) (r : List Int), qs[i]? = some q → rows[i]? = some r → SqT K H q (r.map V.int)) → DpAll K H (qs.map V.ref) (rows.map rowD)
  | [], [], _, _ => .nil
  | q :: qs, r :: rows, e, h => .cons (Dp.tup (h 0 q r rfl rfl) (dp_row r)) (dp_rows (Nat.succ.inj e) fun i q' r' k1 k2 => h (i + 1) q' r' k1 k2)
theorem md_dp {K : PySem.W.Frag} {H : Hp} {p : Addr} {rows : List (List Int)} (h : MdA K H p rows) : Dp K H (.ref p) (mdD rows) := by
  obtain ⟨qs, h1, h2, h3⟩ := h
  exact Dp.tup h1 (dp_rows h2 h3)
theorem row_lay : ∀ r : List Int, PyData.canLayAll0 (r.map .int) = true
  | [] => rfl
  | _ :: r => row_lay r
theorem row_dep : ∀ r : List Int, PyData.depthAll (r.map .int) ≤ 1
  | [] => Nat.zero_le _
  | i :: r => by
    have h := row_dep r
    show max (PyData.depth (.int i)) (PyData.depthAll (r.map .int)) ≤ 1
    have e : PyData.depth (.int i) ≤ 1 := by first | exact Nat.le_refl _ | exact Nat.zero_le _
    omega
theorem rows_lay : ∀ rows : List (List Int), PyData.canLayAll0 (rows.map rowD) = true
  | [] => rfl
  | r :: rows => by
    show (PyData.canLayAll0 (r.map .int) && PyData.canLayAll0 (rows.map rowD)) = true
    rw [row_lay, rows_lay rows]
    rfl
theorem rows_dep : ∀ rows : List (List Int), PyData.depthAll (rows.map rowD) ≤ 2
  | [] => Nat.zero_le _
  | r :: rows => by
    have h := rows_dep rows
    have h2 := row_dep r
    show max (PyData.depthAll (r.map .int) + 1) (PyData.depthAll (rows.map rowD)) ≤ 2
    omega
theorem mdD_depth (rows : List (List Int)) : (mdD rows).depth ≤ 3 := by
  have := rows_dep rows
  show PyData.depthAll (rows.map rowD) + 1 ≤ 3
  omega
theorem mdD_shaped (rows : List (List Int)) : SeqAt.shaped (mdD rows) = true := by
  have h := mdD_depth rows
  unfold SeqAt.shaped
  rw [show (mdD rows).canLay0 = PyData.canLayAll0 (rows.map rowD) from rfl, rows_lay, decide_eq_true (by omega)]
  rfl
theorem row_wide : ∀ r : List Int, wideAll (r.map .int) = true
  | [] => rfl
  | _ :: r => row_wide r
theorem rows_wide : ∀ {rows : List (List Int)}, (∀ r ∈ rows, r.length ≤ 1000) → wideAll (rows.map rowD) = true
  | [], _ => rfl
  | r :: rows, h => by
    show ((decide ((r.map PyData.int).length ≤ 1000) && wideAll (r.map .int)) && wideAll (rows.map rowD)) = true
    rw [row_wide, rows_wide fun r' hr => h r' (List.mem_cons_of_mem _ hr), List.length_map, decide_eq_true (h r List.mem_cons_self)]
    rfl
theorem mdD_wide {rows : List (List Int)} (h1 : rows.length ≤ 1000) (h2 : ∀ r ∈ rows, r.length ≤ 1000) : wide (mdD rows) = true := by
  show (decide ((rows.map rowD).length ≤ 1000) && wideAll (rows.map rowD)) = true
  rw [List.length_map, decide_eq_true h1, rows_wide h2]
  rfl
theorem rgV_nat (N : Nat) : rgV 0 (N : Int) = (List.range N).map fun (i : Nat) => V.int (i : Int) := by
  unfold rgV
  rw [show ((N : Int) - 0).toNat = N by omega]
  refine List.map_congr_left fun i _ => ?_
  rw [Int.zero_add]
/-! ### values of terms in models -/
def Tree.mv (rows : List (List Int)) (s : Nat) : Tree → Nat
  | .L => s
  | .N l r => ev rows (l.mv rows s) (r.mv rows s)
theorem mv_lt {K : PySem.W.Frag} {H : Hp} {p : Addr} {rows : List (List Int)} {n s : Nat} {qs : List Addr} (M : MdN K H p rows n qs) (hs : s < n) : ∀ t : Tree, t.mv rows s < n
  | .L => hs
  | .N l r => M.lt _ _ (mv_lt M hs l) (mv_lt M hs r)
def spStart (K : PySem.W.Frag) (CX : Addr) : Sp := fun vs H Q E => ∃ (p : Addr) (rows : List (List Int)) (s : Int), vs = [.ref p, .int s] ∧ MdA K H p rows ∧ (0 ≤ s → s < (rows.length : Int) → Q .non H) ∧ (¬ (0 ≤ s ∧ s < (rows.length : Int)) → E (.ref CX) none H)
def spMVal (K : PySem.W.Frag) (k : Nat) : Sp := fun vs H Q _ => ∃ (p : Addr) (rows : List (List Int)) (n : Nat) (qs : List Addr) (s : Nat) (v : V) (t : Tree), vs = [.ref p, .int (s : Int), v] ∧ MdN K H p rows n qs ∧ s < n ∧ TA K H v t ∧ t.dp < k ∧ k ≤ 40 ∧ ∀ H', Same H H' → Q (.int ((t.mv rows s : Nat) : Int)) H'
def spVO (K : PySem.W.Frag) (CM CX CI : Addr) : Sp := fun vs H Q E => ∃ (p : Addr) (rows : List (List Int)) (s : Int) (v : V) (d : PyData), vs = [.ref p, .int s, v] ∧ MdA K H p rows ∧ rows.length ≤ 1000 ∧ (∀ r ∈ rows, r.length ≤ 1000) ∧ NT K H v d ∧ ndD d ≤ 1000 ∧
  (okM rows = false → ∀ H', Same H H' → E (.ref CM) none H') ∧ (okM rows = true → ¬ (0 ≤ s ∧ s < (rows.length : Int)) → ∀ H', Same H H' → E (.ref CX) none H') ∧ (okM rows = true → 0 ≤ s → s < (rows.length : Int) → okd d = false → ∀ H', Same H H' → E (.ref CI) none H') ∧
  ∀ (t : Tree) (s' : Nat), okM rows = true → s = (s' : Int) → s' < rows.length → d = t.d → t.sz ≤ 12 → t.dp ≤ 6 → ∀ H', Same H H' → Q (.int ((t.mv rows s' : Nat) : Int)) H'
/-! ### table models -/
def tmo (n : Nat) (a b : Nat) : Nat := opT (tbs n) (a + 1) (b + 1) - 1
theorem tmo_suc {n a b : Nat} (hn : n ≤ 9) (ha : a < 2 ^ n) (hb : b < 2 ^ n) : tmo n a b + 1 = opT (tbs n) (a + 1) (b + 1) := by
  have r := lv_rng (good_tbs hn) (a := a + 1) (b := b + 1) (by omega) (by omega) (by omega) (by omega)
  unfold tmo
  omega
theorem tmo_lt {n a b : Nat} (hn : n ≤ 9) (ha : a < 2 ^ n) (hb : b < 2 ^ n) : tmo n a b < 2 ^ n := by
  have r := lv_rng (good_tbs hn) (a := a + 1) (b := b + 1) (by omega) (by omega) (by omega) (by omega)
  unfold tmo
  omega
theorem tmo_dist {n a b c : Nat} (hn : n ≤ 9) (ha : a < 2 ^ n) (hb : b < 2 ^ n) (hc : c < 2 ^ n) : tmo n a (tmo n b c) = tmo n (tmo n a b) (tmo n a c) := by
  have h1 := tmo_suc hn hb hc
  have h2 := tmo_suc hn ha hb
  have h3 := tmo_suc hn ha hc
  show opT (tbs n) (a + 1) (tmo n b c + 1) - 1 = opT (tbs n) (tmo n a b + 1) (tmo n a c + 1) - 1
  rw [h1, h2, h3, lv_dist (good_tbs hn) (by omega) (by omega) (by omega) (by omega) (by omega) (by omega)]
theorem tmo_mv {n : Nat} (hn : n ≤ 9) : ∀ t : Tree, t.mv (rowsOf (2 ^ n) (tmo n)) 0 + 1 = t.vl (tbs n)
  | .L => rfl
  | .N l r => by
    have gd := good_tbs hn
    have el := tmo_mv hn l
    have er := tmo_mv hn r
    have rl := vl_rng gd l
    have rr := vl_rng gd r
    show ev (rowsOf (2 ^ n) (tmo n)) (l.mv _ 0) (r.mv _ 0) + 1 = opT (tbs n) (l.vl (tbs n)) (r.vl (tbs n))
    rw [ev_rowsOf (by omega) (by omega), tmo_suc hn (by omega) (by omega), el, er]
theorem fro_tmo (n i : Nat) (hn : n ≤ 9) (hi : i < 2 ^ n) : ((fro (tbs n) (1 + i) (2 ^ n)).map fun (k : Nat) => ((k : Int) - 1)) = (List.range (2 ^ n)).map fun b => ((tmo n i b : Nat) : Int) := by
  unfold fro
  rw [List.range'_eq_map_range, List.map_map, List.map_map]
  refine List.map_congr_left fun b hb => ?_
  have hb := List.mem_range.mp hb
  show ((opT (tbs n) (1 + i) (1 + b) : Nat) : Int) - 1 = ((tmo n i b : Nat) : Int)
  have h := tmo_suc hn hi hb
  rw [Nat.add_comm 1 i, Nat.add_comm 1 b, ← h]
  omega
def spTM (T : List (Addr × Str)) (K : PySem.W.Frag) (CS : Addr) : Sp := fun vs H Q E => ∃ m : Int, vs = [.int m] ∧ LamX.Tabs T H ∧ (¬ (0 ≤ m ∧ m ≤ 3) → E (.ref CS) none H) ∧ ∀ n : Nat, m = (n : Int) → n ≤ 3 → ∀ (p : Addr) (H' : Hp), LamX.ExtN H H' → LamX.Tabs T H' → MdA K H' p (rowsOf (2 ^ n) (tmo n)) → Q (.ref p) H'
theorem TabA.extE {H H' : Hp} {C x : Addr} {n : Nat} (e : ExtE H H') (h : TabA H C x n) : TabA H' C x n := by
  obtain ⟨dx, ra, as, h1, h2⟩ := h
  exact ⟨dx, ra, as, e _ _ h1 (fun _ => by intro y; cases y), e _ _ h2.l (fun _ => by intro y; cases y), h2.n, fun i a k1 k2 => e _ _ (h2.r i a k1 k2) (fun _ => by intro y; cases y)⟩
/-! ### products of models -/
def jo (r1 r2 : List (List Int)) (m a b : Nat) : Nat := ev r1 (a / m) (b / m) * m + ev r2 (a % m) (b % m)
theorem div_lt {a n m : Nat} (hm : 1 ≤ m) (h : a < n * m) : a / m < n := (Nat.div_lt_iff_lt_mul hm).mpr h
theorem jo_lt {K : PySem.W.Frag} {H : Hp} {p q : Addr} {r1 r2 : List (List Int)} {n m a b : Nat} {qs1 qs2 : List Addr} (M1 : MdN K H p r1 n qs1) (M2 : MdN K H q r2 m qs2) (ha : a < n * m) (hb : b < n * m) : jo r1 r2 m a b < n * m := by
  have m1 := M2.n1
  have h1 := M1.lt _ _ (div_lt m1 ha) (div_lt m1 hb)
  have h2 := M2.lt (a % m) (b % m) (Nat.mod_lt _ m1) (Nat.mod_lt _ m1)
  have h3 : (ev r1 (a / m) (b / m) + 1) * m ≤ n * m := Nat.mul_le_mul_right m h1
  unfold jo
  rw [Nat.succ_mul] at h3
  omega
theorem jo_div {r1 r2 : List (List Int)} {m a b : Nat} (h : ev r2 (a % m) (b % m) < m) : jo r1 r2 m a b / m = ev r1 (a / m) (b / m) ∧ jo r1 r2 m a b % m = ev r2 (a % m) (b % m) := by
  unfold jo
  have hm : 0 < m := by omega
  rw [Nat.mul_comm, Nat.mul_add_div hm, Nat.mul_add_mod, Nat.div_eq_of_lt h, Nat.mod_eq_of_lt h]
  exact ⟨rfl, rfl⟩
theorem jo_split {r1 r2 : List (List Int)} {m x y z u v w : Nat} (hu : u < m) (hv : v < m) (h : ev r2 u v < m) : jo r1 r2 m (x * m + u) (y * m + v) = ev r1 x y * m + ev r2 u v := by
  have hm : 0 < m := by omega
  unfold jo
  rw [Nat.mul_comm x m, Nat.mul_comm y m, Nat.mul_add_div hm, Nat.mul_add_div hm, Nat.mul_add_mod, Nat.mul_add_mod, Nat.div_eq_of_lt hu, Nat.div_eq_of_lt hv, Nat.mod_eq_of_lt hu, Nat.mod_eq_of_lt hv]
  rfl
theorem two_eq {m x y u v : Nat} (hu : u < m) (hv : v < m) (h : x * m + u = y * m + v) : x = y ∧ u = v := by
  have hm : 0 < m := by omega
  have e1 : (x * m + u) / m = (y * m + v) / m := by rw [h]
  have e2 : (x * m + u) % m = (y * m + v) % m := by rw [h]
  rw [Nat.mul_comm x m, Nat.mul_comm y m] at e1 e2
  rw [Nat.mul_add_div hm, Nat.mul_add_div hm, Nat.div_eq_of_lt hu, Nat.div_eq_of_lt hv] at e1
  rw [Nat.mul_add_mod, Nat.mul_add_mod, Nat.mod_eq_of_lt hu, Nat.mod_eq_of_lt hv] at e2
  exact ⟨by omega, e2⟩
/-- the rule holds in the product exactly if it holds in both -/
theorem jo_rule {K : PySem.W.Frag} {H : Hp} {p q : Addr} {r1 r2 : List (List Int)} {n m : Nat} {qs1 qs2 : List Addr} (M1 : MdN K H p r1 n qs1) (M2 : MdN K H q r2 m qs2) :
    (∀ a b c, a < n * m → b < n * m → c < n * m → okT (rowsOf (n * m) (jo r1 r2 m)) a b c) ↔ ((∀ a b c, a < n → b < n → c < n → okT r1 a b c) ∧ ∀ a b c, a < m → b < m → c < m → okT r2 a b c) := by
  have m1 := M2.n1
  have n1 := M1.n1
  have mk : ∀ x u, x < n → u < m → x * m + u < n * m := fun x u hx hu => by
    have : (x + 1) * m ≤ n * m := Nat.mul_le_mul_right m hx
    rw [Nat.succ_mul] at this
    omega
  have okE : ∀ a b c, a < n * m → b < n * m → c < n * m → (okT (rowsOf (n * m) (jo r1 r2 m)) a b c ↔ (okT r1 (a / m) (b / m) (c / m) ∧ okT r2 (a % m) (b % m) (c % m))) := fun a b c ha hb hc => by
    have la := div_lt m1 ha
    have lb := div_lt m1 hb
    have lc := div_lt m1 hc
    have ra := Nat.mod_lt a m1
    have rb := Nat.mod_lt b m1
    have rc := Nat.mod_lt c m1
    have jbc := jo_lt M1 M2 hb hc
    have jab := jo_lt M1 M2 ha hb
    have jac := jo_lt M1 M2 ha hc
    have dbc := jo_div (r1 := r1) (M2.lt _ _ rb rc)
    have dab := jo_div (r1 := r1) (M2.lt _ _ ra rb)
    have dac := jo_div (r1 := r1) (M2.lt _ _ ra rc)
    unfold okT
    rw [ev_rowsOf hb hc, ev_rowsOf ha jbc, ev_rowsOf ha hb, ev_rowsOf ha hc, ev_rowsOf jab jac]
    unfold jo at dbc dab dac ⊢
    rw [dbc.1, dbc.2, dab.1, dab.2, dac.1, dac.2]
    constructor
    · intro h
      exact two_eq (M2.lt _ _ ra (M2.lt _ _ rb rc)) (M2.lt _ _ (M2.lt _ _ ra rb) (M2.lt _ _ ra rc)) h
    · rintro ⟨h1, h2⟩
      rw [h1, h2]
  constructor
  · intro h
    refine ⟨fun a b c ha hb hc => ?_, fun a b c ha hb hc => ?_⟩
    · have z := ((okE _ _ _ (mk a 0 ha m1) (mk b 0 hb m1) (mk c 0 hc m1)).mp (h _ _ _ (mk a 0 ha m1) (mk b 0 hb m1) (mk c 0 hc m1))).1
      rw [Nat.add_zero, Nat.add_zero, Nat.add_zero, Nat.mul_div_cancel _ m1, Nat.mul_div_cancel _ m1, Nat.mul_div_cancel _ m1] at z
      exact z
    · have z := ((okE _ _ _ (mk 0 a n1 ha) (mk 0 b n1 hb) (mk 0 c n1 hc)).mp (h _ _ _ (mk 0 a n1 ha) (mk 0 b n1 hb) (mk 0 c n1 hc))).2
      rw [Nat.zero_mul, Nat.zero_add, Nat.zero_add, Nat.zero_add, Nat.mod_eq_of_lt ha, Nat.mod_eq_of_lt hb, Nat.mod_eq_of_lt hc] at z
      exact z
  · rintro ⟨h1, h2⟩ a b c ha hb hc
    exact (okE a b c ha hb hc).mpr ⟨h1 _ _ _ (div_lt m1 ha) (div_lt m1 hb) (div_lt m1 hc), h2 _ _ _ (Nat.mod_lt a m1) (Nat.mod_lt b m1) (Nat.mod_lt c m1)⟩
theorem jo_mv {K : PySem.W.Frag} {H : Hp} {p q : Addr} {r1 r2 : List (List Int)} {n m a b : Nat} {qs1 qs2 : List Addr} (M1 : MdN K H p r1 n qs1) (M2 : MdN K H q r2 m qs2) (ha : a < n) (hb : b < m) : ∀ t : Tree, t.mv (rowsOf (n * m) (jo r1 r2 m)) (a * m + b) = t.mv r1 a * m + t.mv r2 b
  | .L => rfl
  | .N l r => by
    have mk : ∀ x u, x < n → u < m → x * m + u < n * m := fun x u hx hu => by
      have : (x + 1) * m ≤ n * m := Nat.mul_le_mul_right m hx
      rw [Nat.succ_mul] at this
      omega
    have l1 := mv_lt M1 ha l
    have l2 := mv_lt M2 hb l
    have r1' := mv_lt M1 ha r
    have r2' := mv_lt M2 hb r
    show ev (rowsOf (n * m) (jo r1 r2 m)) (l.mv _ (a * m + b)) (r.mv _ (a * m + b)) = ev r1 (l.mv r1 a) (r.mv r1 a) * m + ev r2 (l.mv r2 b) (r.mv r2 b)
    rw [jo_mv M1 M2 ha hb l, jo_mv M1 M2 ha hb r, ev_rowsOf (mk _ _ l1 l2) (mk _ _ r1' r2'), jo_split (z := 0) (w := 0) l2 r2' (M2.lt _ _ l2 r2')]
def spJoin (K : PySem.W.Frag) : Sp := fun vs H Q _ => ∃ (p q : Addr) (r1 r2 : List (List Int)) (n m a b : Nat) (qs1 qs2 : List Addr), vs = [.ref p, .ref q, .int (a : Int), .int (b : Int)] ∧ MdN K H p r1 n qs1 ∧ MdN K H q r2 m qs2 ∧ a < n * m ∧ b < n * m ∧ Q (.int ((jo r1 r2 m a b : Nat) : Int)) H
def MdS (K : PySem.W.Frag) (H : Hp) (p : Addr) (rows : List (List Int)) : Prop := MdA K H p rows ∧ rows.length ≤ 1000 ∧ ∀ r ∈ rows, r.length ≤ 1000
def spPM (T : List (Addr × Str)) (K : PySem.W.Frag) (CM CS : Addr) : Sp := fun vs H Q E => ∃ (p q : Addr) (r1 r2 : List (List Int)), vs = [.ref p, .ref q] ∧ MdS K H p r1 ∧ MdS K H q r2 ∧ LamX.Tabs T H ∧ (okM r1 = false ∨ okM r2 = false → ∀ H', Same H H' → E (.ref CM) none H') ∧
  (okM r1 = true → okM r2 = true → 12 < r1.length * r2.length → ∀ H', Same H H' → E (.ref CS) none H') ∧
  (okM r1 = true → okM r2 = true → r1.length * r2.length ≤ 12 → ∀ (pp : Addr) (H' : Hp), LamX.ExtN H H' → LamX.Tabs T H' → MdA K H' pp (rowsOf (r1.length * r2.length) (jo r1 r2 r2.length)) → Q (.ref pp) H')
def vrD : Option (Nat × Nat × Nat) → PyData
  | none => .none
  | some (a, b, c) => .tuple [.int (a : Int), .int (b : Int), .int (c : Int)]
theorem vr_dp {K : PySem.W.Frag} {H : Hp} {v : V} : ∀ {r : Option (Nat × Nat × Nat)}, VRes K H v r → Dp K H v (vrD r)
  | none, h => by
    have h : v = .non := h
    subst h
    exact .non
  | some (a, b, c), h => by
    obtain ⟨q, rfl, hS⟩ := h
    exact Dp.tup hS (.cons (.int _) (.cons (.int _) (.cons (.int _) .nil)))
theorem vrD_shaped2 : ∀ x y : Option (Nat × Nat × Nat), SeqAt.shaped (.list [vrD x, vrD y]) = true
  | none, none => rfl
  | none, some _ => rfl
  | some _, none => rfl
  | some _, some _ => rfl
theorem vrD_eqv : ∀ x y : Option (Nat × Nat × Nat), PyData.eqv (.list [vrD x, vrD y]) (.list [.none, .none]) = (x.isNone && y.isNone)
  | none, none => rfl
  | none, some _ => rfl
  | some _, none => rfl
  | some _, some _ => rfl
theorem Fst_isNone {n : Nat} {P : Nat → Nat → Nat → Prop} : ∀ {r : Option (Nat × Nat × Nat)}, Fst n P r → (r.isNone = true ↔ ∀ a b c, a < n → b < n → c < n → P a b c)
  | none, h => ⟨fun _ => h, fun _ => rfl⟩
  | some (a, b, c), ⟨h1, h2, h3, h4, _⟩ => ⟨fun z => (by cases z), fun z => absurd (z a b c h1 h2 h3) h4⟩
theorem vr_isNone {K : PySem.W.Frag} {H : Hp} {v : V} : ∀ {r : Option (Nat × Nat × Nat)}, VRes K H v r → decide (v = V.non) = r.isNone
  | none, h => by
    have h : v = .non := h
    subst h
    rfl
  | some (a, b, c), h => by
    obtain ⟨q, rfl, _⟩ := h
    exact decide_eq_false fun z => by cases z
theorem MdS.tp {K : PySem.W.Frag} {H H' : Hp} {p : Addr} {rows : List (List Int)} (e : Tp H H') (h : MdS K H p rows) : MdS K H' p rows := ⟨h.1.tp e, h.2⟩
theorem MdS.of {K : PySem.W.Frag} {H : Hp} {p : Addr} {rows : List (List Int)} (h : MdA K H p rows) (ok : okM rows = true) : MdS K H p rows := by
  obtain ⟨o1, o2, o3⟩ := okM_row ok
  refine ⟨h, by omega, fun r hr => ?_⟩
  have := (o3 r hr).1
  omega
def vmD (rows : List (List Int)) : PyData := .tuple [.str ("value" : Str), mdD rows]
theorem vmD_shaped (rows : List (List Int)) : SeqAt.shaped (vmD rows) = true := by
  have h := mdD_depth rows
  have e1 : (vmD rows).canLay0 = (PyData.canLay0 (.str ("value" : Str)) && (PyData.canLay0 (mdD rows) && true)) := rfl
  have e2 : (vmD rows).depth = max (PyData.depth (.str ("value" : Str))) (max (mdD rows).depth 0) + 1 := rfl
  have e3 : PyData.depth (.str ("value" : Str)) ≤ 1 := by first | exact Nat.le_refl _ | exact Nat.zero_le _
  unfold SeqAt.shaped
  rw [e1, show (mdD rows).canLay0 = true from SeqAt.canLay_of_shaped (mdD_shaped rows), decide_eq_true (by omega)]
  decide +kernel
theorem vmD_depth (rows : List (List Int)) : (vmD rows).depth < 14 := by
  have h := mdD_depth rows
  have e2 : (vmD rows).depth = max (PyData.depth (.str ("value" : Str))) (max (mdD rows).depth 0) + 1 := rfl
  have e3 : PyData.depth (.str ("value" : Str)) ≤ 1 := by first | exact Nat.le_refl _ | exact Nat.zero_le _
  omega
theorem vmD_wide {rows : List (List Int)} (h1 : rows.length ≤ 1000) (h2 : ∀ r ∈ rows, r.length ≤ 1000) : wide (vmD rows) = true := by
  show (decide (2 ≤ 1000) && (true && (wide (mdD rows) && true))) = true
  rw [mdD_wide h1 h2]
  decide
def z12 : List (List Int) := List.replicate 12 (List.replicate 12 0)
theorem z12_md {K : PySem.W.Frag} {H : Hp} {p q : Addr} (h1 : SqT K H p (List.replicate (12 : Int).toNat [V.ref q]).flatten) (h2 : SqT K H q (List.replicate (12 : Int).toNat [V.int 0]).flatten) : MdS K H p z12 := by
  refine ⟨⟨List.replicate 12 q, h1, rfl, fun i a r k1 k2 => ?_⟩, by decide, fun r hr => ?_⟩
  · have e1 : a = q := (List.mem_replicate.mp (List.mem_of_getElem? k1)).2
    have e2 : r = List.replicate 12 0 := (List.mem_replicate.mp (List.mem_of_getElem? k2)).2
    rw [e1, e2]
    exact h2
  · rw [(List.mem_replicate.mp hr).2]
    decide
theorem one0_md {K : PySem.W.Frag} {H : Hp} {p q : Addr} (h1 : SqT K H p [.ref q]) (h2 : SqT K H q [.int 0]) : MdS K H p [[0]] := by
  refine ⟨⟨[q], h1, rfl, fun i a r k1 k2 => ?_⟩, by decide, fun r hr => ?_⟩
  · have e1 : a = q := List.mem_singleton.mp (List.mem_of_getElem? k1)
    have e2 : r = [0] := List.mem_singleton.mp (List.mem_of_getElem? k2)
    rw [e1, e2]
    exact h2
  · rw [List.mem_singleton.mp hr]
    decide
/-! ### what an operation gives from a start -/
inductive Gen {α : Type} (op : α → α → α) (s : α) : α → Prop
  | base : Gen op s s
  | step {a b : α} : Gen op s a → Gen op s b → Gen op s (op a b)
structure GI {α : Type} (ok : α → Prop) (op : α → α → α) (s : α) (F : List α) : Prop where
  nd : F.Nodup
  lt : ∀ x ∈ F, ok x
  gen : ∀ x ∈ F, Gen op s x
  st : s ∈ F
theorem GI.one {α : Type} {ok : α → Prop} {op : α → α → α} {s : α} (h : ok s) : GI ok op s [s] := ⟨by simp, fun x hx => by rw [List.mem_singleton.mp hx]; exact h, fun x hx => by rw [List.mem_singleton.mp hx]; exact .base, List.mem_singleton.mpr rfl⟩
theorem GI.add {α : Type} {ok : α → Prop} {op : α → α → α} {s r : α} {F : List α} (g : GI ok op s F) (h1 : ok r) (h2 : Gen op s r) (h3 : r ∉ F) : GI ok op s (F ++ [r]) := by
  refine ⟨List.nodup_append.mpr ⟨g.nd, by simp, fun a ha b hb z => ?_⟩, fun x hx => ?_, fun x hx => ?_, List.mem_append_left _ g.st⟩
  · rw [List.mem_singleton.mp hb] at z
    exact h3 (z ▸ ha)
  · rcases List.mem_append.mp hx with y | y
    · exact g.lt x y
    · rw [List.mem_singleton.mp y]; exact h1
  · rcases List.mem_append.mp hx with y | y
    · exact g.gen x y
    · rw [List.mem_singleton.mp y]; exact h2
theorem GI.all {α : Type} {ok : α → Prop} {op : α → α → α} {s : α} {F : List α} (g : GI ok op s F) (h : ∀ x ∈ F, ∀ y ∈ F, op x y ∈ F) : ∀ x, x ∈ F ↔ Gen op s x := fun x => ⟨g.gen x, fun z => by
  induction z with
  | base => exact g.st
  | step _ _ ih1 ih2 => exact h _ ih1 _ ih2⟩
theorem sub_len {α : Type} [BEq α] [LawfulBEq α] : ∀ {F G : List α}, F.Nodup → (∀ x ∈ F, x ∈ G) → F.length ≤ G.length
  | [], _, _, _ => Nat.zero_le _
  | x :: F, G, h, hs => by
    have hx := hs x List.mem_cons_self
    obtain ⟨h1, h2⟩ := List.nodup_cons.mp h
    have hl := sub_len (G := G.erase x) h2 fun y hy => (List.mem_erase_of_ne (a := y) (b := x) (fun z => h1 (by rw [← z]; exact hy))).mpr (hs y (List.mem_cons_of_mem _ hy))
    rw [List.length_erase_of_mem hx] at hl
    have : 0 < G.length := List.length_pos_of_mem hx
    rw [List.length_cons]
    omega
theorem nodup_len {n : Nat} {F : List Nat} (h1 : F.Nodup) (h2 : ∀ x ∈ F, x < n) : F.length ≤ n := by
  have h := sub_len h1 (fun x hx => List.mem_range.mpr (h2 x hx))
  rwa [List.length_range] at h
abbrev kI (x : Nat) : Key × V := (Sum.inl (x : Int), V.bl true)
theorem kI_val : ∀ (F : List Nat) (r : Nat), (valV (F.map kI) (Sum.inl (r : Int))).isSome = decide (r ∈ F)
  | [], r => rfl
  | x :: F, r => by
    rw [List.map_cons]
    by_cases e : x = r
    · subst e
      rw [valV_pos rfl]
      simp
    · rw [valV_neg (fun z => e (by have := Sum.inl.inj z; omega)), kI_val F r]
      simp [Ne.symm e]
/-- at the end: what is found, in ascending order -/
def spGen (P : Program) (w : World) (K : PySem.W.Frag) (mg : Str → Option Value) (base : Heap) (k : Nat) : Sp := fun vs H Q _ => ∃ (n s : Nat) (f : Addr) (op : Nat → Nat → Nat), vs = [.int (s : Int), .ref f] ∧ LamP P w K mg base k f n op H ∧ n < 64 ∧ s < n ∧ (∀ a b, a < n → b < n → op a b < n) ∧
  ∀ (F : List Nat) (ys : List Int) (p : Addr) (H' : Hp), Same H H' → F.Nodup → (∀ x ∈ F, x < n) → (∀ x, x ∈ F ↔ Gen op s x) → ys.Perm (F.map fun (x : Nat) => (x : Int)) → ys.Pairwise (· ≤ ·) → H p = none → H' p = some (.lst (ys.map V.int)) → Q (.ref p) H'
abbrev iV (x : Nat) : V := V.int (x : Int)
/-- found at d, waiting at l -/
structure GS (n : Nat) (op : Nat → Nat → Nat) (st : Nat) (H0 : Hp) (d l : Addr) (F0 D : List Nat) (c : Nat) (F W : List Nat) (G : Hp) : Prop where
  sm : Same H0 G
  fd : G d = some (.dK (F.map kI))
  wl : G l = some (.lst (W.map iV))
  gi : GI (· < n) op st F
  up : ∀ x ∈ F0, x ∈ F
  wf : ∀ x ∈ W, x ∈ F
  cov : ∀ x ∈ F, x ∈ W ∨ x ∈ D
  len : W.length + F0.length = c + F.length
theorem GS.same {n : Nat} {op : Nat → Nat → Nat} {st c : Nat} {H0 G G' : Hp} {d l : Addr} {F0 D F W : List Nat} (g : GS n op st H0 d l F0 D c F W G) (s : Same G G') : GS n op st H0 d l F0 D c F W G' :=
  ⟨g.sm.trans s, s _ _ g.fd, s _ _ g.wl, g.gi, g.up, g.wf, g.cov, g.len⟩
theorem GS.add {n : Nat} {op : Nat → Nat → Nat} {st c r : Nat} {H0 G : Hp} {d l : Addr} {F0 D F W : List Nat} (g : GS n op st H0 d l F0 D c F W G) (h1 : r < n) (h2 : Gen op st r) (h3 : r ∉ F) (nd : H0 d = none) (nl : H0 l = none) :
    GS n op st H0 d l F0 D c (F ++ [r]) (W ++ [r]) (upd (upd G d (.dK ((F ++ [r]).map kI))) l (.lst ((W ++ [r]).map iV))) := by
  have hne : d ≠ l := fun z => by
    have := g.fd
    rw [z, g.wl] at this
    cases this
  refine ⟨fun b o e => ?_, ?_, upd_same, g.gi.add h1 h2 h3, fun x hx => List.mem_append_left _ (g.up x hx), fun x hx => ?_, fun x hx => ?_, ?_⟩
  · rw [upd_ne (ne_of_none e nl), upd_ne (ne_of_none e nd)]
    exact g.sm _ _ e
  · rw [upd_ne hne, upd_same]
  · rcases List.mem_append.mp hx with y | y
    · exact List.mem_append_left _ (g.wf x y)
    · exact List.mem_append_right _ y
  · rcases List.mem_append.mp hx with y | y
    · rcases g.cov x y with z | z
      · exact .inl (List.mem_append_left _ z)
      · exact .inr z
    · exact .inl (List.mem_append_right _ y)
  · have := g.len
    rw [List.length_append, List.length_append]
    show W.length + 1 + F0.length = c + (F.length + 1)
    omega
theorem putK_kI {F : List Nat} {r : Nat} (h : r ∉ F) : putK (F.map kI) (Sum.inl (r : Int)) (V.bl true) = (F ++ [r]).map kI := by
  rw [putK_new, List.map_append]
  · rfl
  · have := kI_val F r
    rw [decide_eq_false h] at this
    exact Option.not_isSome_iff_eq_none.mp (by rw [this]; decide)
/-! ### pairs of values -/
abbrev pop2 (f g : Nat → Nat → Nat) (x y : Nat × Nat) : Nat × Nat := (f x.1 y.1, g x.2 y.2)
theorem gen_fst {f g : Nat → Nat → Nat} {s t : Nat} {z : Nat × Nat} (h : Gen (pop2 f g) (s, t) z) : Gen f s z.1 ∧ Gen g t z.2 := by
  induction h with
  | base => exact ⟨.base, .base⟩
  | step _ _ i1 i2 => exact ⟨.step i1.1 i2.1, .step i1.2 i2.2⟩
theorem gen_lift {f g : Nat → Nat → Nat} {s t x : Nat} (h : Gen f s x) : ∃ y, Gen (pop2 f g) (s, t) (x, y) := by
  induction h with
  | base => exact ⟨t, .base⟩
  | step _ _ i1 i2 =>
    obtain ⟨y1, h1⟩ := i1
    obtain ⟨y2, h2⟩ := i2
    exact ⟨_, .step h1 h2⟩
theorem pairs_len {n m : Nat} {R : List (Nat × Nat)} (h1 : R.Nodup) (h2 : ∀ x ∈ R, x.1 < n ∧ x.2 < m) : R.length ≤ n * m := by
  have h := sub_len (G := (List.range n).flatMap fun a => (List.range m).map fun b => (a, b)) h1 fun x hx => List.mem_flatMap.mpr ⟨x.1, List.mem_range.mpr (h2 x hx).1, List.mem_map.mpr ⟨x.2, List.mem_range.mpr (h2 x hx).2, rfl⟩⟩
  have e : ((List.range n).flatMap fun a => (List.range m).map fun b => (a, b)).length = n * m := by
    simp [List.length_flatMap, List.map_const']
  omega
abbrev kT (x : Addr × Nat × Nat) : List Key × V := ([Sum.inl (x.2.1 : Int), Sum.inl (x.2.2 : Int)], V.bl true)
theorem kT_val : ∀ (L : List (Addr × Nat × Nat)) (a b : Nat), (valV (L.map kT) [Sum.inl (a : Int), Sum.inl (b : Int)]).isSome = decide ((a, b) ∈ L.map (·.2))
  | [], a, b => rfl
  | x :: L, a, b => by
    rw [List.map_cons]
    by_cases e : x.2 = (a, b)
    · rw [valV_pos (by show [Sum.inl (x.2.1 : Int), Sum.inl (x.2.2 : Int)] = _; rw [e])]
      simp [e]
    · rw [valV_neg (fun z => e ?_), kT_val L a b]
      · simp [Ne.symm e]
      · have z1 := List.cons.inj z
        have z2 := List.cons.inj z1.2
        have e1 := Sum.inl.inj z1.1
        have e2 := Sum.inl.inj z2.1
        exact Prod.ext (by show x.2.1 = a; omega) (by show x.2.2 = b; omega)
abbrev rV (x : Addr × Nat × Nat) : V := V.ref x.1
structure VS (n m : Nat) (op : Nat × Nat → Nat × Nat → Nat × Nat) (st : Nat × Nat) (H0 : Hp) (d l : Addr) (L : List (Addr × Nat × Nat)) (G : Hp) : Prop where
  sm : Same H0 G
  fd : G d = some (.dT (L.map kT))
  rl : G l = some (.lst (L.map rV))
  tu : ∀ x ∈ L, G x.1 = some (.tup [.int (x.2.1 : Int), .int (x.2.2 : Int)])
  gi : GI (fun z => z.1 < n ∧ z.2 < m) op st (L.map (·.2))
theorem VS.same {n m : Nat} {op : Nat × Nat → Nat × Nat → Nat × Nat} {st : Nat × Nat} {H0 G G' : Hp} {d l : Addr} {L : List (Addr × Nat × Nat)} (g : VS n m op st H0 d l L G) (s : Same G G') : VS n m op st H0 d l L G' :=
  ⟨g.sm.trans s, s _ _ g.fd, s _ _ g.rl, fun x hx => s _ _ (g.tu x hx), g.gi⟩
theorem VS.len {n m : Nat} {op : Nat × Nat → Nat × Nat → Nat × Nat} {st : Nat × Nat} {H0 G : Hp} {d l : Addr} {L : List (Addr × Nat × Nat)} (g : VS n m op st H0 d l L G) : L.length ≤ n * m := by
  have := pairs_len g.gi.nd g.gi.lt
  rwa [List.length_map] at this
theorem VS.add {n m : Nat} {op : Nat × Nat → Nat × Nat → Nat × Nat} {st : Nat × Nat} {H0 G : Hp} {d l b : Addr} {r : Nat × Nat} {L : List (Addr × Nat × Nat)} (g : VS n m op st H0 d l L G) (h1 : r.1 < n ∧ r.2 < m) (h2 : Gen op st r) (h3 : r ∉ L.map (·.2)) (hb : G b = some (.tup [.int (r.1 : Int), .int (r.2 : Int)])) (nd : H0 d = none) (nl : H0 l = none) :
    VS n m op st H0 d l (L ++ [(b, r)]) (upd (upd G d (.dT ((L ++ [(b, r)]).map kT))) l (.lst ((L ++ [(b, r)]).map rV))) := by
  have hne : d ≠ l := fun z => by
    have := g.fd
    rw [z, g.rl] at this
    cases this
  have nt : ∀ {c : Addr} {xs : List V}, G c = some (.tup xs) → (upd (upd G d (.dT ((L ++ [(b, r)]).map kT))) l (.lst ((L ++ [(b, r)]).map rV))) c = some (.tup xs) := fun {c xs} e => by
    rw [upd_ne (ne_of e g.rl (fun z => nomatch z)), upd_ne (ne_of e g.fd (fun z => nomatch z))]
    exact e
  refine ⟨fun b o e => ?_, ?_, upd_same, fun x hx => ?_, ?_⟩
  · rw [upd_ne (ne_of_none e nl), upd_ne (ne_of_none e nd)]
    exact g.sm _ _ e
  · rw [upd_ne hne, upd_same]
  · rcases List.mem_append.mp hx with y | y
    · exact nt (g.tu x y)
    · rw [List.mem_singleton.mp y]
      exact nt hb
  · rw [List.map_append]
    exact g.gi.add h1 h2 h3
theorem putK_kT {L : List (Addr × Nat × Nat)} {b : Addr} {r : Nat × Nat} (h : r ∉ L.map (·.2)) : putK (L.map kT) [Sum.inl (r.1 : Int), Sum.inl (r.2 : Int)] (V.bl true) = (L ++ [(b, r)]).map kT := by
  rw [putK_new, List.map_append]
  · rfl
  · have := kT_val L r.1 r.2
    rw [decide_eq_false h] at this
    exact Option.not_isSome_iff_eq_none.mp (by rw [this]; decide)
def spVP (K : PySem.W.Frag) : Sp := fun vs H Q _ => ∃ (p q : Addr) (r1 r2 : List (List Int)) (n m s t : Nat) (qa qb : List Addr), vs = [.ref p, .int (s : Int), .ref q, .int (t : Int)] ∧ MdN K H p r1 n qa ∧ MdN K H q r2 m qb ∧ s < n ∧ t < m ∧ n * m ≤ 144 ∧
  ∀ (L : List (Addr × Nat × Nat)) (l : Addr) (H' : Hp), Same H H' → (L.map (·.2)).Nodup → (∀ x, x ∈ L.map (·.2) ↔ Gen (pop2 (ev r1) (ev r2)) (s, t) x) → H l = none → H' l = some (.lst (L.map rV)) → (∀ x ∈ L, H' x.1 = some (.tup [.int (x.2.1 : Int), .int (x.2.2 : Int)])) → Q (.ref l) H'
def spGV (T : List (Addr × Str)) (K : PySem.W.Frag) (CM CX : Addr) : Sp := fun vs H Q E => ∃ (p : Addr) (rows : List (List Int)) (s : Int), vs = [.ref p, .int s] ∧ MdA K H p rows ∧ rows.length ≤ 1000 ∧ (∀ r ∈ rows, r.length ≤ 1000) ∧ LamX.Tabs T H ∧ (okM rows = false → ∀ H', Same H H' → E (.ref CM) none H') ∧
  (okM rows = true → ¬ (0 ≤ s ∧ s < (rows.length : Int)) → ∀ H', Same H H' → E (.ref CX) none H') ∧
  (okM rows = true → ∀ s' : Nat, s = (s' : Int) → s' < rows.length → ∀ (F : List Nat) (ys : List Int) (l : Addr) (H' : Hp), LamX.ExtN H H' → LamX.Tabs T H' → F.Nodup → (∀ x, x ∈ F ↔ Gen (ev rows) s' x) → ys.Perm (F.map fun (x : Nat) => (x : Int)) → ys.Pairwise (· ≤ ·) → (∀ b o, H b = some o → (∀ ps, o ≠ .tbl ps) → b ≠ l) → H' l = some (.lst (ys.map V.int)) → Q (.ref l) H')
theorem cutV_take {xs : List V} {k : Nat} : cutV xs none (some (k : Int)) = xs.take k := by
  unfold cutV
  have e0 : HT.sIx xs.length 0 none = 0 := rfl
  rw [e0, List.drop_zero, Nat.sub_zero]
  have e : HT.sIx xs.length xs.length (some (k : Int)) = min k xs.length := by
    unfold HT.sIx
    simp
    omega
  rw [e]
  rcases Nat.le_total k xs.length with h | h
  · rw [Nat.min_eq_left h]
  · rw [Nat.min_eq_right h, List.take_of_length_le (Nat.le_refl _), List.take_of_length_le h]
/-! ### for the law -/
def isD (es : List Int) : PyData := .list (es.map .int)
theorem isD_dp {K : PySem.W.Frag} {H : Hp} {l : Addr} {es : List Int} (h : SqL K H l (es.map V.int)) : Dp K H (.ref l) (isD es) := Dp.lst h (dp_row es)
theorem isD_depth (es : List Int) : (isD es).depth ≤ 2 := by
  have := row_dep es
  show PyData.depthAll (es.map .int) + 1 ≤ 2
  omega
theorem isD_shaped (es : List Int) : SeqAt.shaped (isD es) = true := by
  have h := isD_depth es
  unfold SeqAt.shaped
  rw [show (isD es).canLay0 = PyData.canLayAll0 (es.map .int) from rfl, row_lay, decide_eq_true (by omega)]
  rfl
theorem isD_wide {es : List Int} (h : es.length ≤ 1000) : wide (isD es) = true := by
  show (decide ((es.map PyData.int).length ≤ 1000) && wideAll (es.map .int)) = true
  rw [List.length_map, decide_eq_true h, row_wide]
  rfl
theorem sorted_eq : ∀ {l m : List Int}, l.Perm m → l.Pairwise (· ≤ ·) → m.Pairwise (· ≤ ·) → l = m
  | [], m, h, _, _ => (List.nil_perm.mp h).symm
  | x :: l, [], h, _, _ => absurd (List.perm_nil.mp h) (by simp)
  | x :: l, y :: m, h, h1, h2 => by
    obtain ⟨a1, a2⟩ := List.pairwise_cons.mp h1
    obtain ⟨b1, b2⟩ := List.pairwise_cons.mp h2
    have e : x = y := by
      have hx := h.mem_iff.mp (List.mem_cons_self (a := x) (l := l))
      have hy := h.mem_iff.mpr (List.mem_cons_self (a := y) (l := m))
      rcases List.mem_cons.mp hx with z | z
      · exact z
      rcases List.mem_cons.mp hy with z' | z'
      · exact z'.symm
      have := b1 x z
      have := a1 y z'
      omega
    subst e
    rw [sorted_eq (h.cons_inv) a2 b2]
theorem perm_of_mem {F G : List Nat} (h1 : F.Nodup) (h2 : G.Nodup) (h : ∀ x, x ∈ F ↔ x ∈ G) : F.Perm G := (List.perm_ext_iff_of_nodup h1 h2).mpr h
theorem gen_lt {n : Nat} {op : Nat → Nat → Nat} {s x : Nat} (hs : s < n) (h : ∀ a b, a < n → b < n → op a b < n) (g : Gen op s x) : x < n := by
  induction g with
  | base => exact hs
  | step _ _ i1 i2 => exact h _ _ i1 i2
theorem mv_gen {rows : List (List Int)} {s : Nat} : ∀ t : Tree, Gen (ev rows) s (t.mv rows s)
  | .L => .base
  | .N l r => .step (mv_gen l) (mv_gen r)
/-- what stays in a turn of k50 -/
structure Fr50 (K : PySem.W.Frag) (T : List (Addr × Str)) (r c p : Addr) (rows : List (List Int)) (le : Addr) (es : List Int) (G : Hp) : Prop where
  R : RngC G r c
  t : LamX.Tabs T G
  M : MdA K G p rows
  L : G le = some (.lst (es.map V.int))
theorem Fr50.same {K : PySem.W.Frag} {T : List (Addr × Str)} {r c p le : Addr} {rows : List (List Int)} {es : List Int} {G G' : Hp} (h : Fr50 K T r c p rows le es G) (s : Same G G') : Fr50 K T r c p rows le es G' := ⟨h.R.same s, tabs_same s h.t, h.M.tp (Tp.same s), s _ _ h.L⟩
theorem Fr50.extN {K : PySem.W.Frag} {T : List (Addr × Str)} {r c p le : Addr} {rows : List (List Int)} {es : List Int} {G G' : Hp} (h : Fr50 K T r c p rows le es G) (e : LamX.ExtN G G') (t : LamX.Tabs T G') : Fr50 K T r c p rows le es G' := ⟨h.R.extN e, t, h.M.tp (Tp.extN e), e _ _ h.L (fun _ => nofun)⟩
theorem Fr50.set {K : PySem.W.Frag} {T : List (Addr × Str)} {r c p le l : Addr} {rows : List (List Int)} {es : List Int} {xs ys : List V} {G : Hp} (h : Fr50 K T r c p rows le es G) (n1 : l ≠ r ∧ l ≠ c) (n2 : le ≠ l) (hl : G l = some (.lst xs)) : Fr50 K T r c p rows le es (upd G l (.lst ys)) :=
  ⟨h.R.set n1, tabs_set h.t hl (fun b o n e => by rw [upd_ne n]; exact e), h.M.tp (Tp.but hl But.set), by rw [upd_ne n2]; exact h.L⟩
theorem nodup_fst : ∀ {R : List (Nat × Nat)}, R.Nodup → (∀ x ∈ R, x.2 = 0) → (R.map (·.1)).Nodup
  | [], _, _ => by simp
  | x :: R, h, h0 => by
    obtain ⟨h1, h2⟩ := List.nodup_cons.mp h
    rw [List.map_cons]
    refine List.nodup_cons.mpr ⟨fun z => ?_, nodup_fst h2 fun y hy => h0 y (List.mem_cons_of_mem _ hy)⟩
    obtain ⟨y, hy, e⟩ := List.mem_map.mp z
    have e2 : y = x := Prod.ext e ((h0 y (List.mem_cons_of_mem _ hy)).trans (h0 x List.mem_cons_self).symm)
    exact h1 (e2 ▸ hy)
theorem inV_int {x : Int} {es : List Int} (h : x ∈ es) : inV (V.int x) (es.map V.int) = true := List.any_eq_true.mpr ⟨V.int x, List.mem_map.mpr ⟨x, h, rfl⟩, by simp [eqV]⟩
theorem flat_ints : ∀ es : List Int, (es.map V.int).all flatV = true
  | [] => rfl
  | _ :: es => flat_ints es
/-- the first of a pair that stands at an address -/
def fstAt (G : Hp) : V → V
  | .ref q => match G q with
    | some (.tup (v :: _)) => v
    | _ => .non
  | _ => .non
theorem fstAt_of {G : Hp} {q : Addr} {v u : V} (h : G q = some (.tup [v, u])) : fstAt G (.ref q) = v := by
  unfold fstAt
  simp only [h]
/-! ### generated, any number of values up to 900 -/
def spGenA (P : Program) (w : World) (K : PySem.W.Frag) (mg : Str → Option Value) (base : Heap) (k : Nat) : Sp := fun vs H Q _ => ∃ (n s : Nat) (f : Addr) (op : Nat → Nat → Nat), vs = [.int (s : Int), .ref f] ∧ LamP P w K mg base k f n op H ∧ n ≤ 900 ∧ s < n ∧ (∀ a b, a < n → b < n → op a b < n) ∧
  ∀ (F : List Nat) (ys : List Int) (p : Addr) (H' : Hp), Same H H' → F.Nodup → (∀ x ∈ F, x < n) → (∀ x, x ∈ F ↔ Gen op s x) → ys.Perm (F.map fun (x : Nat) => (x : Int)) → ys.Pairwise (· ≤ ·) → H p = none → H' p = some (.lst (ys.map V.int)) → Q (.ref p) H'
/-! ### maps from the values: S the pairs -/
def cI (z : Nat × Nat) : Int × Int := ((z.1 : Int), (z.2 : Int))
def Cfl (S : Nat × Nat → Prop) (k x y : Nat) : Prop := S (k, x) ∧ S (k, y) ∧ x < y ∧ (∀ z, S (k, z) → z = x ∨ y ≤ z) ∧ ∀ k', k' < k → ∀ x y, S (k', x) → S (k', y) → x = y
def Fnl (S : Nat × Nat → Prop) : Prop := ∀ k x y, S (k, x) → S (k, y) → x = y
theorem Cfl.uniq {S : Nat × Nat → Prop} {k x y k' x' y' : Nat} (h : Cfl S k x y) (h' : Cfl S k' x' y') : k = k' ∧ x = x' ∧ y = y' := by
  obtain ⟨a1, a2, a3, a4, a5⟩ := h
  obtain ⟨b1, b2, b3, b4, b5⟩ := h'
  have e : k = k' := by
    rcases Nat.lt_trichotomy k k' with z | z | z
    · have := b5 k z x y a1 a2; omega
    · exact z
    · have := a5 k' z x' y' b1 b2; omega
  subst e
  have c1 := a4 x' b1
  have c2 := a4 y' b2
  have c3 := b4 x a1
  have c4 := b4 y a2
  exact ⟨rfl, by omega, by omega⟩
theorem Cfl.not {S : Nat × Nat → Prop} {k x y : Nat} (h : Cfl S k x y) (f : Fnl S) : False := by
  obtain ⟨a1, a2, a3, _⟩ := h
  have := f k x y a1 a2
  omega
theorem asc_uniq {L M : List (Nat × Nat)} (h1 : L.Pairwise fun x y => x.1 < y.1) (h2 : M.Pairwise fun x y => x.1 < y.1) (h : ∀ z, z ∈ L ↔ z ∈ M) : L = M := by
  have n1 : L.Nodup := h1.imp fun {x y} z e => by rw [e] at z; omega
  have n2 : M.Nodup := h2.imp fun {x y} z e => by rw [e] at z; omega
  exact List.Perm.eq_of_pairwise (le := fun x y => x.1 < y.1) (fun x y _ _ a b => by omega) h1 h2 ((List.perm_ext_iff_of_nodup n1 n2).mpr h)
/-- what homomorphism gives: N the dict's own place -/
inductive HV (S : Nat × Nat → Prop) (N : Addr → Prop) (H : Hp) : V → Prop
  | conf (p : Addr) (k x y : Nat) : H p = some (.tup [.str "conflict", .int (k : Int), .int (x : Int), .int (y : Int)]) → Cfl S k x y → HV S N H (.ref p)
  | map (p d : Addr) (L : List (Nat × Nat)) : H p = some (.tup [.str "map", .ref d]) → H d = some (.dK ((L.map cI).map kII)) → N d → L.length ≤ 144 → Fnl S → L.Pairwise (fun x y => x.1 < y.1) → (∀ z, z ∈ L ↔ S z) → HV S N H (.ref p)
theorem HV.same {S : Nat × Nat → Prop} {N : Addr → Prop} {H H' : Hp} {v : V} (h : HV S N H v) (s : LamX.ExtN H H') : HV S N H' v := by
  cases h with
  | conf p k x y a b => exact .conf p k x y (s _ _ a fun _ => nofun) b
  | map p d L a b c e f g i => exact .map p d L (s _ _ a fun _ => nofun) (s _ _ b fun _ => nofun) c e f g i
/-! the groups -/
abbrev kA (z : Nat × Addr) : Key × V := (Sum.inl (z.1 : Int), V.ref z.2)
def secs (m : Nat) (L : List Nat) (k : Nat) : List Nat := (L.filter fun x => x / m == k).map (· % m)
theorem kA_val : ∀ (A : List (Nat × Addr)) (k : Nat), valV (A.map kA) (Sum.inl (k : Int)) = (A.find? fun z => z.1 == k).map fun z => V.ref z.2
  | [], k => rfl
  | x :: A, k => by
    rw [List.map_cons]
    by_cases e : x.1 = k
    · subst e
      rw [valV_pos rfl, List.find?_cons_of_pos (by simp)]
      rfl
    · rw [valV_neg (fun z => e (by have := Sum.inl.inj z; omega)), kA_val A k, List.find?_cons_of_neg (by simpa using e)]
theorem secs_mem {m : Nat} {L : List Nat} {k y : Nat} (hm : 0 < m) : y ∈ secs m L k ↔ k * m + y ∈ L ∧ y < m := by
  unfold secs
  rw [List.mem_map]
  constructor
  · rintro ⟨x, hx, rfl⟩
    rw [List.mem_filter] at hx
    have e : x / m = k := by simpa using hx.2
    have h0 := Nat.div_add_mod x m
    rw [e] at h0
    refine ⟨?_, Nat.mod_lt _ hm⟩
    rw [Nat.mul_comm, h0]
    exact hx.1
  · rintro ⟨h1, h2⟩
    refine ⟨_, List.mem_filter.mpr ⟨h1, ?_⟩, ?_⟩
    · rw [Nat.mul_comm, Nat.mul_add_div hm, Nat.div_eq_of_lt h2]
      simp
    · rw [Nat.mul_comm, Nat.mul_add_mod, Nat.mod_eq_of_lt h2]
theorem secs_asc {m : Nat} {L : List Nat} {k : Nat} (h : L.Pairwise (· < ·)) : (secs m L k).Pairwise (· < ·) := by
  unfold secs
  rw [List.pairwise_map]
  refine (h.filter _).imp_of_mem fun {a b} ha hb hab => ?_
  have e1 : a / m = k := by simpa using (List.mem_filter.mp ha).2
  have e2 : b / m = k := by simpa using (List.mem_filter.mp hb).2
  have d1 := Nat.div_add_mod a m
  have d2 := Nat.div_add_mod b m
  rw [e1] at d1
  rw [e2] at d2
  omega
theorem secs_snoc {m : Nat} {L : List Nat} {k x : Nat} : secs m (L ++ [x]) k = secs m L k ++ if x / m = k then [x % m] else [] := by
  unfold secs
  rw [List.filter_append, List.map_append]
  congr 1
  by_cases e : x / m = k
  · rw [if_pos e, List.filter_cons_of_pos (by simpa using e)]
    rfl
  · rw [if_neg e, List.filter_cons_of_neg (by simpa using e)]
    rfl
structure Img (m : Nat) (H0 : Hp) (d : Addr) (L : List Nat) (A : List (Nat × Addr)) (G : Hp) : Prop where
  sm : Same H0 G
  fd : G d = some (.dK (A.map kA))
  nw : ∀ z ∈ A, H0 z.2 = none
  asc : A.Pairwise (fun x y => x.1 < y.1)
  nd : A.Pairwise (fun x y => x.2 ≠ y.2)
  at_ : ∀ z ∈ A, G z.2 = some (.lst ((secs m L z.1).map iV))
  ks : ∀ k, k ∈ A.map (·.1) ↔ ∃ x ∈ L, x / m = k
theorem Img.here {m : Nat} {H0 G : Hp} {d : Addr} {L : List Nat} {A : List (Nat × Addr)} {z : Nat × Addr} {x : Nat} (h : Img m H0 d L A G) (nd : H0 d = none) (hz : z ∈ A) (hk : z.1 = x / m) :
    Img m H0 d (L ++ [x]) A (upd G z.2 (.lst ((secs m L z.1).map iV ++ [iV (x % m)]))) := by
  have hl := h.at_ z hz
  have ndz : d ≠ z.2 := fun e => by
    have := h.fd
    rw [e, hl] at this
    cases this
  refine ⟨fun b o e => ?_, by rw [upd_ne ndz]; exact h.fd, h.nw, h.asc, h.nd, fun w hw => ?_, fun k => ?_⟩
  · rw [upd_ne (ne_of_none e (h.nw z hz))]
    exact h.sm _ _ e
  · by_cases e : w = z
    · subst e
      rw [upd_same, secs_snoc, if_pos hk.symm, List.map_append]
      rfl
    · have n2 : w.2 ≠ z.2 := fun e2 => by
        have h2 := h.nd
        obtain ⟨i, hi, ei⟩ := List.mem_iff_getElem.mp hw
        obtain ⟨j, hj, ej⟩ := List.mem_iff_getElem.mp hz
        rcases Nat.lt_trichotomy i j with c | c | c
        · exact List.pairwise_iff_getElem.mp h2 i j hi hj c (by rw [ei, ej]; exact e2)
        · subst c
          exact e (ei.symm.trans ej)
        · exact List.pairwise_iff_getElem.mp h2 j i hj hi c (by rw [ei, ej]; exact e2.symm)
      have n1 : ¬ x / m = w.1 := fun e1 => by
        have h2 := h.asc
        obtain ⟨i, hi, ei⟩ := List.mem_iff_getElem.mp hw
        obtain ⟨j, hj, ej⟩ := List.mem_iff_getElem.mp hz
        rcases Nat.lt_trichotomy i j with c | c | c
        · have := List.pairwise_iff_getElem.mp h2 i j hi hj c
          rw [ei, ej] at this
          omega
        · subst c
          exact e (ei.symm.trans ej)
        · have := List.pairwise_iff_getElem.mp h2 j i hj hi c
          rw [ei, ej] at this
          omega
      rw [upd_ne n2, secs_snoc, if_neg n1, List.append_nil]
      exact h.at_ w hw
  · rw [h.ks k]
    constructor
    · rintro ⟨y, hy, e⟩
      exact ⟨y, List.mem_append_left _ hy, e⟩
    · rintro ⟨y, hy, e⟩
      rcases List.mem_append.mp hy with hy | hy
      · exact ⟨y, hy, e⟩
      · rw [List.mem_singleton.mp hy] at e
        exact (h.ks k).mp (List.mem_map.mpr ⟨z, hz, hk.trans e⟩)
theorem Img.new {m : Nat} {H0 G : Hp} {d l : Addr} {L : List Nat} {A : List (Nat × Addr)} {x : Nat} (h : Img m H0 d L A G) (nd : H0 d = none) (nl : G l = none) (hL : ∀ y ∈ L, y ≤ x) (hk : x / m ∉ A.map (·.1)) :
    Img m H0 d (L ++ [x]) (A ++ [(x / m, l)]) (upd (upd (upd G l (.lst [])) d (.dK ((A ++ [(x / m, l)]).map kA))) l (.lst [iV (x % m)])) := by
  have nl0 : H0 l = none := h.sm.free nl
  have ndl : d ≠ l := fun e => by
    have := h.fd
    rw [e, nl] at this
    cases this
  have old : ∀ {b : Addr} {o : HO}, b ≠ d → G b = some o → (upd (upd (upd G l (.lst [])) d (.dK ((A ++ [(x / m, l)]).map kA))) l (.lst [iV (x % m)])) b = some o := fun {b o} n e => by
    rw [upd_ne (ne_of_none e nl), upd_ne n, upd_ne (ne_of_none e nl)]
    exact e
  have kl : ∀ z ∈ A, z.1 < x / m := fun z hz => by
    obtain ⟨y, hy, e⟩ := (h.ks z.1).mp (List.mem_map.mpr ⟨z, hz, rfl⟩)
    have h1 : y / m ≤ x / m := Nat.div_le_div_right (hL y hy)
    have h2 : z.1 ≠ x / m := fun z' => hk (z' ▸ List.mem_map.mpr ⟨z, hz, rfl⟩)
    omega
  refine ⟨fun b o e => old (ne_of_none e nd) (h.sm _ _ e), ?_, fun z hz => ?_, ?_, ?_, fun z hz => ?_, fun k => ?_⟩
  · rw [upd_ne ndl, upd_same]
  · rcases List.mem_append.mp hz with hz | hz
    · exact h.nw z hz
    · rw [List.mem_singleton.mp hz]
      exact nl0
  · refine List.pairwise_append.mpr ⟨h.asc, by simp, fun a ha b hb => ?_⟩
    rw [List.mem_singleton.mp hb]
    exact kl a ha
  · refine List.pairwise_append.mpr ⟨h.nd, by simp, fun a ha b hb => ?_⟩
    rw [List.mem_singleton.mp hb]
    exact ne_of_none (h.at_ a ha) nl
  · rcases List.mem_append.mp hz with hz | hz
    · have := kl z hz
      rw [secs_snoc, if_neg (by omega), List.append_nil]
      have hz2 := h.at_ z hz
      exact old (fun e => by have := h.fd; rw [← e, hz2] at this; cases this) hz2
    · rw [List.mem_singleton.mp hz, upd_same, secs_snoc, if_pos rfl]
      have e0 : secs m L (x / m) = [] := by
        unfold secs
        rw [List.filter_eq_nil_iff.mpr fun y hy e => hk ((h.ks _).mpr ⟨y, hy, by simpa using e⟩)]
        rfl
      rw [e0]
      rfl
  · rw [List.map_append, List.mem_append, h.ks k]
    constructor
    · rintro (⟨y, hy, e⟩ | e)
      · exact ⟨y, List.mem_append_left _ hy, e⟩
      · exact ⟨x, by simp, (List.mem_singleton.mp e).symm⟩
    · rintro ⟨y, hy, e⟩
      rcases List.mem_append.mp hy with hy | hy
      · exact .inl ⟨y, hy, e⟩
      · rw [List.mem_singleton.mp hy] at e
        exact .inr (List.mem_singleton.mpr e.symm)
theorem kA_some {A : List (Nat × Addr)} {k : Nat} {v : V} (h : valV (A.map kA) (Sum.inl (k : Int)) = some v) : ∃ z ∈ A, z.1 = k ∧ v = .ref z.2 := by
  rw [kA_val] at h
  obtain ⟨z, hz, rfl⟩ := Option.map_eq_some_iff.mp h
  exact ⟨z, List.mem_of_find?_eq_some hz, by simpa using List.find?_some hz, rfl⟩
theorem kA_none {A : List (Nat × Addr)} {k : Nat} (h : valV (A.map kA) (Sum.inl (k : Int)) = none) : k ∉ A.map (·.1) := fun hk => by
  rw [kA_val, Option.map_eq_none_iff, List.find?_eq_none] at h
  obtain ⟨z, hz, e⟩ := List.mem_map.mp hk
  exact h z hz (by simpa using e)
theorem kA_at {A : List (Nat × Addr)} (h : A.Pairwise fun x y => x.1 < y.1) {z : Nat × Addr} (hz : z ∈ A) : valV (A.map kA) (Sum.inl (z.1 : Int)) = some (.ref z.2) := by
  cases e : valV (A.map kA) (Sum.inl (z.1 : Int)) with
  | none => exact absurd (List.mem_map.mpr ⟨z, hz, rfl⟩) (kA_none e)
  | some v =>
    obtain ⟨w, hw, e1, rfl⟩ := kA_some e
    have : w = z := by
      obtain ⟨i, hi, ei⟩ := List.mem_iff_getElem.mp hw
      obtain ⟨j, hj, ej⟩ := List.mem_iff_getElem.mp hz
      rcases Nat.lt_trichotomy i j with c | c | c
      · have := List.pairwise_iff_getElem.mp h i j hi hj c
        rw [ei, ej] at this
        omega
      · subst c
        exact ei.symm.trans ej
      · have := List.pairwise_iff_getElem.mp h j i hj hi c
        rw [ei, ej] at this
        omega
    rw [this]
theorem gen_jo {n m : Nat} {r1 r2 : List (List Int)} {s t : Nat} (hm : 0 < m) (hb : ∀ a b, a < m → b < m → ev r2 a b < m) (ht : t < m) : ∀ k y, Gen (pop2 (ev r1) (ev r2)) (s, t) (k, y) ↔ Gen (jo r1 r2 m) (s * m + t) (k * m + y) ∧ y < m := by
  have dv : ∀ k y, y < m → (k * m + y) / m = k ∧ (k * m + y) % m = y := fun k y h => by
    rw [Nat.mul_comm, Nat.mul_add_div hm, Nat.div_eq_of_lt h, Nat.mul_add_mod, Nat.mod_eq_of_lt h]
    exact ⟨rfl, rfl⟩
  have f1 : ∀ z, Gen (pop2 (ev r1) (ev r2)) (s, t) z → Gen (jo r1 r2 m) (s * m + t) (z.1 * m + z.2) ∧ z.2 < m := fun z h => by
    induction h with
    | base => exact ⟨.base, ht⟩
    | @step a b _ _ i1 i2 =>
      have e : jo r1 r2 m (a.1 * m + a.2) (b.1 * m + b.2) = ev r1 a.1 b.1 * m + ev r2 a.2 b.2 := by
        unfold jo
        rw [(dv _ _ i1.2).1, (dv _ _ i1.2).2, (dv _ _ i2.2).1, (dv _ _ i2.2).2]
      have := Gen.step i1.1 i2.1
      rw [e] at this
      exact ⟨this, hb _ _ i1.2 i2.2⟩
  have f2 : ∀ z, Gen (jo r1 r2 m) (s * m + t) z → Gen (pop2 (ev r1) (ev r2)) (s, t) (z / m, z % m) := fun z h => by
    induction h with
    | base => rw [(dv _ _ ht).1, (dv _ _ ht).2]; exact .base
    | @step a b _ _ i1 i2 =>
      have h1 := hb (a % m) (b % m) (Nat.mod_lt _ hm) (Nat.mod_lt _ hm)
      have := Gen.step i1 i2
      unfold jo
      rw [(dv _ _ h1).1, (dv _ _ h1).2]
      exact this
  refine fun k y => ⟨f1 (k, y), fun ⟨h1, h2⟩ => ?_⟩
  have := f2 _ h1
  rw [(dv _ _ h2).1, (dv _ _ h2).2] at this
  exact this
/-- of an ascending list of numbered pairs: what stands at a key -/
theorem oneK_of {m k : Nat} {L : List Nat} {S : Nat × Nat → Prop} (hm : 0 < m) (hS : ∀ k y, S (k, y) ↔ k * m + y ∈ L ∧ y < m) (h : ¬ 1 < (secs m L k).length) : ∀ x y, S (k, x) → S (k, y) → x = y := fun x y h1 h2 => by
  have a1 := (secs_mem hm).mpr ((hS k x).mp h1)
  have a2 := (secs_mem hm).mpr ((hS k y).mp h2)
  cases e : secs m L k with
  | nil => rw [e] at a1; cases a1
  | cons u us =>
    cases us with
    | nil =>
      rw [e] at a1 a2
      rw [List.mem_singleton.mp a1, List.mem_singleton.mp a2]
    | cons v vs => rw [e] at h; exact absurd (by simp) h
theorem twoK_of {m k : Nat} {L : List Nat} {S : Nat × Nat → Prop} (hm : 0 < m) (hS : ∀ k y, S (k, y) ↔ k * m + y ∈ L ∧ y < m) (hL : L.Pairwise (· < ·)) (h : 1 < (secs m L k).length) (hlow : ∀ k', k' < k → ∀ x y, S (k', x) → S (k', y) → x = y) :
    ∃ x y us, secs m L k = x :: y :: us ∧ Cfl S k x y := by
  have ha := secs_asc (m := m) (k := k) hL
  cases e : secs m L k with
  | nil => rw [e] at h; exact absurd h (by simp)
  | cons x us =>
    cases us with
    | nil => rw [e] at h; exact absurd h (by simp)
    | cons y us =>
      rw [e] at ha
      obtain ⟨h1, h2⟩ := List.pairwise_cons.mp ha
      obtain ⟨h3, _⟩ := List.pairwise_cons.mp h2
      have mem : ∀ z, z ∈ x :: y :: us ↔ S (k, z) := fun z => by rw [← e, secs_mem hm, hS]
      refine ⟨x, y, us, rfl, (mem x).mp (by simp), (mem y).mp (by simp), h1 y (by simp), fun z hz => ?_, hlow⟩
      rcases List.mem_cons.mp ((mem z).mpr hz) with e | hz
      · exact .inl e
      rcases List.mem_cons.mp hz with e | hz
      · exact .inr (by omega)
      · exact .inr (Nat.le_of_lt (h3 z hz))
/-- the map -/
def mapL (m : Nat) (L : List Nat) (A : List (Nat × Addr)) : List (Nat × Nat) := A.map fun z => (z.1, (secs m L z.1).headD 0)
theorem mapL_ok {m : Nat} {H0 G : Hp} {d : Addr} {L : List Nat} {A : List (Nat × Addr)} {S : Nat × Nat → Prop} (h : Img m H0 d L A G) (hm : 0 < m) (hS : ∀ k y, S (k, y) ↔ k * m + y ∈ L ∧ y < m) (hall : ∀ z ∈ A, ¬ 1 < (secs m L z.1).length) :
    Fnl S ∧ (mapL m L A).Pairwise (fun x y => x.1 < y.1) ∧ (∀ z, z ∈ mapL m L A ↔ S z) ∧ ∀ z ∈ A, ∃ x, secs m L z.1 = [x] := by
  have key : ∀ k y, S (k, y) → k ∈ A.map (·.1) := fun k y hs => by
    obtain ⟨h1, h2⟩ := (hS k y).mp hs
    refine (h.ks k).mpr ⟨_, h1, ?_⟩
    rw [Nat.mul_comm, Nat.mul_add_div hm, Nat.div_eq_of_lt h2]
    rfl
  have one : ∀ z ∈ A, ∃ x, secs m L z.1 = [x] := fun z hz => by
    obtain ⟨x, hx, e⟩ := (h.ks z.1).mp (List.mem_map.mpr ⟨z, hz, rfl⟩)
    have hmem : x % m ∈ secs m L z.1 := (secs_mem hm).mpr ⟨by
      have := Nat.div_add_mod x m
      rw [e, Nat.mul_comm] at this
      rw [this]
      exact hx, Nat.mod_lt _ hm⟩
    have hl := hall z hz
    cases e2 : secs m L z.1 with
    | nil => rw [e2] at hmem; cases hmem
    | cons u us =>
      cases us with
      | nil => exact ⟨u, rfl⟩
      | cons v vs => rw [e2] at hl; exact absurd (by simp) hl
  have fn : Fnl S := fun k x y h1 h2 => by
    obtain ⟨z, hz, e⟩ := List.mem_map.mp (key k x h1)
    have := hall z hz
    rw [e] at this
    exact oneK_of hm hS this x y h1 h2
  refine ⟨fn, ?_, fun w => ?_, one⟩
  · unfold mapL
    rw [List.pairwise_map]
    exact h.asc
  · unfold mapL
    rw [List.mem_map]
    constructor
    · rintro ⟨z, hz, rfl⟩
      obtain ⟨x, hx⟩ := one z hz
      have hmem : x ∈ secs m L z.1 := by rw [hx]; simp
      rw [hx]
      exact (hS _ _).mpr ((secs_mem hm).mp hmem)
    · intro hw
      obtain ⟨k, y⟩ := w
      obtain ⟨z, hz, e⟩ := List.mem_map.mp (key k y hw)
      refine ⟨z, hz, ?_⟩
      obtain ⟨x, hx⟩ := one z hz
      have hmem : x ∈ secs m L z.1 := by rw [hx]; simp
      have := fn k x y (by rw [← e]; exact (hS _ _).mpr ((secs_mem hm).mp hmem)) hw
      have e : z.1 = k := e
      rw [hx, e]
      exact Prod.ext rfl this
theorem lit_of {F : List Nat} {ys : List Int} (h1 : F.Nodup) (h2 : ys.Perm (F.map fun (x : Nat) => (x : Int))) (h3 : ys.Pairwise (· ≤ ·)) : ∃ L : List Nat, ys = L.map (fun (x : Nat) => (x : Int)) ∧ L.Pairwise (· < ·) ∧ ∀ x, x ∈ L ↔ x ∈ F := by
  have hn : ∀ y ∈ ys, ∃ x : Nat, y = (x : Int) := fun y hy => by
    obtain ⟨x, _, rfl⟩ := List.mem_map.mp (h2.mem_iff.mp hy)
    exact ⟨x, rfl⟩
  have e : ys = (ys.map Int.toNat).map (fun (x : Nat) => (x : Int)) := by
    rw [List.map_map]
    conv => lhs; rw [← List.map_id ys]
    refine List.map_congr_left fun y hy => ?_
    obtain ⟨x, rfl⟩ := hn y hy
    rfl
  have hp : (ys.map Int.toNat).Perm F := by
    have := h2.map Int.toNat
    rw [List.map_map] at this
    have e2 : F.map (Int.toNat ∘ fun (x : Nat) => (x : Int)) = F := by
      conv => rhs; rw [← List.map_id F]
      rfl
    rwa [e2] at this
  refine ⟨_, e, ?_, fun x => hp.mem_iff⟩
  have hnd := hp.nodup_iff.mpr h1
  rw [e, List.pairwise_map] at h3
  refine (h3.and hnd).imp fun {a b} ⟨p, q⟩ => ?_
  omega
def spHom (T : List (Addr × Str)) (K : PySem.W.Frag) (CM CX : Addr) : Sp := fun vs H Q E => ∃ (p q : Addr) (r1 r2 : List (List Int)) (s t : Int), vs = [.ref p, .int s, .ref q, .int t] ∧ MdS K H p r1 ∧ MdS K H q r2 ∧ LamX.Tabs T H ∧ (okM r1 = false → ∀ H', Same H H' → E (.ref CM) none H') ∧
  (okM r1 = true → ¬ (0 ≤ s ∧ s < (r1.length : Int)) → ∀ H', Same H H' → E (.ref CX) none H') ∧
  (okM r1 = true → 0 ≤ s → s < (r1.length : Int) → okM r2 = false → ∀ H', Same H H' → E (.ref CM) none H') ∧
  (okM r1 = true → 0 ≤ s → s < (r1.length : Int) → okM r2 = true → ¬ (0 ≤ t ∧ t < (r2.length : Int)) → ∀ H', Same H H' → E (.ref CX) none H') ∧
  (okM r1 = true → okM r2 = true → ∀ a b : Nat, s = (a : Int) → t = (b : Int) → a < r1.length → b < r2.length → ∀ (v : V) (H' : Hp), LamX.ExtN H H' → LamX.Tabs T H' → HV (Gen (pop2 (ev r1) (ev r2)) (a, b)) (fun d => ∀ b o, H b = some o → (∀ ps, o ≠ .tbl ps) → b ≠ d) H' v → Q v H')
def wo (H : Hp) (d : Addr) : Hp := fun b => if b = d then none else H b
theorem wo_same {H : Hp} {d : Addr} : wo H d d = none := if_pos rfl
theorem wo_ne {H : Hp} {d b : Addr} (n : b ≠ d) : wo H d b = H b := if_neg n
theorem Img.zero {m : Nat} {H : Hp} {d : Addr} (h : H d = some (.dK [])) : Img m (wo H d) d [] [] H :=
  ⟨fun b o e => by
    by_cases n : b = d
    · rw [n, wo_same] at e; cases e
    · rw [wo_ne n] at e; exact e, h, (fun _ z => nomatch z), .nil, .nil, (fun _ z => nomatch z), fun k => ⟨fun z => (nomatch z), fun ⟨_, z, _⟩ => (nomatch z)⟩⟩
theorem tabs_setK {T : List (Addr × Str)} {H H' : Hp} {D : Addr} {xs : List (Key × V)} (t : LamX.Tabs T H) (hD : H D = some (.dK xs)) (e : ∀ b o, b ≠ D → H b = some o → H' b = some o) : LamX.Tabs T H' := fun p hp => by
  obtain ⟨ps, h1, h2, h3⟩ := t p hp
  refine ⟨ps, e _ _ (fun z => by rw [z, hD] at h1; cases h1) h1, h2, fun pos cv ec => ?_⟩
  obtain ⟨c, rfl, hc⟩ := h3 pos cv ec
  exact ⟨c, rfl, e _ _ (fun z => by rw [z, hD] at hc; cases hc) hc⟩
theorem Img.same {m : Nat} {H0 G G' : Hp} {d : Addr} {L : List Nat} {A : List (Nat × Addr)} (h : Img m H0 d L A G) (s : Same G G') : Img m H0 d L A G' :=
  ⟨h.sm.trans s, s _ _ h.fd, h.nw, h.asc, h.nd, fun z hz => s _ _ (h.at_ z hz), h.ks⟩
theorem secs_len {m : Nat} {L : List Nat} {k : Nat} : (secs m L k).length ≤ L.length := by
  unfold secs
  rw [List.length_map]
  exact List.length_filter_le _ _
section
variable {J : It} {n : Nat} {G : Hp → Prop} {Y : Nat → Hp → V → Hp → Prop}
/-- a dict comprehension over it -/
theorem dc_it (w : Walk J n G Y) {g : TG} {tt : TT} {tk tv : TE} {vs : List Nat} {σ : L2.St} {H1 : Hp} {D : Addr} {Qd : Hp → Prop} (Pv : Nat → Hp → Prop) (h0 : Pv 0 (upd H1 D (.dK []))) (hG : ∀ i H, i ≤ n → Pv i H → G H)
    (hs : ∀ i x H H', i < n → Pv i H → Y i H x H' → g x (wipe σ vs) H' fun σ2 H2 => wipe σ2 vs = wipe σ vs ∧ tt σ2 H2 fun b H3 =>
      if b = true then tk σ2 H3 fun y H4 => tv σ2 H4 fun z H5 => ∃ kvs k, y = kV k ∧ H5 D = some (.dK kvs) ∧ kvs.length < sizeLine ∧ Pv (i + 1) (upd H5 D (.dK (putK kvs k z))) else Pv (i + 1) H3) (hd : ∀ H, Pv n H → Qd H) :
    ∃ W : Nat → Nat → Hp → Prop, (∃ m, W 0 m (upd H1 D (.dK []))) ∧ ∀ i m H, W i m H →
      (J.stop i H ∧ Qd H) ∨ (J.go i H ∧ ∃ Nx : Hp → Prop, (∀ H', Nx H' → ∃ m', m' < m ∧ W (i + 1) m' H') ∧ ∀ x H', J.yld i H x H' → g x (wipe σ vs) H' fun σ2 H2 => wipe σ2 vs = wipe σ vs ∧ tt σ2 H2 fun b H3 =>
        if b = true then tk σ2 H3 fun y H4 => tv σ2 H4 fun z H5 => ∃ kvs k, y = kV k ∧ H5 D = some (.dK kvs) ∧ kvs.length < sizeLine ∧ Nx (upd H5 D (.dK (putK kvs k z))) else Nx H3) := by
  refine ⟨fun i m H => m = n - i ∧ i ≤ n ∧ Pv i H, ⟨n, by simp, Nat.zero_le _, h0⟩, ?_⟩
  rintro i m H ⟨rfl, hi, p⟩
  have q := hG i H hi p
  by_cases hlt : i < n
  · refine .inr ⟨w.goes i H hlt q, Pv (i + 1), fun H' p' => ⟨n - (i + 1), by omega, rfl, hlt, p'⟩, fun x H' y => hs i x H H' hlt p (w.yields i H x H' hlt q y)⟩
  · have e : i = n := by omega
    subst e
    exact .inl ⟨w.stops H q, hd H p⟩
end
theorem putK_cI {M : List (Nat × Nat)} {k x : Nat} (h : ∀ z ∈ M, z.1 ≠ k) : putK ((M.map cI).map kII) (Sum.inl (k : Int)) (V.int (x : Int)) = ((M ++ [(k, x)]).map cI).map kII := by
  rw [putK_new, List.map_append, List.map_append]
  · rfl
  · clear x
    induction M with
    | nil => rfl
    | cons z M ih =>
      rw [List.map_cons, List.map_cons, valV_neg, ih fun w hw => h w (List.mem_cons_of_mem _ hw)]
      intro e
      have e1 : (z.1 : Int) = (k : Int) := Sum.inl.inj e
      have := h z List.mem_cons_self
      omega
def kOf (H : Hp) (v : V) : Int × Int := match v with
  | .ref b => match H b with
    | some (.tup [.int x, .int y]) => (x, y)
    | _ => (0, 0)
  | _ => (0, 0)
theorem kOf_at {H : Hp} {b : Addr} {x y : Int} (h : H b = some (.tup [.int x, .int y])) : kOf H (.ref b) = (x, y) := by
  show (match H b with | some (.tup [.int x, .int y]) => (x, y) | _ => (0, 0)) = _
  rw [h]
def lexN (x y : Nat × Nat) : Prop := x.1 < y.1 ∨ (x.1 = y.1 ∧ x.2 ≤ y.2)
def spVPS (K : PySem.W.Frag) : Sp := fun vs H Q _ => ∃ (p q : Addr) (r1 r2 : List (List Int)) (n m s t : Nat) (qa qb : List Addr), vs = [.ref p, .int (s : Int), .ref q, .int (t : Int)] ∧ MdN K H p r1 n qa ∧ MdN K H q r2 m qb ∧ s < n ∧ t < m ∧ n * m ≤ 144 ∧
  ∀ (L : List (Addr × Nat × Nat)) (l : Addr) (H' : Hp), Same H H' → (L.map (·.2)).Nodup → L.length ≤ n * m → (L.map (·.2)).Pairwise lexN → (∀ x, x ∈ L.map (·.2) ↔ Gen (pop2 (ev r1) (ev r2)) (s, t) x) → H l = none → H' l = some (.lst (L.map rV)) → (∀ x ∈ L, H' x.1 = some (.tup [.int (x.2.1 : Int), .int (x.2.2 : Int)])) → Q (.ref l) H'
/-- of the law's list of pairs -/
def spLHom (K : PySem.W.Frag) : Sp := fun vs H Q _ => ∃ (l : Addr) (L : List (Addr × Nat × Nat)), vs = [.ref l] ∧ H l = some (.lst (L.map rV)) ∧ (∀ x ∈ L, H x.1 = some (.tup [.int (x.2.1 : Int), .int (x.2.2 : Int)])) ∧ (L.map (·.2)).Nodup ∧ (L.map (·.2)).Pairwise lexN ∧ L.length ≤ 144 ∧
  ∀ (v : V) (H' : Hp), Same H H' → HV (fun z => z ∈ L.map (·.2)) (fun _ => True) H' v → Q v H'
theorem HV.eqv {S S' : Nat × Nat → Prop} {N : Addr → Prop} {H : Hp} {v : V} (h : HV S N H v) (e : ∀ z, S z ↔ S' z) : HV S' N H v := by
  obtain rfl : S = S' := funext fun z => propext (e z)
  exact h
theorem merge_cI : ∀ (M acc : List (Nat × Nat)), M.Pairwise (fun x y => x.1 < y.1) → (∀ x ∈ acc, ∀ y ∈ M, x.1 < y.1) → mergeK ((acc.map cI).map kII) ((M.map cI).map kII) = ((acc ++ M).map cI).map kII
  | [], acc, _, _ => by rw [List.append_nil]; rfl
  | z :: M, acc, h, ha => by
    obtain ⟨h1, h2⟩ := List.pairwise_cons.mp h
    have e1 : mergeK ((acc.map cI).map kII) (((z :: M).map cI).map kII) = mergeK (putK ((acc.map cI).map kII) (Sum.inl (z.1 : Int)) (V.int (z.2 : Int))) ((M.map cI).map kII) := rfl
    rw [e1, putK_cI fun x hx => Nat.ne_of_lt (ha x hx z List.mem_cons_self), show acc ++ z :: M = (acc ++ [(z.1, z.2)]) ++ M by simp]
    refine merge_cI M _ h2 fun x hx y hy => ?_
    rcases List.mem_append.mp hx with hx | hx
    · exact ha x hx y (List.mem_cons_of_mem _ hy)
    · rw [List.mem_singleton.mp hx]
      exact h1 y hy
theorem paired_cI {K : PySem.W.Frag} {H : Hp} : ∀ {L : List (Addr × Nat × Nat)}, (∀ x ∈ L, H x.1 = some (.tup [.int (x.2.1 : Int), .int (x.2.2 : Int)])) → Paired (fun p kv => SqT K H p [kV kv.1, kv.2]) (L.map (·.1)) (((L.map (·.2)).map cI).map kII)
  | [], _ => .nil
  | x :: L, h => .cons (SqT.here (h x List.mem_cons_self)) (paired_cI fun y hy => h y (List.mem_cons_of_mem _ hy))
theorem asc_of {M : List (Nat × Nat)} (h1 : M.Nodup) (h2 : M.Pairwise lexN) (h3 : Fnl fun z => z ∈ M) : M.Pairwise fun x y => x.1 < y.1 := by
  refine (h1.and h2).imp_of_mem fun {x y} hx hy ⟨n, l⟩ => ?_
  rcases l with l | ⟨l1, l2⟩
  · exact l
  · refine absurd (Prod.ext l1 ?_) n
    have hx' : (x.1, x.2) ∈ M := hx
    have hy' : (x.1, y.2) ∈ M := by rw [l1]; exact hy
    exact h3 x.1 x.2 y.2 hx' hy'
def spSameK (K : PySem.W.Frag) : Sp := fun vs H Q _ => ∃ (a b : Addr) (M : List (Nat × Nat)), vs = [.ref a, .ref b] ∧ H a = some (.dK ((M.map cI).map kII)) ∧ H b = some (.dK ((M.map cI).map kII)) ∧ M.Pairwise (fun x y => x.1 < y.1) ∧ M.length ≤ 144 ∧ ∀ H', Same H H' → Q (.bl true) H'
def prD (z : Nat × Nat) : PyData := .tuple [.int (z.1 : Int), .int (z.2 : Int)]
theorem FnOk.or {P : Program} {w : World} {K : PySem.W.Frag} {mg : Str → Option Value} {base : Heap} {CX : CXT} {k : Nat} {f : Addr} {fd : FuncData} {ps : List Str} {sp sp' : Sp} (F : FnOk P w K mg base CX k f fd ps sp) (G : FnOk P w K mg base CX k f fd ps sp') : FnOk P w K mg base CX k f fd ps (fun vs H Q E => sp vs H Q E ∨ sp' vs H Q E) :=
  ⟨fun vs H Q E h => h.elim (F.len vs H Q E) (G.len vs H Q E), fun A outer s H args us vs Q E hr he hb hv h => h.elim (F.run A outer s H args us vs Q E hr he hb hv) (G.run A outer s H args us vs Q E hr he hb hv)⟩
theorem dp_prs {K : PySem.W.Frag} {H : Hp} : ∀ {qs : List Addr} {M : List (Nat × Nat)}, qs.length = M.length → (∀ (j : Nat) (q : Addr) (z : Nat × Nat), qs[j]? = some q → M[j]? = some z → H q = some (.tup [.int (z.1 : Int), .int (z.2 : Int)])) → DpAll K H (qs.map V.ref) (M.map prD)
  | [], [], _, _ => .nil
  | q :: qs, z :: M, e, h => .cons (Dp.tup (SqT.here (h 0 q z rfl rfl)) (.cons (.int _) (.cons (.int _) .nil))) (dp_prs (Nat.succ.inj e) fun j q' z' k1 k2 => h (j + 1) q' z' k1 k2)
theorem prs_lay : ∀ M : List (Nat × Nat), PyData.canLayAll0 (M.map prD) = true
  | [] => rfl
  | z :: M => prs_lay M
theorem prs_dep : ∀ M : List (Nat × Nat), PyData.depthAll (M.map prD) ≤ 2
  | [] => Nat.zero_le _
  | z :: M => by
    have h := prs_dep M
    show max (PyData.depth (prD z)) (PyData.depthAll (M.map prD)) ≤ 2
    have e : PyData.depth (prD z) ≤ 2 := by
      have := row_dep [(z.1 : Int), (z.2 : Int)]
      show PyData.depthAll ([(z.1 : Int), (z.2 : Int)].map .int) + 1 ≤ 2
      omega
    omega
theorem prs_wide : ∀ M : List (Nat × Nat), wideAll (M.map prD) = true
  | [] => rfl
  | z :: M => by
    show (wide (prD z) && wideAll (M.map prD)) = true
    rw [prs_wide M]
    rfl
theorem prs_depth (M : List (Nat × Nat)) : (PyData.list (M.map prD)).depth ≤ 3 := by
  have := prs_dep M
  show PyData.depthAll (M.map prD) + 1 ≤ 3
  omega
theorem prs_shaped (M : List (Nat × Nat)) : SeqAt.shaped (.list (M.map prD)) = true := by
  have h := prs_depth M
  unfold SeqAt.shaped
  rw [show (PyData.list (M.map prD)).canLay0 = PyData.canLayAll0 (M.map prD) from rfl, prs_lay, decide_eq_true (by omega)]
  rfl
theorem prs_wide1 {M : List (Nat × Nat)} (h : M.length ≤ 144) : wide (.list (M.map prD)) = true := by
  show (decide ((M.map prD).length ≤ 1000) && wideAll (M.map prD)) = true
  rw [List.length_map, decide_eq_true (show M.length ≤ 1000 by omega), prs_wide]
  rfl
def spSameM (K : PySem.W.Frag) : Sp := fun vs H Q _ => ∃ (x y a b : Addr) (M : List (Nat × Nat)), vs = [.ref x, .ref y] ∧ H x = some (.tup [.str "map", .ref a]) ∧ H y = some (.tup [.str "map", .ref b]) ∧ H a = some (.dK ((M.map cI).map kII)) ∧ H b = some (.dK ((M.map cI).map kII)) ∧ M.Pairwise (fun x y => x.1 < y.1) ∧ M.length ≤ 144 ∧ ∀ H', Same H H' → Q (.bl true) H'
theorem kit_tl {K : PySem.W.Frag} : PySem.W.kitAny K (.type "tuple") [.type "tuple", .type "list"] = some true := by
  refine kitAny_cons (kit_ty (show kitB "tuple" "tuple" = some true by decide +kernel)) (fun e => ?_) (fun e => ?_)
  · cases e
  · rfl
structure Fr55 (K : PySem.W.Frag) (T : List (Addr × Str)) (r c p1 p2 : Addr) (r1 r2 : List (List Int)) (G : Hp) : Prop where
  R : RngC G r c
  t : LamX.Tabs T G
  A : MdA K G p1 r1
  B : MdA K G p2 r2
theorem Fr55.same {K : PySem.W.Frag} {T : List (Addr × Str)} {r c p1 p2 : Addr} {r1 r2 : List (List Int)} {G G' : Hp} (h : Fr55 K T r c p1 p2 r1 r2 G) (s : Same G G') : Fr55 K T r c p1 p2 r1 r2 G' := ⟨h.R.same s, tabs_same s h.t, h.A.tp (Tp.same s), h.B.tp (Tp.same s)⟩
theorem Fr55.extN {K : PySem.W.Frag} {T : List (Addr × Str)} {r c p1 p2 : Addr} {r1 r2 : List (List Int)} {G G' : Hp} (h : Fr55 K T r c p1 p2 r1 r2 G) (e : LamX.ExtN G G') (t : LamX.Tabs T G') : Fr55 K T r c p1 p2 r1 r2 G' := ⟨h.R.extN e, t, h.A.tp (Tp.extN e), h.B.tp (Tp.extN e)⟩
theorem Fr55.rng {K : PySem.W.Frag} {T : List (Addr × Str)} {r c p1 p2 : Addr} {r1 r2 : List (List Int)} {G G' : Hp} (h : Fr55 K T r c p1 p2 r1 r2 G) (R : RngC G' r c) (b : But r G G') : Fr55 K T r c p1 p2 r1 r2 G' := ⟨R, h.R.tabs b h.t, h.A.tp (h.R.tp b), h.B.tp (h.R.tp b)⟩
/-- a dict changes -/
theorem tp_dK {H : Hp} {d : Addr} {kvs kvs' : List (Key × V)} (h : H d = some (.dK kvs)) : Tp H (upd H d (.dK kvs')) := fun b xs e => by
  rcases e with e | ⟨o, e⟩
  · exact .inl (by rw [upd_ne (ne_of e h (by intro z; cases z))]; exact e)
  · exact .inr ⟨o, by rw [upd_ne (ne_of e h (by intro z; cases z))]; exact e⟩
theorem Fr55.dK {K : PySem.W.Frag} {T : List (Addr × Str)} {r c p1 p2 d : Addr} {r1 r2 : List (List Int)} {G : Hp} {kvs kvs' : List (Key × V)} (h : Fr55 K T r c p1 p2 r1 r2 G) (e : G d = some (.dK kvs)) (n : r ≠ d ∧ c ≠ d) : Fr55 K T r c p1 p2 r1 r2 (upd G d (.dK kvs')) :=
  ⟨h.R.set ⟨n.1.symm, n.2.symm⟩, tabs_setK h.t e fun b o n e => by rw [upd_ne n]; exact e, h.A.tp (tp_dK e), h.B.tp (tp_dK e)⟩
theorem MdS.ok {K : PySem.W.Frag} {H : Hp} {p : Addr} {rows : List (List Int)} (h : MdA K H p rows) (ok : okM rows = true) : MdS K H p rows := MdS.of h ok
def cfD (k x y : Nat) : PyData := .tuple [.str "conflict", .int (k : Int), .int (x : Int), .int (y : Int)]
theorem cfD_dp {K : PySem.W.Frag} {H : Hp} {p : Addr} {k x y : Nat} (h : H p = some (.tup [.str "conflict", .int (k : Int), .int (x : Int), .int (y : Int)])) : Dp K H (.ref p) (cfD k x y) := Dp.tup (SqT.here h) (.cons (.str _) (.cons (.int _) (.cons (.int _) (.cons (.int _) .nil))))
theorem cfD_depth (k x y : Nat) : (cfD k x y).depth ≤ 2 := by
  have h := row_dep [(k : Int), (x : Int), (y : Int)]
  show max (PyData.depth (.str "conflict")) (PyData.depthAll ([(k : Int), (x : Int), (y : Int)].map .int)) + 1 ≤ 2
  have e : PyData.depth (.str "conflict") ≤ 1 := by first | exact Nat.le_refl _ | exact Nat.zero_le _
  omega
theorem cfD_shaped (k x y : Nat) : SeqAt.shaped (cfD k x y) = true := by
  have h := cfD_depth k x y
  have c1 : PyData.canLay0 (.str "conflict") = true := by decide +kernel
  have c : (cfD k x y).canLay0 = true := by
    show (PyData.canLay0 (.str "conflict") && PyData.canLayAll0 ([(k : Int), (x : Int), (y : Int)].map .int)) = true
    rw [c1, row_lay]
    rfl
  unfold SeqAt.shaped
  rw [c, decide_eq_true (by omega)]
  rfl
/-- what the tries of k55 need -/
structure Tr55 (K : PySem.W.Frag) (T : List (Addr × Str)) (p1 p2 pb : Addr) (r1 r2 rb : List (List Int)) (G : Hp) : Prop where
  t : LamX.Tabs T G
  A : MdA K G p1 r1
  B : MdA K G p2 r2
  D : MdA K G pb rb
theorem Tr55.same {K : PySem.W.Frag} {T : List (Addr × Str)} {p1 p2 pb : Addr} {r1 r2 rb : List (List Int)} {G G' : Hp} (h : Tr55 K T p1 p2 pb r1 r2 rb G) (s : Same G G') : Tr55 K T p1 p2 pb r1 r2 rb G' := ⟨tabs_same s h.t, h.A.tp (Tp.same s), h.B.tp (Tp.same s), h.D.tp (Tp.same s)⟩
theorem Tr55.extN {K : PySem.W.Frag} {T : List (Addr × Str)} {p1 p2 pb : Addr} {r1 r2 rb : List (List Int)} {G G' : Hp} (h : Tr55 K T p1 p2 pb r1 r2 rb G) (e : LamX.ExtN G G') (t : LamX.Tabs T G') : Tr55 K T p1 p2 pb r1 r2 rb G' := ⟨t, h.A.tp (Tp.extN e), h.B.tp (Tp.extN e), h.D.tp (Tp.extN e)⟩
/-! ### k82: values of a term along a map -/
theorem gen_mv {r1 r2 : List (List Int)} {s t : Nat} : ∀ u : Tree, Gen (pop2 (ev r1) (ev r2)) (s, t) (u.mv r1 s, u.mv r2 t)
  | .L => .base
  | .N l r => .step (gen_mv l) (gen_mv r)
/-- a pair of values comes of one term -/
theorem mv_gen2 {r1 r2 : List (List Int)} {s t : Nat} {z : Nat × Nat} (h : Gen (pop2 (ev r1) (ev r2)) (s, t) z) : ∃ u : Tree, z = (u.mv r1 s, u.mv r2 t) := by
  induction h with
  | base => exact ⟨.L, rfl⟩
  | step _ _ i1 i2 =>
    obtain ⟨u, rfl⟩ := i1
    obtain ⟨v, rfl⟩ := i2
    exact ⟨.N u v, rfl⟩
abbrev Mm := List (Addr × List (List Int) × Nat)
structure Fr82 (K : PySem.W.Frag) (T : List (Addr × Str)) (r c lm ls : Addr) (M : Mm) (G : Hp) : Prop where
  R : RngC G r c
  t : LamX.Tabs T G
  m : G lm = some (.lst (M.map fun z => V.ref z.1))
  s : G ls = some (.lst (M.map fun z => V.int (z.2.2 : Int)))
  A : ∀ z ∈ M, MdA K G z.1 z.2.1
  nm : lm ≠ r ∧ lm ≠ c
  ns : ls ≠ r ∧ ls ≠ c
  nn : lm ≠ ls
theorem Fr82.same {K : PySem.W.Frag} {T : List (Addr × Str)} {r c lm ls : Addr} {M : Mm} {G G' : Hp} (h : Fr82 K T r c lm ls M G) (s : Same G G') : Fr82 K T r c lm ls M G' := ⟨h.R.same s, tabs_same s h.t, s _ _ h.m, s _ _ h.s, fun z hz => (h.A z hz).tp (Tp.same s), h.nm, h.ns, h.nn⟩
theorem Fr82.extN {K : PySem.W.Frag} {T : List (Addr × Str)} {r c lm ls : Addr} {M : Mm} {G G' : Hp} (h : Fr82 K T r c lm ls M G) (e : LamX.ExtN G G') (t : LamX.Tabs T G') : Fr82 K T r c lm ls M G' := ⟨h.R.extN e, t, e _ _ h.m (fun _ => nofun), e _ _ h.s (fun _ => nofun), fun z hz => (h.A z hz).tp (Tp.extN e), h.nm, h.ns, h.nn⟩
theorem Fr82.rng {K : PySem.W.Frag} {T : List (Addr × Str)} {r c lm ls : Addr} {M : Mm} {G G' : Hp} (h : Fr82 K T r c lm ls M G) (R : RngC G' r c) (b : But r G G') : Fr82 K T r c lm ls M G' := ⟨R, h.R.tabs b h.t, b _ _ h.nm.1 h.m, b _ _ h.ns.1 h.s, fun z hz => (h.A z hz).tp (h.R.tp b), h.nm, h.ns, h.nn⟩
/-- a list of its own changes -/
theorem Fr82.set {K : PySem.W.Frag} {T : List (Addr × Str)} {r c lm ls l : Addr} {M : Mm} {G : Hp} {xs ys : List V} (h : Fr82 K T r c lm ls M G) (hl : G l = some (.lst xs)) (n : l ≠ r ∧ l ≠ c) (n1 : lm ≠ l) (n2 : ls ≠ l) : Fr82 K T r c lm ls M (upd G l (.lst ys)) :=
  ⟨h.R.set n, tabs_set h.t hl (fun b o n e => by rw [upd_ne n]; exact e), by rw [upd_ne n1]; exact h.m, by rw [upd_ne n2]; exact h.s, fun z hz => (h.A z hz).tp (Tp.but hl But.set), h.nm, h.ns, h.nn⟩
/-- both lists grow -/
theorem Fr82.add {K : PySem.W.Frag} {T : List (Addr × Str)} {r c lm ls p : Addr} {rows : List (List Int)} {a : Nat} {M : Mm} {G : Hp} (h : Fr82 K T r c lm ls M G) (hp : MdA K G p rows) :
    Fr82 K T r c lm ls (M ++ [(p, rows, a)]) (upd (upd G lm (.lst ((M.map fun z => V.ref z.1) ++ [V.ref p]))) ls (.lst ((M.map fun z => V.int (z.2.2 : Int)) ++ [V.int (a : Int)]))) := by
  have hs1 : (upd G lm (.lst ((M.map fun z => V.ref z.1) ++ [V.ref p]))) ls = some (.lst (M.map fun z => V.int (z.2.2 : Int))) := by rw [upd_ne h.nn.symm]; exact h.s
  have tp1 : Tp G (upd G lm (.lst ((M.map fun z => V.ref z.1) ++ [V.ref p]))) := Tp.but h.m But.set
  have tp2 := Tp.but hs1 (But.set (o := .lst ((M.map fun z => V.int (z.2.2 : Int)) ++ [V.int (a : Int)])))
  have tp := tp1.trans tp2
  refine ⟨(h.R.set h.nm).set h.ns, tabs_set (tabs_set h.t h.m (fun b o n e => by rw [upd_ne n]; exact e)) hs1 (fun b o n e => by rw [upd_ne n]; exact e), ?_, ?_, fun z hz => ?_, h.nm, h.ns, h.nn⟩
  · rw [upd_ne h.nn, upd_same, List.map_append]
    rfl
  · rw [upd_same, List.map_append]
    rfl
  · rcases List.mem_append.mp hz with hz | hz
    · exact (h.A z hz).tp tp
    · rw [List.mem_singleton.mp hz]
      exact hp.tp tp
/-- the j-th of the four pairs -/
def prJ (j : Nat) : Nat × Nat := [(0, 1), (1, 2), (0, 2), (0, 0)].getD j (0, 0)
/-- what homomorphism gives of models a and b of M -/
def SM (M : Mm) (a b : Nat) : Nat × Nat → Prop := Gen (pop2 (ev (M.getD a (0, [], 0)).2.1) (ev (M.getD b (0, [], 0)).2.1)) ((M.getD a (0, [], 0)).2.2, (M.getD b (0, [], 0)).2.2)
structure Rs82 (M : Mm) (lr : Addr) (k : Nat) (G : Hp) (vs : List V) : Prop where
  l : G lr = some (.lst vs)
  n : vs.length = k
  h : ∀ j v, vs[j]? = some v → HV (SM M (prJ j).1 (prJ j).2) (fun _ => True) G v
theorem Rs82.same {M : Mm} {lr : Addr} {k : Nat} {G G' : Hp} {vs : List V} (h : Rs82 M lr k G vs) (s : LamX.ExtN G G') : Rs82 M lr k G' vs := ⟨s _ _ h.l (fun _ => nofun), h.n, fun j v e => (h.h j v e).same s⟩
theorem HV.set {S : Nat × Nat → Prop} {H : Hp} {v : V} {l : Addr} {xs ys : List V} (h : HV S (fun _ => True) H v) (hl : H l = some (.lst xs)) : HV S (fun _ => True) (upd H l (.lst ys)) v := by
  cases h with
  | conf p k x y a b => exact .conf p k x y (by rw [upd_ne (ne_of a hl (by intro z; cases z))]; exact a) b
  | map p d L a b c e f g i => exact .map p d L (by rw [upd_ne (ne_of a hl (by intro z; cases z))]; exact a) (by rw [upd_ne (ne_of b hl (by intro z; cases z))]; exact b) c e f g i
theorem HV.all {S : Nat × Nat → Prop} {N : Addr → Prop} {H : Hp} {v : V} (h : HV S N H v) : HV S (fun _ => True) H v := by
  cases h with
  | conf p k x y a b => exact .conf p k x y a b
  | map p d L a b c e f g i => exact .map p d L a b trivial e f g i
theorem Rs82.add {M : Mm} {lr : Addr} {k : Nat} {G : Hp} {vs : List V} {v : V} (h : Rs82 M lr k G vs) (hv : HV (SM M (prJ k).1 (prJ k).2) (fun _ => True) G v) : Rs82 M lr (k + 1) (upd G lr (.lst (vs ++ [v]))) (vs ++ [v]) := by
  refine ⟨upd_same, by rw [List.length_append, h.n]; rfl, fun j w e => ?_⟩
  rcases Nat.lt_or_ge j vs.length with z | z
  · rw [List.getElem?_append_left z] at e
    exact (h.h j w e).set h.l
  · rw [List.getElem?_append_right z] at e
    have e0 : j - vs.length = 0 := by
      obtain ⟨y, _⟩ := List.getElem?_eq_some_iff.mp e
      simpa using y
    rw [e0] at e
    cases e
    have ej : j = k := by have := h.n; omega
    subst ej
    exact hv.set h.l
/-- the map's entry -/
theorem map_val {L : List (Nat × Nat)} {k x : Nat} (h : L.Pairwise fun x y => x.1 < y.1) (hm : (k, x) ∈ L) : valV ((L.map cI).map kII) (Sum.inl (k : Int)) = some (V.int (x : Int)) := by
  induction L with
  | nil => cases hm
  | cons z L ih =>
    obtain ⟨h1, h2⟩ := List.pairwise_cons.mp h
    rw [List.map_cons, List.map_cons]
    rcases List.mem_cons.mp hm with e | e
    · subst e
      exact valV_pos rfl
    · rw [valV_neg fun y => ?_]
      · exact ih h2 e
      · have := h1 _ e
        have y : (z.1 : Int) = (k : Int) := Sum.inl.inj y
        omega
theorem spMd_ok {K : PySem.W.Frag} {T : List (Addr × Str)} {r c lm ls : Addr} {M : Mm} {G : Hp} (h : Fr82 K T r c lm ls M G) {a : Nat} (ha : a < M.length) (hM : ∀ z ∈ M, okM z.2.1 = true ∧ z.2.2 < z.2.1.length) :
    MdS K G (M.getD a (0, [], 0)).1 (M.getD a (0, [], 0)).2.1 ∧ okM (M.getD a (0, [], 0)).2.1 = true ∧ (M.getD a (0, [], 0)).2.2 < (M.getD a (0, [], 0)).2.1.length ∧ (M.map fun z => V.ref z.1)[a]? = some (V.ref (M.getD a (0, [], 0)).1) ∧ (M.map fun z => V.int (z.2.2 : Int))[a]? = some (V.int ((M.getD a (0, [], 0)).2.2 : Int)) := by
  have e : M[a]? = some (M.getD a (0, [], 0)) := by
    rw [List.getD_eq_getElem?_getD, List.getElem?_eq_getElem ha]
    rfl
  have hm := List.mem_of_getElem? e
  refine ⟨MdS.of (h.A _ hm) (hM _ hm).1, (hM _ hm).1, (hM _ hm).2, by rw [List.getElem?_map, e]; rfl, by rw [List.getElem?_map, e]; rfl⟩
structure Hf82 (K : PySem.W.Frag) (T : List (Addr × Str)) (r c lm ls : Addr) (M : Mm) (p : Addr) (rows : List (List Int)) (G : Hp) : Prop where
  R : RngC G r c
  t : LamX.Tabs T G
  m : G lm = some (.lst ((M.map fun z => V.ref z.1) ++ [V.ref p]))
  s : G ls = some (.lst (M.map fun z => V.int (z.2.2 : Int)))
  A : ∀ z ∈ M, MdA K G z.1 z.2.1
  P : MdA K G p rows
  nm : lm ≠ r ∧ lm ≠ c
  ns : ls ≠ r ∧ ls ≠ c
  nn : lm ≠ ls
theorem Hf82.rng {K : PySem.W.Frag} {T : List (Addr × Str)} {r c lm ls p : Addr} {rows : List (List Int)} {M : Mm} {G G' : Hp} (h : Hf82 K T r c lm ls M p rows G) (R : RngC G' r c) (b : But r G G') : Hf82 K T r c lm ls M p rows G' := ⟨R, h.R.tabs b h.t, b _ _ h.nm.1 h.m, b _ _ h.ns.1 h.s, fun z hz => (h.A z hz).tp (h.R.tp b), h.P.tp (h.R.tp b), h.nm, h.ns, h.nn⟩
theorem Fr82.half {K : PySem.W.Frag} {T : List (Addr × Str)} {r c lm ls p : Addr} {rows : List (List Int)} {M : Mm} {G : Hp} (h : Fr82 K T r c lm ls M G) (hp : MdA K G p rows) : Hf82 K T r c lm ls M p rows (upd G lm (.lst ((M.map fun z => V.ref z.1) ++ [V.ref p]))) := by
  have tp1 : Tp G (upd G lm (.lst ((M.map fun z => V.ref z.1) ++ [V.ref p]))) := Tp.but h.m But.set
  exact ⟨h.R.set h.nm, tabs_set h.t h.m (fun b o n e => by rw [upd_ne n]; exact e), upd_same, by rw [upd_ne h.nn.symm]; exact h.s, fun z hz => (h.A z hz).tp tp1, hp.tp tp1, h.nm, h.ns, h.nn⟩
theorem Hf82.fin {K : PySem.W.Frag} {T : List (Addr × Str)} {r c lm ls p : Addr} {rows : List (List Int)} {M : Mm} {G : Hp} (h : Hf82 K T r c lm ls M p rows G) (a : Nat) : Fr82 K T r c lm ls (M ++ [(p, rows, a)]) (upd G ls (.lst ((M.map fun z => V.int (z.2.2 : Int)) ++ [V.int (a : Int)]))) := by
  have tp2 := Tp.but h.s (But.set (o := .lst ((M.map fun z => V.int (z.2.2 : Int)) ++ [V.int (a : Int)])))
  refine ⟨h.R.set h.ns, tabs_set h.t h.s (fun b o n e => by rw [upd_ne n]; exact e), ?_, ?_, fun z hz => ?_, h.nm, h.ns, h.nn⟩
  · rw [upd_ne h.nn, h.m, List.map_append]
    rfl
  · rw [upd_same, List.map_append]
    rfl
  · rcases List.mem_append.mp hz with hz | hz
    · exact (h.A z hz).tp tp2
    · rw [List.mem_singleton.mp hz]
      exact h.P.tp tp2
theorem hM_add {M : Mm} {p : Addr} {rows : List (List Int)} {a : Nat} (h : ∀ z ∈ M, okM z.2.1 = true ∧ z.2.2 < z.2.1.length) (ok : okM rows = true) (ha : a < rows.length) : ∀ z ∈ M ++ [(p, rows, a)], okM z.2.1 = true ∧ z.2.2 < z.2.1.length := fun z hz => by
  rcases List.mem_append.mp hz with hz | hz
  · exact h z hz
  · rw [List.mem_singleton.mp hz]
    exact ⟨ok, ha⟩
/-- while the pairs are walked -/
structure Lp82 (K : PySem.W.Frag) (T : List (Addr × Str)) (r c lm ls lr : Addr) (M : Mm) (vt : V) (t : Tree) (k : Nat) (vs : List V) (G : Hp) : Prop where
  F : Fr82 K T r c lm ls M G
  S : Rs82 M lr k G vs
  W8 : TA K G vt t
  nr : lr ≠ r ∧ lr ≠ c
  n1 : lm ≠ lr
  n2 : ls ≠ lr
theorem Lp82.same {K : PySem.W.Frag} {T : List (Addr × Str)} {r c lm ls lr : Addr} {M : Mm} {vt : V} {t : Tree} {k : Nat} {vs : List V} {G G' : Hp} (h : Lp82 K T r c lm ls lr M vt t k vs G) (s : Same G G') : Lp82 K T r c lm ls lr M vt t k vs G' := ⟨h.F.same s, h.S.same (ExtN.same s), dp_same s _ h.W8, h.nr, h.n1, h.n2⟩
theorem Lp82.extN {K : PySem.W.Frag} {T : List (Addr × Str)} {r c lm ls lr : Addr} {M : Mm} {vt : V} {t : Tree} {k : Nat} {vs : List V} {G G' : Hp} (h : Lp82 K T r c lm ls lr M vt t k vs G) (e : LamX.ExtN G G') (tb : LamX.Tabs T G') : Lp82 K T r c lm ls lr M vt t k vs G' := ⟨h.F.extN e tb, h.S.same e, dp_tp (Tp.extN e) _ (tree_tup t) h.W8, h.nr, h.n1, h.n2⟩
theorem Lp82.add {K : PySem.W.Frag} {T : List (Addr × Str)} {r c lm ls lr : Addr} {M : Mm} {vt v : V} {t : Tree} {k : Nat} {vs : List V} {G : Hp} (h : Lp82 K T r c lm ls lr M vt t k vs G) (hv : HV (SM M (prJ k).1 (prJ k).2) (fun _ => True) G v) : Lp82 K T r c lm ls lr M vt t (k + 1) (vs ++ [v]) (upd G lr (.lst (vs ++ [v]))) :=
  ⟨h.F.set h.S.l h.nr h.n1 h.n2, h.S.add hv, dp_tp (Tp.but h.S.l But.set) _ (tree_tup t) h.W8, h.nr, h.n1, h.n2⟩
structure Tq82 (lp t1 t2 t3 t4 : Addr) (G : Hp) : Prop where
  l : G lp = some (.lst [.ref t1, .ref t2, .ref t3, .ref t4])
  a : G t1 = some (.tup [.int 0, .int 1])
  b : G t2 = some (.tup [.int 1, .int 2])
  c : G t3 = some (.tup [.int 0, .int 2])
  d : G t4 = some (.tup [.int 0, .int 0])
theorem Tq82.extN {lp t1 t2 t3 t4 : Addr} {G G' : Hp} (h : Tq82 lp t1 t2 t3 t4 G) (e : LamX.ExtN G G') : Tq82 lp t1 t2 t3 t4 G' := ⟨e _ _ h.l (fun _ => nofun), e _ _ h.a (fun _ => nofun), e _ _ h.b (fun _ => nofun), e _ _ h.c (fun _ => nofun), e _ _ h.d (fun _ => nofun)⟩
theorem Tq82.set {lp t1 t2 t3 t4 l : Addr} {G : Hp} {xs ys : List V} (h : Tq82 lp t1 t2 t3 t4 G) (hl : G l = some (.lst xs)) (n : lp ≠ l) : Tq82 lp t1 t2 t3 t4 (upd G l (.lst ys)) := by
  have k : ∀ {b : Addr} {ts : List V}, G b = some (.tup ts) → (upd G l (.lst ys)) b = some (.tup ts) := fun {b ts} e => by
    rw [upd_ne (ne_of e hl (by intro z; cases z))]
    exact e
  exact ⟨by rw [upd_ne n]; exact h.l, k h.a, k h.b, k h.c, k h.d⟩
theorem Tq82.at_ {lp t1 t2 t3 t4 : Addr} {G : Hp} (h : Tq82 lp t1 t2 t3 t4 G) {k : Nat} {x : V} (e : [V.ref t1, .ref t2, .ref t3, .ref t4][k]? = some x) : ∃ tt, x = .ref tt ∧ G tt = some (.tup [.int ((prJ k).1 : Int), .int ((prJ k).2 : Int)]) ∧ (prJ k).1 < 3 ∧ (prJ k).2 < 3 := by
  match k, e with
  | 0, e => cases e; exact ⟨_, rfl, h.a, by decide, by decide⟩
  | 1, e => cases e; exact ⟨_, rfl, h.b, by decide, by decide⟩
  | 2, e => cases e; exact ⟨_, rfl, h.c, by decide, by decide⟩
  | 3, e => cases e; exact ⟨_, rfl, h.d, by decide, by decide⟩
  | k + 4, e => cases e
theorem neMap {s : String} : decide (V.str (s : Str) = V.str ("map" : Str)) = decide ((s : Str) = ("map" : Str)) := by
  by_cases e : (s : Str) = ("map" : Str)
  · rw [e, decide_eq_true rfl, decide_eq_true rfl]
  · rw [decide_eq_false e, decide_eq_false fun z => e (V.str.inj z)]
def fval (L : List (Nat × Nat)) (x : Nat) : Nat := ((L.find? fun w => w.1 == x).getD (0, 0)).2
theorem fval_mem {L : List (Nat × Nat)} {x y : Nat} (h : (x, y) ∈ L) : (x, fval L x) ∈ L := by
  unfold fval
  cases e : L.find? fun w => w.1 == x with
  | none =>
    rw [List.find?_eq_none] at e
    exact absurd (by simp) (e _ h)
  | some w =>
    have h1 := List.mem_of_find?_eq_some e
    have h2 : w.1 = x := by simpa using List.find?_some e
    show (x, w.2) ∈ L
    rw [← h2]
    exact h1
theorem along_of {r0 r1 r2 : List (List Int)} {s0 s1 s2 : Nat} {L0 L1 : List (Nat × Nat)} (m0 : ∀ z, z ∈ L0 ↔ Gen (pop2 (ev r0) (ev r1)) (s0, s1) z) (m1 : ∀ z, z ∈ L1 ↔ Gen (pop2 (ev r1) (ev r2)) (s1, s2) z)
    (f0 : Fnl (Gen (pop2 (ev r0) (ev r1)) (s0, s1))) (f1 : Fnl (Gen (pop2 (ev r1) (ev r2)) (s1, s2))) :
    (∀ z ∈ L0, (z.2, fval L1 z.2) ∈ L1) ∧ ∀ w, w ∈ L0.map (fun z => (z.1, fval L1 z.2)) ↔ Gen (pop2 (ev r0) (ev r2)) (s0, s2) w := by
  have h1 : ∀ z ∈ L0, (z.2, fval L1 z.2) ∈ L1 := fun z hz => by
    obtain ⟨u, e⟩ := mv_gen2 ((m0 z).mp hz)
    have := (m1 _).mpr (gen_mv (r1 := r1) (r2 := r2) (s := s1) (t := s2) u)
    have e2 : u.mv r1 s1 = z.2 := by rw [e]
    rw [e2] at this
    exact fval_mem this
  refine ⟨h1, fun w => ?_⟩
  rw [List.mem_map]
  constructor
  · rintro ⟨z, hz, rfl⟩
    obtain ⟨u, e⟩ := mv_gen2 ((m0 z).mp hz)
    have a1 := (m1 _).mp (h1 z hz)
    have a2 := gen_mv (r1 := r1) (r2 := r2) (s := s1) (t := s2) u
    have e1 : z.1 = u.mv r0 s0 := by rw [e]
    have e2 : z.2 = u.mv r1 s1 := by rw [e]
    rw [e2] at a1
    have e3 := f1 _ _ _ a1 a2
    rw [e1, e2, e3]
    exact gen_mv u
  · intro hw
    obtain ⟨u, rfl⟩ := mv_gen2 hw
    have a0 := (m0 _).mpr (gen_mv (r1 := r0) (r2 := r1) (s := s0) (t := s1) u)
    refine ⟨_, a0, ?_⟩
    have a1 := (m1 _).mp (h1 _ a0)
    have a2 := gen_mv (r1 := r1) (r2 := r2) (s := s1) (t := s2) u
    exact Prod.ext rfl (f1 _ _ _ a1 a2)
section
variable {P : Program} {w : World} {K : PySem.W.Frag} {mg : Str → Option Value} {base : Heap} {f : Addr} {fd : FuncData}

abbrev s_is_pair : Stmt := top 10
theorem sc_is_pair : FnScope ["part"] ["part"] (defScope s_is_pair) := ⟨rfl, rfl, rfl, by decide +kernel, rfl, by decide +kernel, by decide +kernel⟩
theorem ok_is_pair (d : D K mg "is_pair" s_is_pair ["part"] f fd) (B : Blt mg) : FnOk P w K mg base CX0 1 f fd ["part"] (spIsPairD K) := by
  refine d.F.ok sc_is_pair (fun vs H Q E h => ?_) (fun cdv A outer s H vs Q E hr h => ?_)
  · obtain ⟨_, _, rfl, _⟩ := h
    rfl
  obtain ⟨v, d, rfl, ha, q⟩ := h
  refine ⟨_, (pss_one (ps_ret (pe_and (pe_callB call_isi (by rfl) B.isinstance (by decide +kernel) (pa_cons (pv 0) (pa_cons (pe_bltn (v := .ty "tuple") (by rfl) B.tuple (by decide +kernel) rfl) pa_nil))) (pe_one (pe_cmpR op_eq (pe_callB call_len_seq (by rfl) B.len PySem.boot_len (pa_cons (pv 0) pa_nil)) pe_int (nomark _)))))), ?_⟩
  obtain ⟨a, xs, ds, rfl, rfl, hS, hA⟩ := ha.inv
  have hx : decide (V.int ((xs.length : Nat) : Int) = V.int 2) = isPr (.tuple ds) := by
    rw [dpAll_len hA]
    match ds with
    | [] => rfl
    | [_] => rfl
    | [_, _] => rfl
    | _ :: _ :: _ :: r =>
      show decide (V.int (((r.length + 1 + 1 + 1 : Nat)) : Int) = V.int 2) = false
      refine decide_eq_false fun z => ?_
      have z : ((r.length + 1 + 1 + 1 : Nat) : Int) = 2 := V.int.inj z
      omega
  refine ⟨_, rfl, _, _, _, _, true, rfl, .ty "tuple", tyx_tup hS, kit_ty (by decide +kernel), true, rfl, iteT ⟨_, rfl, a, _, rfl, .inr hS, rfl, ?_⟩⟩
  show Q (.bl (decide (V.int ((xs.length : Nat) : Int) = V.int 2))) H
  rw [hx]
  exact q

abbrev s_is_term : Stmt := top 9
theorem sc_is_term : FnScope ["term", "waiting", "size", "part", "depth"] ["term"] (defScope s_is_term) := ⟨rfl, rfl, rfl, by decide +kernel, rfl, by decide +kernel, by decide +kernel⟩
theorem ok_is_term {fp : Addr} {fpd : FuncData} (d : D K mg "is_term" s_is_term ["term"] f fd) (B : Blt mg) (C : Cst mg) (d_is_pair : D K mg "is_pair" s_is_pair ["part"] fp fpd) : FnOk P w K mg base CX0 2 f fd ["term"] (spIsTerm K) := by
  have G_is_pair : FnOk P w K mg base CX0 1 fp fpd ["part"] (spIsPairD K) := ok_is_pair d_is_pair B
  obtain ⟨⟨t1, C_MAX_SIZE⟩, ⟨t2, C_MAX_DEPTH⟩⟩ := C
  refine d.F.ok sc_is_term (fun vs H Q E h => ?_) (fun cdv A outer s H vs Q E hr h => ?_)
  · obtain ⟨_, _, rfl, _⟩ := h
    rfl
  obtain ⟨v, dd, rfl, ha, hz, q⟩ := h
  refine ⟨_, (pss_cons (ps_set (i := 1) sc_is_term.nd rfl (Or.inl rfl) (pe_lst (pa_cons (pe_tup (pa_cons (pv 0) (pa_cons pe_int pa_nil))) pa_nil)))
 (pss_cons (ps_set (i := 2) sc_is_term.nd rfl (Or.inl rfl) pe_int)
 (pss_cons (ps_while PassesOwn.never (pt_truth (pv 1) (by intro _; rfl)) (pss_cons (ps_asg (pe_bm0 PySem.F.plainAttrs_list PySem.F.slot_list_pop PySem.F.type_list_pop mt_pop (pv 1)) (pg_tup (by rfl) (pgs_cons (pg_name (i := 3) sc_is_term.nd rfl (Or.inl rfl)) (pgs_cons (pg_name (i := 4) sc_is_term.nd rfl (Or.inl rfl)) pgs_nil))))
 (pss_cons (ps_if (pt_cmpR (op_eqD hr.units) (pv 3) (pe_tup pa_nil) (nomark _)) (pss_one (ps_aug (i := 2) sc_is_term.nd rfl (Or.inl rfl) pe_int ip_add)) (pss_one (ps_if (PW.pt (pw_and (pt_val (pe_call G_is_pair (hr.mono (by decide)) rfl d_is_pair.m d_is_pair.F.kp d_is_pair.b .nil pass0 (pa_cons (pv 3) pa_nil))) (pw_and1 (pt_cmpR op_lt (pv 4) (pe_glob (v := .int 6) rfl C_MAX_DEPTH ⟨_, rfl⟩) (nomark _))))) (pss_cons (ps_expr (pe_bm PySem.F.plainAttrs_list PySem.F.slot_list_append PySem.F.type_list_append mt_append (pv 1) (pa_cons (pe_tup (pa_cons (pe_ix ix_tup (pv 3) pe_int (fun _ _ => rfl)) (pa_cons (pe_op op_add (pv 4) pe_int) pa_nil))) pa_nil)))
 (pss_one (ps_expr (pe_bm PySem.F.plainAttrs_list PySem.F.slot_list_append PySem.F.type_list_append mt_append (pv 1) (pa_cons (pe_tup (pa_cons (pe_ix ix_tup (pv 3) pe_int (fun _ _ => rfl)) (pa_cons (pe_op op_add (pv 4) pe_int) pa_nil))) pa_nil))))) (pss_one (ps_ret pe_bl)))))
 (pss_one (ps_if (pt_cmpR op_gt (pv 2) (pe_glob (v := .int 12) rfl C_MAX_SIZE ⟨_, rfl⟩) (nomark _)) (pss_one (ps_ret pe_bl)) pss_nil)))))
 (pss_one (ps_ret pe_bl))))), ?_⟩
  refine ⟨_, rfl, two_le, fun p hp => ⟨one_le, fun w hw => ?_⟩⟩
  have s1 := Same.new hp (.tup [v, .int 0])
  have s2 := s1.trans (Same.new hw (.lst [.ref p]))
  have hw0 : H w = none := s1.free hw
  refine ⟨fun m σ H' => ∃ (ps : List (V × PyData × Nat)) (n : Nat) (x y : Option V), σ = [some v, some (.ref w), some (.int (n : Int)), x, y] ∧ Same H H' ∧ H' w = some (.lst (ps.map (·.1))) ∧ (∀ p ∈ ps, ItemD K H' p) ∧ n ≤ 12 ∧ okd dd = fnl n (rem ps) ∧ ndn ps ≤ 1000 ∧ m = ndn ps,
    ⟨_, [(.ref p, dd, 0)], 0, none, none, rfl, s2, upd_same, ?_, by decide, okd_fnl _ _, ?_, rfl⟩, ?_⟩
  · intro z hz'
    cases List.mem_singleton.mp hz'
    exact ⟨p, v, rfl, (Tp.same (Same.new hw _)).sqT (SqT.here upd_same), ha.tp (Tp.same s2), by show 0 ≤ 6; omega⟩
  · show ndD dd + 0 ≤ 1000
    omega
  · rintro m σ H' ⟨ps, n, x, y, rfl, sm, hl, hI, hn, hs, hb, rfl⟩
    rcases List.eq_nil_or_concat ps with rfl | ⟨qs, z, rfl⟩
    · refine ⟨_, rfl, _, .inl ⟨_, SqL.here hl, rfl⟩, iteF ?_⟩
      have e : okd dd = true := by
        rw [hs]
        exact decide_eq_true (by omega)
      have q' := q H' sm
      rw [e] at q'
      exact q'
    · rw [List.concat_eq_append] at *
      rw [List.map_append] at hl
      refine ⟨_, rfl, true, .inl ⟨_, SqL.here hl, ?_⟩, iteT ?_⟩
      · cases qs <;> rfl
      have hIz := hI z (by simp)
      have hIq : ∀ p ∈ qs, ItemD K H' p := fun p hp => hI p (by simp [hp])
      obtain ⟨zv, zt, zd⟩ := z
      obtain ⟨a, u, ez, h2, h3, h4⟩ := hIz
      have ez' : zv = .ref a := ez
      subst ez'
      have h4 : zd ≤ 6 := h4
      have h3 : NT K H' u zt := h3
      have h2 : SqT K H' a [u, .int (zd : Int)] := h2
      have hs : okd dd = fnl n (add2 (rem qs) (szD (6 - zd) zt)) := by
        rw [rem_snoc] at hs
        exact hs
      have en : ndn (qs ++ [(V.ref a, zt, zd)]) = ndn qs + ndD zt := ndn_snoc _ _
      have hsz := ndn_len qs
      refine ⟨fun σ' H' => ∃ (ps : List (V × PyData × Nat)) (n : Nat) (x y : Option V), σ' = [some v, some (.ref w), some (.int (n : Int)), x, y] ∧ Same H H' ∧ H' w = some (.lst (ps.map (·.1))) ∧ (∀ p ∈ ps, ItemD K H' p) ∧ n ≤ 12 ∧ okd dd = fnl n (rem ps) ∧ ndn ps < ndn (qs ++ [(V.ref a, zt, zd)]), ?_, ?_⟩
      · rintro σ' H'' ⟨ps, n, x, y, e1, e2, e3, e4, e5, e6, e7⟩
        exact ⟨_, e7, ps, n, x, y, e1, e2, e3, e4, e5, e6, by omega, rfl⟩
      have tp1 : Tp H' (upd H' w (.lst (qs.map (·.1)))) := Tp.but hl But.set
      refine ⟨_, rfl, .inl ⟨rfl, _, SqL.here hl⟩, w, _, .ref a, rfl, rfl, hl, ?_, a, [u, .int zd], rfl, ?_, rfl, _, _, rfl, _, _, rfl, rfl, ?_⟩
      · simp
      · rw [List.dropLast_append_of_ne_nil (by simp)]
        simp only [List.map_cons, List.map_nil, List.dropLast_singleton, List.append_nil]
        exact tp1.sqT h2
      rw [List.dropLast_append_of_ne_nil (by simp)]
      simp only [List.map_cons, List.map_nil, List.dropLast_singleton, List.append_nil]
      have sm1 : Same H (upd H' w (.lst (qs.map (·.1)))) := fun b o e => by
        rw [upd_ne (ne_of_none e hw0)]
        exact sm _ _ e
      refine ⟨_, rfl, zero_le', fun p5 hp5 => ⟨zt, .tuple [], ((h3.tp tp1).tp (Tp.same (Same.new hp5 _))).dp, Dp.tup (SqT.here upd_same) .nil, h3.shp, shapedE, _, rfl, ?_⟩⟩
      refine ite_eq (eqvE h3.tup) ?_
      have tp2 : Tp (upd H' w (.lst (qs.map (·.1)))) (upd (upd H' w (.lst (qs.map (·.1)))) p5 (.tup [])) := Tp.same (Same.new hp5 _)
      have sm2 : Same H (upd (upd H' w (.lst (qs.map (·.1)))) p5 (.tup [])) := sm1.trans (Same.new hp5 _)
      have nw5 : w ≠ p5 := fun e => by
        rw [← e, upd_same] at hp5
        cases hp5
      have hl2 : (upd (upd H' w (.lst (qs.map (·.1)))) p5 (.tup [])) w = some (.lst (qs.map (·.1))) := by rw [upd_ne nw5, upd_same]
      have h3' := (h3.tp tp1).tp tp2
      generalize (upd (upd H' w (.lst (qs.map (·.1)))) p5 (.tup [])) = H2 at *
      cases eE : isE zt with
      | true =>
        have ezt : zt = .tuple [] := by
          obtain ⟨_, _, ds, _, rfl, _, _⟩ := h3.inv
          cases ds with
          | nil => rfl
          | cons _ _ => exact absurd eE (by simp [isE])
        subst ezt
        rw [szD_E, fnl_one] at hs
        refine iteT ⟨_, rfl, _, _, rfl, rfl, _, rfl, _, _, rfl, rfl, _, rfl, ?_⟩
        refine ite2 (fun c => ?_) (fun c => ?_)
        · have c : (n : Int) + 1 > 12 := of_decide_eq_true c
          have q' := q H2 sm2
          rw [hs, fnl_big (by omega)] at q'
          exact q'
        · have c : ¬ (n : Int) + 1 > 12 := fun z => c (decide_eq_true z)
          refine ⟨qs, n + 1, _, _, rfl, sm2, hl2, fun p hp => (hIq p hp).mono (tp1.trans tp2), by omega, hs, ?_⟩
          rw [en]
          exact Nat.lt_succ_self _
      | false =>
        refine iteF ⟨_, rfl, _, _, rfl, h3', _, rfl, ?_⟩
        cases eP : isPr zt with
        | false =>
          refine iteF ?_
          have q' := q H2 sm2
          rw [hs, szD_bad eE (.inl eP), add2_none] at q'
          exact q'
        | true =>
          refine iteT ⟨_, rfl, _, _, rfl, rfl, _, rfl, ?_⟩
          refine ite2 (fun c => ?_) (fun c => ?_)
          rotate_left
          · have c : ¬ (zd : Int) < 6 := fun z => c (decide_eq_true z)
            have q' := q H2 sm2
            rw [hs, szD_bad eE (.inr (by omega)), add2_none] at q'
            exact q'
          have c : (zd : Int) < 6 := of_decide_eq_true c
          obtain ⟨b, x1, x2, d1, d2, rfl, rfl, hS, hL, hR⟩ := h3'.pr eP
          rw [show 6 - zd = (6 - (zd + 1)) + 1 by omega, szD_pr, ← add2_assoc] at hs
          have en2 : ndD (.tuple [d1, d2]) = ndD d1 + (ndD d2 + 0) + 1 := rfl
          refine ⟨_, rfl, .inl ⟨rfl, _, SqL.here hl2⟩, _, rfl, b, _, 0, _, rfl, rfl, hS, rfl, _, rfl, _, _, rfl, rfl, two_le, fun p6 hp6 => ?_⟩
          have tp3 : Tp H2 (upd H2 p6 (.tup [x1, .int ((zd : Int) + 1)])) := Tp.same (Same.new hp6 _)
          have nw6 : w ≠ p6 := ne_of_none hl2 hp6
          refine ⟨w, _, _, rfl, rfl, (by rw [upd_ne nw6]; exact hl2), (by rw [List.length_map]; exact small1000 (by omega)), ?_⟩
          have hl3 : (upd (upd H2 p6 (.tup [x1, .int ((zd : Int) + 1)])) w (.lst (qs.map (·.1) ++ [.ref p6]))) w = some (.lst (qs.map (·.1) ++ [.ref p6])) := upd_same
          have tp4 : Tp (upd H2 p6 (.tup [x1, .int ((zd : Int) + 1)])) (upd (upd H2 p6 (.tup [x1, .int ((zd : Int) + 1)])) w (.lst (qs.map (·.1) ++ [.ref p6]))) := Tp.but (by rw [upd_ne nw6]; exact hl2) But.set
          have sm4 : Same H (upd (upd H2 p6 (.tup [x1, .int ((zd : Int) + 1)])) w (.lst (qs.map (·.1) ++ [.ref p6]))) := fun b o e => by
            rw [upd_ne (ne_of_none e hw0)]
            exact (sm2.trans (Same.new hp6 _)) _ _ e
          have h6 : SqT K (upd (upd H2 p6 (.tup [x1, .int ((zd : Int) + 1)])) w (.lst (qs.map (·.1) ++ [.ref p6]))) p6 [x1, .int ((zd : Int) + 1)] := tp4.sqT (SqT.here upd_same)
          have tp24 : Tp H2 _ := tp3.trans tp4
          generalize (upd (upd H2 p6 (.tup [x1, .int ((zd : Int) + 1)])) w (.lst (qs.map (·.1) ++ [.ref p6]))) = H4 at *
          refine ⟨_, rfl, .inl ⟨rfl, _, SqL.here hl3⟩, _, rfl, b, _, 1, _, rfl, rfl, tp24.sqT hS, rfl, _, rfl, _, _, rfl, rfl, two_le, fun p7 hp7 => ?_⟩
          have tp5 : Tp H4 (upd H4 p7 (.tup [x2, .int ((zd : Int) + 1)])) := Tp.same (Same.new hp7 _)
          have nw7 : w ≠ p7 := ne_of_none hl3 hp7
          refine ⟨w, _, _, rfl, rfl, (by rw [upd_ne nw7]; exact hl3), (by rw [List.length_append, List.length_map, List.length_singleton]; exact small1000 (by omega)), ?_⟩
          have tp6 : Tp (upd H4 p7 (.tup [x2, .int ((zd : Int) + 1)])) (upd (upd H4 p7 (.tup [x2, .int ((zd : Int) + 1)])) w (.lst ((qs.map (·.1) ++ [.ref p6]) ++ [.ref p7]))) := Tp.but (by rw [upd_ne nw7]; exact hl3) But.set
          refine ⟨_, rfl, _, _, rfl, rfl, _, rfl, ?_⟩
          refine ite_no (decide_eq_false (by omega)) ?_
          refine ⟨qs ++ [(.ref p6, d1, zd + 1)] ++ [(.ref p7, d2, zd + 1)], n, _, _, rfl, fun b o e => ?_, ?_, ?_, hn, ?_, ?_⟩
          · rw [upd_ne (ne_of_none e hw0)]
            exact (sm4.trans (Same.new hp7 _)) _ _ e
          · rw [upd_same, List.map_append, List.map_append]
            rfl
          · intro z hz'
            rcases List.mem_append.mp hz' with hz' | hz'
            · rcases List.mem_append.mp hz' with hz' | hz'
              · exact (hIq z hz').mono (((tp1.trans tp2).trans tp24).trans (tp5.trans tp6))
              · cases List.mem_singleton.mp hz'
                exact ⟨p6, x1, rfl, (tp5.trans tp6).sqT h6, (hL.tp tp24).tp (tp5.trans tp6), by show zd + 1 ≤ 6; omega⟩
            · cases List.mem_singleton.mp hz'
              exact ⟨p7, x2, rfl, tp6.sqT (SqT.here upd_same), (hR.tp tp24).tp (tp5.trans tp6), by show zd + 1 ≤ 6; omega⟩
          · rw [rem_snoc, rem_snoc]
            exact hs
          · rw [ndn_snoc, ndn_snoc, en, en2]
            show ndn qs + ndD d1 + ndD d2 < ndn qs + (ndD d1 + (ndD d2 + 0) + 1)
            omega

abbrev s_check_term : Stmt := top 11
theorem sc_check_term : FnScope ["term"] ["term"] (defScope s_check_term) := ⟨rfl, rfl, rfl, by decide +kernel, rfl, by decide +kernel, by decide +kernel⟩
theorem ok_check_term {fp fi C0 : Addr} {fpd fid : FuncData} (d : D K mg "check_term" s_check_term ["term"] f fd) (B : Blt mg) (C : Cst mg) (EC : ErrC K mg "InvalidTerm" C0) (d_is_pair : D K mg "is_pair" s_is_pair ["part"] fp fpd) (d_is_term : D K mg "is_term" s_is_term ["term"] fi fid) : FnOk P w K mg base (L2N.CX P w) 3 f fd ["term"] (spChk K C0) := by
  have G_is_term : FnOk P w K mg base CX0 2 fi fid ["term"] (spIsTerm K) := ok_is_term d_is_term B C d_is_pair
  refine Fun.okN d.F sc_check_term (fun vs H Q E h => ?_) (fun cdv A outer s H vs Q E hr h => ?_)
  · obtain ⟨_, _, rfl, _⟩ := h
    rfl
  obtain ⟨v, dd, rfl, ha, hz, h1, h2⟩ := h
  refine ⟨_, (pss_one (ps_if (pt_not (pt_val (pe_call G_is_term (hr.mono (by decide)) rfl d_is_term.m d_is_term.F.kp d_is_term.b .nil pass0 (pa_cons (pv 0) pa_nil)))) (pss_one (L2N.ps_raise rfl (L2N.takes_of rfl rfl rfl rfl) (L2N.pmk_own PySem.F.excBase_ValueError EC.q EC.g EC.k (raises_own EC.b EC.t) (by exact rfl)))) pss_nil)), ?_⟩
  refine ⟨_, rfl, v, dd, rfl, ha, hz, fun H' sm => ⟨_, rfl, ?_⟩⟩
  cases e : okd dd with
  | true => exact iteF (h1 e H' sm)
  | false => exact iteT (h2 e H' sm)

abbrev s_is_row : Stmt := top 15
theorem sc_is_row : FnScope ["row", "many", "value"] ["row", "many"] (defScope s_is_row) := ⟨rfl, rfl, rfl, by decide +kernel, rfl, by decide +kernel, by decide +kernel⟩
theorem ok_is_row (d : D K mg "is_row" s_is_row ["row", "many"] f fd) (B : Blt mg) : FnOk P w K mg base CX0 1 f fd ["row", "many"] (spRow K) := by
  refine d.F.ok sc_is_row (fun vs H Q E h => ?_) (fun cdv A outer s H vs Q E hr h => ?_)
  · obtain ⟨_, _, _, rfl, _⟩ := h
    rfl
  obtain ⟨p, r, n, rfl, hS, hl, hn, q⟩ := h
  refine ⟨_, (pss_one (ps_ret (pe_and (pe_cmpR op_eq (pe_callB call_len_seq (by rfl) B.len PySem.boot_len (pa_cons (pv 0) pa_nil)) (pv 1) (nomark _)) (pe_one (pe_callB (cr_all rfl) (by rfl) B.all (by decide +kernel) (pa_cons (pe_lc (own := [("value", 2)]) (g := gName 2) (tt := tYes) (by rfl) sc_is_row.nd (pi_tup (pv 0)) (blkOk_by (own := [("value", 2)]) (N := ["row", "many", "value"]) (sc := defScope s_is_row) (by decide +kernel)) (fun _ _ _ _ _ => (pg_name (i := 2) sc_is_row.nd rfl (Or.inl rfl))) (fun _ _ _ _ _ => pts_nil) (fun _ _ _ _ _ => (pe_chain op_le op_lt pe_int (pv 2) (pv 1)))) pa_nil)))))), ?_⟩
  have eE : decide (V.int ((r.map V.int).length : Int) = V.int (n : Int)) = decide (r.length = n) := by
    rw [List.length_map]
    by_cases c : r.length = n
    · rw [decide_eq_true c, c, decide_eq_true rfl]
    · rw [decide_eq_false c, decide_eq_false fun z => by injection z with z; omega]
  refine ⟨_, rfl, p, _, rfl, .inr hS, _, rfl, rfl, _, rfl, ?_⟩
  rw [eE]
  by_cases c : r.length = n
  · rw [decide_eq_true c]
    refine iteT ⟨_, rfl, p, rfl, ⟨_, hS⟩, fun D hD => ?_⟩
    refine lc_mapT (ψ := fun v => .bl (okV n (vInt v))) hD hS (by rw [List.length_map]; omega) (fun x G R hx sm k => ?_) (fun G sm hg => ?_)
    · obtain ⟨v, _, rfl⟩ := mem_int hx
      have k := k G (Same.refl _)
      refine ⟨rfl, _, rfl, _, _, rfl, rfl, _, rfl, ?_⟩
      refine ite2 (fun c1 => ?_) (fun c1 => ?_)
      · refine ⟨_, rfl, _, _, rfl, rfl, ?_⟩
        have e : okV n (vInt (V.int v)) = decide (v < (n : Int)) := by
          show (decide (0 ≤ v) && decide (v < (n : Int))) = _
          rw [show decide (0 ≤ v) = true from c1, Bool.true_and]
        rw [e] at k
        exact k
      · have e : okV n (vInt (V.int v)) = false := by
          show (decide (0 ≤ v) && decide (v < (n : Int))) = false
          rw [show decide (0 ≤ v) = false by cases h : decide (0 ≤ v) with | false => rfl | true => exact absurd h c1, Bool.false_and]
        rw [e] at k
        exact k
    · rw [map_int (ψ := fun v => V.bl (okV n v))] at hg
      refine ⟨D, r.map (okV n), rfl, SqL.here (by rw [hg, List.map_map]; rfl), ?_⟩
      rw [List.all_map]
      have z := q G sm
      unfold okR at z
      rw [decide_eq_true c, Bool.true_and] at z
      exact z
  · rw [decide_eq_false c]
    have z := q H (Same.refl _)
    unfold okR at z
    rw [decide_eq_false c, Bool.false_and] at z
    exact iteF z

abbrev s_check_model : Stmt := top 14
theorem sc_check_model : FnScope ["model", "many", "row"] ["model"] (defScope s_check_model) := ⟨rfl, rfl, rfl, by decide +kernel, rfl, by decide +kernel, by decide +kernel⟩
theorem ok_check_model {f1 C0 : Addr} {e1 : FuncData} {tk : Tok} (d : D K mg "check_model" s_check_model ["model"] f fd) (B : Blt mg) (EC : ErrC K mg "InvalidModel" C0) (C_MAX_ROWS : mg "MAX_ROWS" = some (.int 12 tk)) (d_is_row : D K mg "is_row" s_is_row ["row", "many"] f1 e1) : FnOk P w K mg base (L2N.CX P w) 2 f fd ["model"] (spMd K C0) := by
  have G_is_row : FnOk P w K mg base CX0 1 f1 e1 ["row", "many"] (spRow K) := ok_is_row d_is_row B
  refine Fun.okN d.F sc_check_model (fun vs H Q E h => ?_) (fun cdv A outer s H vs Q E hr h => ?_)
  · obtain ⟨_, _, rfl, _⟩ := h
    rfl
  obtain ⟨p, rows, rfl, hM, hl, hrl, q, qe⟩ := h
  obtain ⟨qs, hS, hq, hR⟩ := id hM
  refine ⟨_, (pss_cons (ps_set (i := 1) sc_check_model.nd rfl (Or.inr rfl) (pe_callB call_len_seq (by rfl) B.len PySem.boot_len (pa_cons (pv 0) pa_nil)))
 (pss_one (ps_if (PW.pt (pw_or (pt_not (pt_chain op_le op_le pe_int (pv 1) (pe_glob (v := .int 12) rfl C_MAX_ROWS ⟨_, rfl⟩))) (pw_or1 (pt_not (pt_val (pe_callB (cr_all rfl) (by rfl) B.all (by decide +kernel) (pa_cons (pe_lc (own := [("row", 2)]) (g := gName 2) (tt := tYes) (by rfl) sc_check_model.nd (pi_tup (pv 0)) (blkOk_by (own := [("row", 2)]) (N := ["model", "many", "row"]) (sc := defScope s_check_model) (by decide +kernel)) (fun _ _ _ _ _ => (pg_name (i := 2) sc_check_model.nd rfl (Or.inl rfl))) (fun _ _ _ _ _ => pts_nil) (fun _ _ _ _ _ => (pe_call G_is_row (hr.mono (by decide)) rfl d_is_row.m d_is_row.F.kp d_is_row.b .nil pass0 (pa_cons (pv 2) (pa_cons (pv 1) pa_nil))))) pa_nil))))))) (pss_one (L2N.ps_raise rfl (L2N.takes_of rfl rfl rfl rfl) (L2N.pmk_own PySem.F.excBase_ValueError EC.q EC.g EC.k (raises_own EC.b EC.t) (by exact rfl)))) pss_nil))), ?_⟩
  refine ⟨_, rfl, p, _, rfl, .inr hS, ?_⟩
  rw [List.length_map, hq]
  refine ⟨_, rfl, _, _, rfl, rfl, _, rfl, ?_⟩
  refine ite2 (fun c1 => ?_) (fun c1 => ?_)
  · have c1 : 1 ≤ rows.length := by
      have : (1 : Int) ≤ ((rows.length : Nat) : Int) := of_decide_eq_true c1
      omega
    refine ⟨_, _, rfl, rfl, _, rfl, ?_⟩
    refine ite2 (fun c2 => ?_) (fun c2 => ?_)
    · refine qe ?_ _ (Same.refl _)
      have : ¬ ((rows.length : Nat) : Int) ≤ 12 := not_decB c2
      unfold okM
      rw [decide_eq_false (show ¬ rows.length ≤ 12 by omega), Bool.false_and, Bool.and_false]
    · have c2 : rows.length ≤ 12 := by
        have : ((rows.length : Nat) : Int) ≤ 12 := yes_decB c2
        omega
      have eM : okM rows = rows.all (okR rows.length) := by
        unfold okM
        rw [decide_eq_true c1, decide_eq_true c2, Bool.true_and, Bool.true_and]
      refine ⟨_, rfl, p, rfl, ⟨_, hS⟩, fun D hD => ?_⟩
      refine lc_tup (K := K) (a := p) (xs := qs.map V.ref) (tt := tYes) (fun i G => Same H G ∧ G D = some (.lst (((rows.take i).map (okR rows.length)).map V.bl))) ⟨Same.new hD _, upd_same⟩ (fun i G _ z => (Tp.same z.1).sqT hS) ?_ ?_
      · rintro i x G hi ⟨sG, lG⟩
        rw [List.getElem?_map] at hi
        obtain ⟨qa, hqa⟩ : ∃ qa, qs[i]? = some qa := by
          cases h : qs[i]? with
          | none => rw [h] at hi; cases hi
          | some qa => exact ⟨qa, rfl⟩
        rw [hqa] at hi
        cases hi
        obtain ⟨hlt, _⟩ := List.getElem?_eq_some_iff.mp hqa
        obtain ⟨r, hr'⟩ : ∃ r, rows[i]? = some r := ⟨_, List.getElem?_eq_getElem (by omega)⟩
        refine ⟨rfl, _, rfl, _, rfl, qa, r, rows.length, rfl, (Tp.same sG).sqT (hR i qa r hqa hr'), hrl r (List.mem_of_getElem? hr'), hl, fun G2 s2 => ?_⟩
        refine ⟨_, s2 _ _ lG, by rw [List.length_map, List.length_map, List.length_take]; exact small1000 (by omega), fun b o z => ?_, ?_⟩
        · rw [upd_ne (ne_of_none z hD)]
          exact s2 _ _ (sG _ _ z)
        · rw [upd_same, List.take_add_one, hr', List.map_append, List.map_append]
          rfl
      · rintro G ⟨sG, lG⟩
        rw [List.length_map, hq, List.take_of_length_le (Nat.le_refl _)] at lG
        refine ⟨D, rows.map (okR rows.length), rfl, SqL.here lG, ?_⟩
        rw [List.all_map, show (id ∘ okR rows.length) = okR rows.length from rfl, ← eM]
        cases h : okM rows with
        | true => exact ⟨_, rfl, iteF (q h G sG)⟩
        | false => exact ⟨_, rfl, iteT (qe h G sG)⟩
  · refine ⟨_, rfl, qe ?_ _ (Same.refl _)⟩
    have : ¬ (1 : Int) ≤ ((rows.length : Nat) : Int) := fun z => by rw [decide_eq_true z] at c1; exact c1 rfl
    unfold okM
    rw [decide_eq_false (show ¬ 1 ≤ rows.length by omega), Bool.false_and]

abbrev s_check_start : Stmt := top 16
theorem sc_check_start : FnScope ["model", "start"] ["model", "start"] (defScope s_check_start) := ⟨rfl, rfl, rfl, by decide +kernel, rfl, by decide +kernel, by decide +kernel⟩
theorem ok_check_start {CX : Addr} (d : D K mg "check_start" s_check_start ["model", "start"] f fd) (B : Blt mg) (EX : ErrC K mg "InvalidIndex" CX) : FnOk P w K mg base (L2N.CX P w) 1 f fd ["model", "start"] (spStart K CX) := by
  refine Fun.okN d.F sc_check_start (fun vs H Q E h => ?_) (fun cdv A outer s H vs Q E hr h => ?_)
  · obtain ⟨_, _, _, rfl, _⟩ := h
    rfl
  obtain ⟨p, rows, st, rfl, hM, q, qe⟩ := h
  obtain ⟨qs, hS, hq, hR⟩ := id hM
  refine ⟨_, (pss_one (ps_if (pt_not (pt_chain op_le op_lt pe_int (pv 1) (pe_callB call_len_seq (by rfl) B.len PySem.boot_len (pa_cons (pv 0) pa_nil)))) (pss_one (L2N.ps_raise rfl (L2N.takes_of rfl rfl rfl rfl) (L2N.pmk_own PySem.F.excBase_ValueError EX.q EX.g EX.k (raises_own EX.b EX.t) (by exact rfl)))) pss_nil)), ?_⟩
  refine ⟨_, rfl, _, _, rfl, rfl, _, rfl, ite2 (fun c1 => ?_) (fun c1 => ?_)⟩
  · have c1 : 0 ≤ st := of_decide_eq_true c1
    refine ⟨_, rfl, p, _, rfl, .inr hS, ?_⟩
    rw [List.length_map, hq]
    exact ⟨_, _, rfl, rfl, _, rfl, ite2 (fun c2 => qe fun z => not_decB c2 z.2) (fun c2 => q c1 (yes_decB c2))⟩
  · have c1 : ¬ 0 ≤ st := fun z => c1 (decide_eq_true z)
    exact ⟨_, rfl, qe fun z => c1 z.1⟩

abbrev s_value_below : Stmt := top 18
theorem sc_value_below : FnScope ["model", "start", "term"] ["model", "start", "term"] (defScope s_value_below) := ⟨rfl, rfl, rfl, by decide +kernel, rfl, by decide +kernel, by decide +kernel⟩
theorem ok_value_below (d_value_below : D K mg "value_below" s_value_below ["model", "start", "term"] f fd) : ∀ n : Nat, FnOk P w K mg base CX0 n f fd ["model", "start", "term"] (spMVal K n)
  | 0 => fn_none fun vs H Q E h => by
    obtain ⟨_, _, _, _, _, _, _, _, _, _, _, h, _⟩ := h
    omega
  | n + 1 => by
    have G_value_below := ok_value_below d_value_below n
    refine d_value_below.F.ok sc_value_below (fun vs H Q E h => ?_) (fun cdv A outer s H vs Q E hr h => ?_)
    · obtain ⟨_, _, _, _, _, _, _, rfl, _⟩ := h
      rfl
    obtain ⟨p, rows, m, qs, st, v, t, rfl, M, hs, ha, hd, hk, q⟩ := h
    refine ⟨_, (pss_cons (ps_if (pt_cmpR (op_eqD hr.units) (pv 2) (pe_tup pa_nil) (nomark _)) (pss_one (ps_ret (pv 1))) pss_nil)
 (pss_one (ps_ret (pe_ix ix_tup (pe_ix ix_tup (pv 0) (pe_call G_value_below hr rfl d_value_below.m d_value_below.F.kp d_value_below.b .nil pass0 (pa_cons (pv 0) (pa_cons (pv 1) (pa_cons (pe_ix ix_tup (pv 2) pe_int (fun _ _ => rfl)) pa_nil)))) (fun _ _ => rfl)) (pe_call G_value_below hr rfl d_value_below.m d_value_below.F.kp d_value_below.b .nil pass0 (pa_cons (pv 0) (pa_cons (pv 1) (pa_cons (pe_ix ix_tup (pv 2) pe_int (fun _ _ => rfl)) pa_nil)))) (fun _ _ => rfl))))), ?_⟩
    refine ⟨_, rfl, zero_le', fun p5 hp5 => ⟨t.d, .tuple [], ta_mono (Tp.same (Same.new hp5 _)) ha, Dp.tup (SqT.here upd_same) .nil, Tree.shaped (by omega), shapedE, _, rfl, ite_eq (Tree.eqvL t) ?_⟩⟩
    have s1 := Same.new hp5 (.tup [])
    cases t with
    | L => exact iteT ⟨_, rfl, q _ s1⟩
    | N l r =>
      have hd : max l.dp r.dp + 1 < n + 1 := hd
      have M1 := M.tp (Tp.same s1)
      obtain ⟨b, x1, x2, rfl, hS, hL, hR⟩ := ta_invN (ta_mono (Tp.same s1) ha)
      have vl := mv_lt M hs l
      have vr := mv_lt M hs r
      refine iteF ⟨_, rfl, _, rfl, _, rfl, _, rfl, b, _, 0, _, rfl, rfl, hS, rfl, p, rows, m, qs, st, x1, l, rfl, M1, hs, hL, by omega, by omega, fun H2 s2 => ?_⟩
      have M2 := M1.tp (Tp.same s2)
      refine ⟨p, _, _, _, rfl, rfl, M2.S, M2.ix _ vl, ?_⟩
      refine ⟨_, rfl, _, rfl, _, rfl, b, _, 1, _, rfl, rfl, (Tp.same s2).sqT hS, rfl, p, rows, m, qs, st, x2, r, rfl, M2, hs, ta_mono (Tp.same s2) hR, by omega, by omega, fun H3 s3 => ?_⟩
      have M3 := M2.tp (Tp.same s3)
      exact ⟨_, _, _, _, rfl, rfl, M3.row _ vl, M3.at_ _ _ vl vr, q H3 ((s1.trans s2).trans s3)⟩

abbrev s_value_of : Stmt := top 17
theorem sc_value_of : FnScope ["model", "start", "term"] ["model", "start", "term"] (defScope s_value_of) := ⟨rfl, rfl, rfl, by decide +kernel, rfl, by decide +kernel, by decide +kernel⟩
theorem ok_value_of {CM CX CI : Addr} {tk : Tok} {g0 g1 g2 g3 g4 g5 g6 : Addr} {h0 h1 h2 h3 h4 h5 h6 : FuncData} (d : D K mg "value_of" s_value_of ["model", "start", "term"] f fd) (B : Blt mg) (C : Cst mg) (EM : ErrC K mg "InvalidModel" CM) (EX : ErrC K mg "InvalidIndex" CX) (EI : ErrC K mg "InvalidTerm" CI) (C_MAX_ROWS : mg "MAX_ROWS" = some (.int 12 tk)) (d_is_row : D K mg "is_row" s_is_row ["row", "many"] g0 h0) (d_check_model : D K mg "check_model" s_check_model ["model"] g1 h1) (d_check_start : D K mg "check_start" s_check_start ["model", "start"] g2 h2) (d_is_pair : D K mg "is_pair" s_is_pair ["part"] g3 h3) (d_is_term : D K mg "is_term" s_is_term ["term"] g4 h4) (d_check_term : D K mg "check_term" s_check_term ["term"] g5 h5) (d_value_below : D K mg "value_below" s_value_below ["model", "start", "term"] g6 h6) : FnOk P w K mg base (L2N.CX P w) 8 f fd ["model", "start", "term"] (spVO K CM CX CI) := by
  have G_check_model : FnOk P w K mg base (L2N.CX P w) 2 g1 h1 ["model"] (spMd K CM) := ok_check_model d_check_model B EM C_MAX_ROWS d_is_row
  have G_check_start : FnOk P w K mg base (L2N.CX P w) 1 g2 h2 ["model", "start"] (spStart K CX) := ok_check_start d_check_start B EX
  have G_check_term : FnOk P w K mg base (L2N.CX P w) 3 g5 h5 ["term"] (spChk K CI) := ok_check_term d_check_term B C EI d_is_pair d_is_term
  have G_value_below : FnOk P w K mg base CX0 7 g6 h6 ["model", "start", "term"] (spMVal K 7) := ok_value_below d_value_below 7
  refine Fun.okN d.F sc_value_of (fun vs H Q E h => ?_) (fun cdv A outer s H vs Q E hr h => ?_)
  · obtain ⟨_, _, _, _, _, rfl, _⟩ := h
    rfl
  obtain ⟨p, rows, st, v, dd, rfl, hM, l1, l2, hN, hnd, q1, q2, q3, q⟩ := h
  refine ⟨_, (pss_cons (ps_expr (pe_call G_check_model (hr.mono (by decide)) rfl d_check_model.m d_check_model.F.kp d_check_model.b .nil passD (pa_cons (pv 0) pa_nil)))
 (pss_cons (ps_expr (pe_call G_check_start (hr.mono (by decide)) rfl d_check_start.m d_check_start.F.kp d_check_start.b .nil passD (pa_cons (pv 0) (pa_cons (pv 1) pa_nil))))
 (pss_cons (ps_expr (pe_call G_check_term (hr.mono (by decide)) rfl d_check_term.m d_check_term.F.kp d_check_term.b .nil passD (pa_cons (pv 2) pa_nil)))
 (pss_one (ps_ret (pe_call G_value_below (hr.mono (by decide)) rfl d_value_below.m d_value_below.F.kp d_value_below.b .nil pass0 (pa_cons (pv 0) (pa_cons (pv 1) (pa_cons (pv 2) pa_nil))))))))), ?_⟩
  refine ⟨_, rfl, p, rows, rfl, hM, l1, l2, fun ok H1 s1 => ?_, fun bad H1 s1 => q1 bad H1 s1⟩
  refine ⟨_, rfl, _, rfl, p, rows, st, rfl, hM.tp (Tp.same s1), fun z0 z1 => ?_, fun bad => q2 ok bad H1 s1⟩
  refine ⟨_, rfl, v, dd, rfl, hN.tp (Tp.same s1), hnd, fun okt H2 s2 => ?_, fun bad H2 s2 => q3 ok z0 z1 bad H2 (s1.trans s2)⟩
  obtain ⟨t, rfl, hz, hd⟩ := okd_tree okt
  obtain ⟨s', rfl⟩ : ∃ k : Nat, st = (k : Int) := ⟨st.toNat, by omega⟩
  obtain ⟨qs, M⟩ := (hM.tp (Tp.same (s1.trans s2))).n ok
  exact ⟨_, rfl, _, rfl, _, rfl, p, rows, rows.length, qs, s', v, t, rfl, M, by omega, ta_mono (Tp.same (s1.trans s2)) hN.dp, by omega, by omega, fun H3 s3 => q t s' ok rfl (by omega) rfl hz hd H3 ((s1.trans s2).trans s3)⟩

abbrev s_model_of : Stmt := top 20
theorem sc_model_of : FnScope ["many", "operation", "a", "b"] ["many", "operation"] (defScope s_model_of) := ⟨rfl, rfl, rfl, by decide +kernel, rfl, by decide +kernel, by decide +kernel⟩
theorem ok_model_of (d : D K mg "model_of" s_model_of ["many", "operation"] f fd) (B : Blt mg) (k : Nat) : FnOk P w K mg base CX0 (k + 1) f fd ["many", "operation"] (spMdOf P w K mg base k) := by
  refine d.F.ok sc_model_of (fun vs H Q E h => ?_) (fun cdv A outer s H vs Q E hr h => ?_)
  · obtain ⟨_, _, _, rfl, _⟩ := h
    rfl
  obtain ⟨n, f, op, rfl, hL, hn, q⟩ := h
  refine ⟨_, (pss_one (ps_ret (pe_callTy call_tuple_of (by rfl) B.tuple (by decide +kernel) (pa_cons (pe_lc (own := [("a", 2)]) (g := gName 2) (tt := tYes) (by rfl) sc_model_of.nd (pi_range1 (by rfl) B.range (pa_cons (pv 0) pa_nil)) (blkOk_by (own := [("a", 2)]) (N := ["many", "operation", "a", "b"]) (sc := defScope s_model_of) (by decide +kernel)) (fun _ _ _ _ _ => (pg_name (i := 2) sc_model_of.nd rfl (Or.inr rfl))) (fun _ _ _ _ _ => pts_nil) (fun _ _ _ _ _ => (pe_callTy (r := rTupOf K) (T := "tuple") call_tupK (by rfl) B.tuple (by decide +kernel) (pa_cons (pe_lc (own := [("b", 3)]) (g := gName 3) (tt := tYes) (by rfl) sc_model_of.nd (pi_range1 (by rfl) B.range (pa_cons (pv 0) pa_nil)) (blkOk_by (own := [("b", 3)]) (N := ["many", "operation", "a", "b"]) (sc := { kind := .function, names := [(".0", .local), ("a", .cell), ("tuple", .globalImplicit), ("range", .globalImplicit), ("many", .cell), ("operation", .cell)], isGenerator := false, isCoroutine := false }) (by decide +kernel)) (fun _ _ _ _ _ => (pg_name (i := 3) sc_model_of.nd rfl (Or.inl rfl))) (fun _ _ _ _ _ => pts_nil) (fun _ _ _ _ _ => (show PE _ _ (tLamC P w K mg base k 1 (tCons (tVar 2) (tCons (tVar 3) tNil))) from pe_lamC (i := 1) hr (Nat.le_refl _) rfl (.inr (.inl rfl)) (pa_cons (pv 2) (pa_cons (pv 3) pa_nil))))) pa_nil)))) pa_nil)))), ?_⟩
  refine ⟨_, rfl, _, rfl, by omega, by omega, fun D hD => ?_⟩
  refine lc_range (lo := 0) (n := n) (fun i G => Same H G ∧ ∃ qs : List Addr, G D = some (.lst (qs.map V.ref)) ∧ qs.length = i ∧ ∀ (j : Nat) (q : Addr), qs[j]? = some q → SqT K G q (((List.range n).map fun b => ((op j b : Nat) : Int)).map V.int)) ⟨Same.new hD _, [], upd_same, rfl, fun j q z => nomatch z⟩ ?_ ?_
  · rintro i G hi ⟨sm, qs, hG, hl, hq⟩
    refine ⟨rfl, _, rfl, _, rfl, by omega, by omega, fun D2 hD2 => ?_⟩
    refine lc_mapRg (ψ := fun b => .int ((op i b : Nat) : Int)) hD2 (by omega) (fun j G2 R hj s2 k => ?_) (fun G2 s2 hG2 => ?_)
    · refine ⟨rfl, f, n, op, rfl, hL.same (sm.trans s2), _, rfl, _, rfl, i, j, ?_, hi, hj, hL.same (sm.trans s2), fun H2 s3 => k H2 s3⟩
      show [V.int (0 + (i : Int)), V.int (0 + (j : Int))] = _
      rw [Int.zero_add, Int.zero_add]
    · refine ⟨D2, _, rfl, .inl ⟨SqL.here hG2, fun l nl => ?_⟩⟩
      have s4 := s2.trans (Same.new nl (.tup ((List.range n).map fun b => V.int ((op i b : Nat) : Int))))
      refine ⟨_, s4 _ _ hG, by rw [List.length_map, hl]; exact small1000 (by omega), fun b o z => ?_, qs ++ [l], by rw [upd_same, List.map_append]; rfl, by rw [List.length_append, hl]; rfl, fun j q hj => ?_⟩
      · rw [upd_ne (ne_of_none z hD)]
        exact s4 _ _ (sm _ _ z)
      · have tp := (Tp.same s4).trans (Tp.but (s4 _ _ hG) (But.set (o := .lst (qs.map V.ref ++ [.ref l]))))
        rcases Nat.lt_or_ge j qs.length with z | z
        · rw [List.getElem?_append_left z] at hj
          exact tp.sqT (hq j q hj)
        · rw [List.getElem?_append_right z] at hj
          have e0 : j - qs.length = 0 := by
            obtain ⟨y, _⟩ := List.getElem?_eq_some_iff.mp hj
            simpa using y
          rw [e0] at hj
          cases hj
          have ej : j = i := by omega
          subst ej
          refine (Tp.but (s4 _ _ hG) (But.set (o := .lst (qs.map V.ref ++ [.ref l])))).sqT (SqT.here ?_)
          rw [upd_same, List.map_map]
          rfl
  · rintro G ⟨sm, qs, hG, hl, hq⟩
    refine ⟨D, _, rfl, .inl ⟨SqL.here hG, fun l nl => ?_⟩⟩
    have s4 := Same.new nl (.tup (qs.map V.ref))
    refine q l _ (sm.trans s4) ⟨qs, SqT.here upd_same, by rw [rowsOf_len, hl], fun i a r k1 k2 => ?_⟩
    have hi : i < n := by
      have := (List.getElem?_eq_some_iff.mp k1).1
      omega
    rw [rowsOf_at hi] at k2
    cases k2
    exact (Tp.same s4).sqT (hq i a k1)

abbrev s_joined_entry : Stmt := top 22
theorem sc_joined_entry : FnScope ["one", "other", "a", "b", "many"] ["one", "other", "a", "b"] (defScope s_joined_entry) := ⟨rfl, rfl, rfl, by decide +kernel, rfl, by decide +kernel, by decide +kernel⟩
theorem ok_joined_entry (d : D K mg "joined_entry" s_joined_entry ["one", "other", "a", "b"] f fd) (B : Blt mg) : FnOk P w K mg base CX0 1 f fd ["one", "other", "a", "b"] (spJoin K) := by
  refine d.F.ok sc_joined_entry (fun vs H Q E h => ?_) (fun cdv A outer s H vs Q E hr h => ?_)
  · obtain ⟨_, _, _, _, _, _, _, _, _, _, rfl, _⟩ := h
    rfl
  obtain ⟨p, q', r1, r2, n, m, a, b, qs1, qs2, rfl, M1, M2, ha, hb, q⟩ := h
  have m1 := M2.n1
  have m2 := M2.n2
  have la := div_lt m1 ha
  have lb := div_lt m1 hb
  have ra := Nat.mod_lt a m1
  have rb := Nat.mod_lt b m1
  refine ⟨_, (pss_cons (ps_set (i := 4) sc_joined_entry.nd rfl (Or.inl rfl) (pe_callB call_len_seq (by rfl) B.len PySem.boot_len (pa_cons (pv 1) pa_nil)))
 (pss_one (ps_ret (pe_op op_add (pe_op op_mul (pe_ix ix_tup (pe_ix ix_tup (pv 0) (pe_op op_fdiv (pv 2) (pv 4)) (fun _ _ => rfl)) (pe_op op_fdiv (pv 3) (pv 4)) (fun _ _ => rfl)) (pv 4)) (pe_ix ix_tup (pe_ix ix_tup (pv 1) (pe_op op_mod (pv 2) (pv 4)) (fun _ _ => rfl)) (pe_op op_mod (pv 3) (pv 4)) (fun _ _ => rfl)))))), ?_⟩
  refine ⟨_, rfl, q', _, rfl, .inr M2.S, ?_⟩
  rw [List.length_map, M2.len]
  have dA : ∀ x : Nat, (x : Int) / (m : Int) = ((x / m : Nat) : Int) := fun x => (Int.natCast_ediv x m).symm
  have mA : ∀ x : Nat, (x : Int) % (m : Int) = ((x % m : Nat) : Int) := fun x => (Int.natCast_emod x m).symm
  have e1 := M1.lt _ _ la lb
  have n12 := M1.n2
  refine ⟨_, rfl, _, rfl, _, rfl, _, _, rfl, rfl, ⟨by show (0 : Int) < (m : Int); omega, by show (m : Int) < _; omega⟩, p, _, _, _, rfl, rfl, M1.S, (by show atI _ ((a : Int) / (m : Int)) = _; rw [dA]; exact M1.ix _ la), ?_⟩
  refine ⟨_, rfl, _, rfl, _, _, rfl, rfl, ⟨by show (0 : Int) < (m : Int); omega, by show (m : Int) < _; omega⟩, _, _, _, _, rfl, rfl, M1.row _ la, (by show atI _ ((b : Int) / (m : Int)) = _; rw [dA]; exact M1.at_ _ _ la lb), ?_⟩
  refine ⟨_, rfl, _, _, rfl, rfl, .inl ⟨by omega, by omega⟩, ?_⟩
  refine ⟨_, rfl, _, rfl, _, rfl, _, _, rfl, rfl, (by show (0 : Int) < (m : Int); omega), q', _, _, _, rfl, rfl, M2.S, (by show atI _ ((a : Int) % (m : Int)) = _; rw [mA]; exact M2.ix _ ra), ?_⟩
  refine ⟨_, rfl, _, rfl, _, _, rfl, rfl, (by show (0 : Int) < (m : Int); omega), _, _, _, _, rfl, rfl, M2.row _ ra, (by show atI _ ((b : Int) % (m : Int)) = _; rw [mA]; exact M2.at_ _ _ ra rb), ?_⟩
  refine ⟨_, _, rfl, rfl, ?_⟩
  have e : ((jo r1 r2 m a b : Nat) : Int) = ((ev r1 (a / m) (b / m) : Nat) : Int) * (m : Int) + ((ev r2 (a % m) (b % m) : Nat) : Int) := by
    unfold jo
    rw [Int.natCast_add, Int.natCast_mul]
  rw [e] at q
  exact q

abbrev s_product_model : Stmt := top 21
theorem sc_product_model : FnScope ["one", "other", "many"] ["one", "other"] (defScope s_product_model) := ⟨rfl, rfl, rfl, by decide +kernel, rfl, by decide +kernel, by decide +kernel⟩
def pmQ : Str := (PyProof.Rows.envOfC "product_model" (defScope s_product_model) 0 0 .none).qual ++ "<lambda>"
theorem ok_product_model {CS CM ca Pa g1 g2 g3 g4 : Addr} {h1 h2 h3 h4 : FuncData} {tk : Tok} {T : List (Addr × Str)} {oc dV kV doc pm ct : Value} {od an : Option Addr} {osl : Array (Option Value)} (lk : K.lookup f = some ⟨oc, od, .func (PySem.W.fnOf "product_model" "product_model" (defArgs s_product_model) (defBody s_product_model) (defScope s_product_model) dV kV doc pm an (.ref ca) ct), osl⟩) (hcd : PySem.W.codeIn K (.ref ca) "product_model" = true) (B : Blt mg) (EM : ErrC K mg "InvalidModel" CM) (ES : ErrC K mg "InvalidSize" CS) (C_MAX_ROWS : mg "MAX_ROWS" = some (.int 12 tk))
    (TB : LamX.TabB base mg ca Pa) (hT1 : (Pa, pmQ) ∈ T) (hT2 : ∀ p ∈ T, p.1 = Pa → p.2 = pmQ) (d_is_row : D K mg "is_row" s_is_row ["row", "many"] g1 h1) (d_check_model : D K mg "check_model" s_check_model ["model"] g2 h2) (d_model_of : D K mg "model_of" s_model_of ["many", "operation"] g3 h3) (d_joined_entry : D K mg "joined_entry" s_joined_entry ["one", "other", "a", "b"] g4 h4) :
    FnOk P w K mg base (L2N.CX P w) 4 f (PySem.W.fnOf "product_model" "product_model" (defArgs s_product_model) (defBody s_product_model) (defScope s_product_model) dV kV doc pm an (.ref ca) ct) ["one", "other"] (spPM T K CM CS) := by
  have G_check_model : FnOk P w K mg base (L2N.CX P w) 2 g2 h2 ["model"] (spMd K CM) := ok_check_model d_check_model B EM C_MAX_ROWS d_is_row
  have G_model_of : FnOk P w K mg base CX0 3 g3 h3 ["many", "operation"] (spMdOf P w K mg base 2) := ok_model_of d_model_of B 2
  have G_joined_entry : FnOk P w K mg base CX0 1 g4 h4 ["one", "other", "a", "b"] (spJoin K) := ok_joined_entry d_joined_entry B
  refine fn_of (k := 3) lk hcd sc_product_model (fun vs H Q E h => ?_) (fun A outer s H vs Q E hr h => ?_)
  · obtain ⟨_, _, _, _, rfl, _⟩ := h
    rfl
  obtain ⟨p, q', r1, r2, rfl, ⟨S1, l1, l2⟩, ⟨S2, l3, l4⟩, hT, qm, qs, q⟩ := h
  refine ⟨_, (pss_cons (ps_expr (pe_call G_check_model (hr.mono (by decide)) rfl d_check_model.m d_check_model.F.kp d_check_model.b .nil passD (pa_cons (pv 0) pa_nil)))
 (pss_cons (ps_expr (pe_call G_check_model (hr.mono (by decide)) rfl d_check_model.m d_check_model.F.kp d_check_model.b .nil passD (pa_cons (pv 1) pa_nil)))
 (pss_cons (ps_set (i := 2) sc_product_model.nd rfl (Or.inl rfl) (pe_op op_mul (pe_callB call_len_seq (by rfl) B.len PySem.boot_len (pa_cons (pv 0) pa_nil)) (pe_callB call_len_seq (by rfl) B.len PySem.boot_len (pa_cons (pv 1) pa_nil))))
 (pss_cons (ps_if (pt_cmpR op_gt (pv 2) (pe_glob (v := .int 12) rfl C_MAX_ROWS ⟨_, rfl⟩) (nomark _)) (pss_one (L2N.ps_raise rfl (L2N.takes_of rfl rfl rfl rfl) (L2N.pmk_own PySem.F.excBase_ValueError ES.q ES.g ES.k (raises_own ES.b ES.t) (by exact rfl)))) pss_nil)
 (pss_one (ps_ret (pe_callLam (kl := 1) (Nl := ["a", "b", "one", "other"]) (psl := ["a", "b"]) (fr := ["one", "other"]) (js := [0, 1]) G_model_of (hr.mono (by decide)) rfl d_model_of.m d_model_of.F.kp d_model_of.b (NdefX.nscope_by (by rfl)) rfl (by rfl) rfl (fun _ => rfl) (fun _ _ _ _ _ us hl => match us, hl with | [_, _], _ => rfl) (fun A2 o2 s2 H2 f2 cl2 c2 hr2 => (pe_call G_joined_entry hr2 rfl d_joined_entry.m d_joined_entry.F.kp d_joined_entry.b .nil pass0 (pa_cons (pe_var (i := 2) rfl (.inr (.inr rfl))) (pa_cons (pe_var (i := 3) rfl (.inr (.inr rfl))) (pa_cons (pe_var (i := 0) rfl (.inl rfl)) (pa_cons (pe_var (i := 1) rfl (.inl rfl)) pa_nil)))))) (pa_cons (pv 2) (pa_cons (pe_lamV (T := T) TB rfl hT1 hT2 rfl (NdefX.ndef_free (fr := ["one", "other"]) (by rfl))) pa_nil))))))))), ?_⟩
  refine ⟨_, rfl, p, r1, rfl, S1, l1, l2, fun ok1 H1 s1 => ?_, fun bad H1 s1 => qm (.inl bad) H1 s1⟩
  refine ⟨_, rfl, q', r2, rfl, S2.tp (Tp.same s1), l3, l4, fun ok2 H2 s2 => ?_, fun bad H2 s2 => qm (.inr bad) H2 (s1.trans s2)⟩
  have s12 := s1.trans s2
  obtain ⟨qs1, M1⟩ := (S1.tp (Tp.same s12)).n ok1
  obtain ⟨qs2, M2⟩ := (S2.tp (Tp.same s12)).n ok2
  have n11 := M1.n1
  have n12 := M1.n2
  have n21 := M2.n1
  have n22 := M2.n2
  refine ⟨_, rfl, p, _, rfl, .inr M1.S, ?_⟩
  rw [List.length_map, M1.len]
  refine ⟨_, rfl, q', _, rfl, .inr M2.S, ?_⟩
  rw [List.length_map, M2.len]
  refine ⟨_, _, rfl, rfl, .inl ⟨by omega, by omega⟩, ?_⟩
  have em : ((r1.length : Int) * (r2.length : Int)) = ((r1.length * r2.length : Nat) : Int) := (Int.natCast_mul _ _).symm
  refine ⟨_, rfl, _, _, rfl, rfl, _, rfl, ite2 (fun c1 => ?_) (fun c1 => ?_)⟩
  · refine qs ok1 ok2 ?_ H2 s12
    have c1 : ((r1.length : Int) * (r2.length : Int)) > 12 := of_decide_eq_true c1
    rw [em] at c1
    omega
  · have c1 : ¬ ((r1.length : Int) * (r2.length : Int)) > 12 := fun z => c1 (decide_eq_true z)
    rw [em] at c1
    have le : r1.length * r2.length ≤ 12 := by omega
    refine ⟨_, rfl, hT.ext s12, fun fl c' H3 eN T3 nf hf hc => ⟨fl, c', hf, hc, r1.length * r2.length, jo r1 r2 r2.length, fun G => MdA K G p r1 ∧ MdA K G q' r2, fun _ _ e z => ⟨z.1.tp e.tp, z.2.tp e.tp⟩, ⟨S1.tp ((Tp.same s12).trans (Tp.extN eN)), S2.tp ((Tp.same s12).trans (Tp.extN eN))⟩, fun a b H' ha hb hJ => ?_, fun H4 sm hL => ?_⟩⟩
    · obtain ⟨qa, Ma⟩ := hJ.1.n ok1
      obtain ⟨qb, Mb⟩ := hJ.2.n ok2
      exact ⟨_, rfl, _, rfl, _, rfl, _, rfl, p, q', r1, r2, r1.length, r2.length, a, b, qa, qb, rfl, Ma, Mb, ha, hb, rfl, Same.refl _⟩
    · refine ⟨r1.length * r2.length, fl, jo r1 r2 r2.length, (by show [V.int ((r1.length : Int) * (r2.length : Int)), V.ref fl] = _; rw [em]), hL, by omega, fun pp H5 s5 hM => ⟨s5, fun H6 s6 e6 => ?_⟩⟩
      exact q ok1 ok2 le pp H6 ((ExtN.same s12).trans (eN.trans (LamX.ExtN.of s6))) (T3.ext s6) (hM.tp e6.tp)

abbrev s_generated : Stmt := top 19
theorem sc_generated : FnScope ["start", "operation", "found", "waiting", "one", "other", "result"] ["start", "operation"] (defScope s_generated) := ⟨rfl, rfl, rfl, by decide +kernel, rfl, by decide +kernel, by decide +kernel⟩
theorem ok_generated (d : D K mg "generated" s_generated ["start", "operation"] f fd) (B : Blt mg) (k : Nat) : FnOk P w K mg base CX0 (k + 1) f fd ["start", "operation"] (spGenA P w K mg base k) := by
  refine d.F.ok sc_generated (fun vs H Q E h => ?_) (fun cdv A outer s H vs Q E hr h => ?_)
  · obtain ⟨_, _, _, _, rfl, _⟩ := h
    rfl
  obtain ⟨n, st, f, op, rfl, hL, hn, hs, hcl, q⟩ := h
  refine ⟨_, (pss_cons (ps_set (i := 2) sc_generated.nd rfl (Or.inl rfl) (pe_disp (pps_cons (pv 0) pe_bl pps_nil) rfl rfl (by intro z; cases z) (by decide)))
 (pss_cons (ps_set (i := 3) sc_generated.nd rfl (Or.inl rfl) (pe_lst (pa_cons (pv 0) pa_nil)))
 (pss_cons (ps_while PassesOwn.never (pt_truth (pv 3) (by intro _; rfl)) (pss_cons (ps_set (i := 4) sc_generated.nd rfl (Or.inl rfl) (pe_bm0 PySem.F.plainAttrs_list PySem.F.slot_list_pop PySem.F.type_list_pop mt_pop (pv 3)))
 (pss_one (ps_for PassesOwn.never rfl (pi_list (pe_callTy (call_listD (by rfl)) (by rfl) B.list (by decide +kernel) (pa_cons (pv 2) pa_nil))) (pg_name (i := 5) sc_generated.nd rfl (Or.inl rfl))
  (pss_one (ps_for PassesOwn.never rfl (pi_tup (pe_tup (pa_cons (pe_lamC (k := k) (i := 1) hr (by exact Nat.le_refl _) rfl (.inl rfl) (pa_cons (pv 4) (pa_cons (pv 5) pa_nil))) (pa_cons (pe_lamC (k := k) (i := 1) hr (by exact Nat.le_refl _) rfl (.inl rfl) (pa_cons (pv 5) (pa_cons (pv 4) pa_nil))) pa_nil)))) (pg_name (i := 6) sc_generated.nd rfl (Or.inl rfl))
  (pss_one (ps_if (pt_cmp (pc_dnotin (Nat.lt_of_le_of_lt (Nat.add_le_add_left (by decide) _) hr.units) (pv 6) (pv 2)) (by with_unfolding_all rfl)) (pss_cons (ps_dput (Nat.lt_of_le_of_lt (Nat.add_le_add_left (by decide) _) hr.units) (pv 2) (pv 6) pe_bl (by rfl))
 (pss_one (ps_expr (pe_bm PySem.F.plainAttrs_list PySem.F.slot_list_append PySem.F.type_list_append mt_append (pv 3) (pa_cons (pv 6) pa_nil))))) pss_nil))))))))
 (pss_one (ps_ret (pe_callB (call_sortedDA (by rfl)) (by rfl) B.sorted (by decide +kernel) (pa_cons (pv 2) pa_nil))))))), ?_⟩
  intro d nd
  refine ⟨_, rfl, upd_same, [kI st], rfl, by show 1 ≤ 15; decide, _, rfl, one_le, fun l nl => ?_⟩
  have ud : upd (upd H d (.dK [])) d (.dK (mergeK [] [kI st])) = upd H d (.dK ([st].map kI)) := by
    funext b
    by_cases e : b = d
    · rw [e, upd_same, upd_same]
      rfl
    · rw [upd_ne e, upd_ne e, upd_ne e]
  rw [ud] at nl ⊢
  have sd := Same.new nd (.dK ([st].map kI))
  have nl0 : H l = none := sd.free nl
  have sl := Same.new nl (.lst ([st].map iV))
  refine ⟨fun m σ G => ∃ (x4 x5 x6 : Option V) (F W Dn : List Nat), σ = [some (.int (st : Int)), some (.ref f), some (.ref d), some (.ref l), x4, x5, x6] ∧ GS n op st H d l F Dn W.length F W G ∧ (∀ x ∈ Dn, x ∈ F) ∧ (∀ x ∈ Dn, ∀ y ∈ Dn, op x y ∈ F) ∧ W.length ≤ F.length ∧ m = 2 * (n - F.length) + W.length,
    ⟨_, _, _, _, [st], [st], [], rfl, ⟨sd.trans sl, sl _ _ upd_same, upd_same, GI.one hs, fun x hx => hx, fun x hx => hx, fun x hx => .inl hx, rfl⟩, (fun x hx => nomatch hx), (fun x hx => nomatch hx), Nat.le_refl _, rfl⟩, ?_⟩
  rintro m σ G ⟨x4, x5, x6, F, W, Dn, rfl, g, hD, hC, hWF, rfl⟩
  have lF := nodup_len g.gi.nd g.gi.lt
  rcases List.eq_nil_or_concat W with rfl | ⟨W0, one, rfl⟩
  · refine ⟨_, rfl, _, .inl ⟨_, SqL.here g.wl, rfl⟩, iteF ?_⟩
    refine ⟨_, rfl, d, F.map kI, F.map (fun (x : Nat) => (x : Int)), rfl, .inl g.fd, by rw [List.map_map, List.map_map]; rfl, fun ys p hp hs' np => ?_⟩
    have hall : ∀ x ∈ F, x ∈ Dn := fun x hx => (g.cov x hx).elim (fun z => nomatch z) id
    exact q F ys p _ (g.sm.trans (Same.new np _)) g.gi.nd g.gi.lt (g.gi.all fun x hx y hy => hC x (hall x hx) y (hall y hy)) hp hs' (g.sm.free np) upd_same
  · rw [List.concat_eq_append] at *
    have wl := g.wl
    rw [List.map_append] at wl
    have lW : (W0 ++ [one]).length = W0.length + 1 := by rw [List.length_append]; rfl
    have h1F : one ∈ F := g.wf one (by simp)
    refine ⟨_, rfl, true, .inl ⟨_, SqL.here wl, ?_⟩, iteT ?_⟩
    · cases W0 <;> rfl
    refine ⟨fun σ G => ∃ (x4 x5 x6 : Option V) (F' W' Dn : List Nat), σ = [some (.int (st : Int)), some (.ref f), some (.ref d), some (.ref l), x4, x5, x6] ∧ GS n op st H d l F' Dn W'.length F' W' G ∧ (∀ x ∈ Dn, x ∈ F') ∧ (∀ x ∈ Dn, ∀ y ∈ Dn, op x y ∈ F') ∧ W'.length ≤ F'.length ∧ 2 * (n - F'.length) + W'.length < 2 * (n - F.length) + (W0 ++ [one]).length, ?_, ?_⟩
    · rintro σ' G' ⟨y4, y5, y6, F', W', Dn', e1, e2, e3, e4, e6, e5⟩
      exact ⟨_, e5, y4, y5, y6, F', W', Dn', e1, e2, e3, e4, e6, rfl⟩
    refine ⟨_, rfl, .inl ⟨rfl, _, SqL.here wl⟩, l, _, .int (one : Int), rfl, rfl, wl, by simp, ?_⟩
    have eW : (W0.map iV ++ [one].map iV).dropLast = W0.map iV := by
      rw [List.dropLast_append_of_ne_nil (by simp)]
      simp only [List.map_cons, List.map_nil, List.dropLast_singleton, List.append_nil]
    rw [eW]
    have hne : d ≠ l := fun z => by
      have := g.fd
      rw [z, g.wl] at this
      cases this
    have g1 : GS n op st H d l F (one :: Dn) W0.length F W0 (upd G l (.lst (W0.map iV))) := ⟨fun b o e => by rw [upd_ne (ne_of_none e nl0)]; exact g.sm _ _ e, by rw [upd_ne hne]; exact g.fd, upd_same, g.gi, fun x hx => hx, fun x hx => g.wf x (List.mem_append_left _ hx), fun x hx => by
      rcases g.cov x hx with z | z
      · rcases List.mem_append.mp z with y | y
        · exact .inl y
        · exact .inr (by rw [List.mem_singleton.mp y]; exact List.mem_cons_self)
      · exact .inr (List.mem_cons_of_mem _ z), rfl⟩
    clear wl eW
    generalize (upd G l (.lst (W0.map iV))) = G1 at *
    refine ⟨_, rfl, d, _, rfl, .inl g1.fd, fun p np => ?_⟩
    have eK : ((F.map kI).map fun kv => kV kv.1) = F.map iV := by rw [List.map_map]; rfl
    rw [eK] at *
    have g2 := g1.same (Same.new np (.lst (F.map iV)))
    have hp2 : (upd G1 p (.lst (F.map iV))) p = some (.lst (F.map iV)) := upd_same
    have npH : H p = none := g1.sm.free np
    have nef : ∀ {G : Hp} {a b : Addr} {o : HO}, G a = some o → G b = none → a ≠ b := fun h1 h2 => ne_of_none h1 h2
    have npd : p ≠ d := fun z => by
      rw [z, g1.fd] at np
      cases np
    have npl : p ≠ l := fun z => by
      rw [z, g1.wl] at np
      cases np
    generalize (upd G1 p (.lst (F.map iV))) = G2 at *
    refine ⟨p, rfl, ⟨_, SqL.here hp2⟩, for_list (xs := F.map iV) (fun i σ G => ∃ (x5 x6 : Option V) (F' W' : List Nat), σ = [some (.int (st : Int)), some (.ref f), some (.ref d), some (.ref l), some (.int (one : Int)), x5, x6] ∧ GS n op st H d l F (one :: Dn) W0.length F' W' G ∧ G p = some (.lst (F.map iV)) ∧ ∀ j x, j < i → F[j]? = some x → op one x ∈ F' ∧ op x one ∈ F') ⟨_, _, F, W0, rfl, g2, hp2, fun j x z => absurd z (Nat.not_lt_zero _)⟩ (fun i σ G _ ⟨_, _, _, _, _, _, z, _⟩ => SqL.here z) ?_ ?_⟩
    · rintro i x σ G3 hx ⟨y5, y6, F', W', rfl, g3, hp3, hj⟩
      rw [List.getElem?_map] at hx
      obtain ⟨ot, hot, rfl⟩ := Option.map_eq_some_iff.mp hx
      have hotF : ot ∈ F := List.mem_of_getElem? hot
      have l1 := g.gi.lt one h1F
      have l2 := g.gi.lt ot hotF
      have n1 := g.gi.gen one h1F
      have n2 := g.gi.gen ot hotF
      refine ⟨f, n, op, rfl, hL.same g3.sm, _, rfl, _, rfl, one, ot, rfl, l1, l2, hL.same g3.sm, fun G4 s4 => ⟨f, n, op, rfl, hL.same (g3.sm.trans s4), _, rfl, _, rfl, ot, one, rfl, l2, l1, hL.same (g3.sm.trans s4), fun G5 s5 => ⟨two_le, fun t nt => ?_⟩⟩⟩
      have s345 := s4.trans (s5.trans (Same.new nt (.tup [iV (op one ot), iV (op ot one)])))
      have g6 := g3.same s345
      have hp6 := s345 _ _ hp3
      have ht6 : (upd G5 t (.tup [iV (op one ot), iV (op ot one)])) t = some (.tup ([op one ot, op ot one].map iV)) := upd_same
      generalize (upd G5 t (.tup [iV (op one ot), iV (op ot one)])) = G6 at *
      have hgen : ∀ r ∈ [op one ot, op ot one], r < n ∧ Gen op st r := fun r hr => by
        rcases List.mem_cons.mp hr with rfl | hr
        · exact ⟨hcl _ _ l1 l2, .step n1 n2⟩
        · rw [List.mem_singleton.mp hr]
          exact ⟨hcl _ _ l2 l1, .step n2 n1⟩
      refine ⟨t, rfl, ⟨_, SqT.here ht6⟩, for_tup (xs := [op one ot, op ot one].map iV) (fun i σ G => ∃ (x6 : Option V) (F'' W'' : List Nat), σ = [some (.int (st : Int)), some (.ref f), some (.ref d), some (.ref l), some (.int (one : Int)), some (.int (ot : Int)), x6] ∧ GS n op st H d l F (one :: Dn) W0.length F'' W'' G ∧ G p = some (.lst (F.map iV)) ∧ G t = some (.tup ([op one ot, op ot one].map iV)) ∧ (∀ x ∈ F', x ∈ F'') ∧ ∀ j r, j < i → [op one ot, op ot one][j]? = some r → r ∈ F'') ⟨_, F', W', rfl, g6, hp6, ht6, fun x hx => hx, fun j x z => absurd z (Nat.not_lt_zero _)⟩ (fun i σ G _ ⟨_, _, _, _, _, _, z, _⟩ => SqT.here z) ?_ ?_⟩
      · rintro i2 x σ G7 hx2 ⟨z6, F2, W2, rfl, g7, hp7, ht7, hup, hr7⟩
        rw [List.getElem?_map] at hx2
        obtain ⟨r, hr, rfl⟩ := Option.map_eq_some_iff.mp hx2
        obtain ⟨r1, r2⟩ := hgen r (List.mem_of_getElem? hr)
        refine ⟨_, rfl, _, rfl, d, _, rfl, DGet.k (k := Sum.inl (r : Int)) g7.fd, _, rfl, ite2 (fun c => ?_) (fun c => ?_)⟩
        · rw [kI_val] at c
          have nr : r ∉ F2 := fun z => by
            rw [decide_eq_true z] at c
            cases c
          have lF2 := nodup_len g7.gi.nd g7.gi.lt
          refine ⟨_, rfl, _, rfl, d, _, rfl, DPut.k (k := Sum.inl (r : Int)) g7.fd (by rw [List.length_map, sizeLine_eq]; omega), ?_⟩
          rw [putK_kI nr]
          have e8 : (upd G7 d (.dK ((F2 ++ [r]).map kI))) l = some (.lst (W2.map iV)) := by
            rw [upd_ne hne.symm]
            exact g7.wl
          have g9 := g7.add r1 r2 nr nd nl0
          have lW2 : W2.length ≤ 1000 := by
            have := g7.len
            omega
          refine ⟨_, rfl, .inl ⟨rfl, _, SqL.here e8⟩, _, rfl, l, _, _, rfl, rfl, e8, by rw [List.length_map]; exact small1000 lW2, ?_⟩
          rw [show (W2 ++ [r]).map iV = W2.map iV ++ [iV r] by rw [List.map_append]; rfl] at g9
          refine ⟨_, F2 ++ [r], W2 ++ [r], rfl, g9, ?_, ?_, fun x hx => List.mem_append_left _ (hup x hx), fun j r' hj hr' => ?_⟩
          · rw [upd_ne npl, upd_ne npd]
            exact hp7
          · rw [upd_ne (ne_of ht7 g7.wl (fun z => nomatch z)), upd_ne (ne_of ht7 g7.fd (fun z => nomatch z))]
            exact ht7
          · rcases Nat.lt_or_ge j i2 with z | z
            · exact List.mem_append_left _ (hr7 j r' z hr')
            · have : j = i2 := by omega
              rw [this, hr] at hr'
              cases hr'
              simp
        · rw [kI_val] at c
          have nr : r ∈ F2 := by
            cases e : decide (r ∈ F2) with
            | true => exact of_decide_eq_true e
            | false => rw [e] at c; exact absurd rfl c
          refine ⟨_, F2, W2, rfl, g7, hp7, ht7, hup, fun j r' hj hr' => ?_⟩
          rcases Nat.lt_or_ge j i2 with z | z
          · exact hr7 j r' z hr'
          · have : j = i2 := by omega
            rw [this, hr] at hr'
            cases hr'
            exact nr
      · rintro σ G7 ⟨z6, F2, W2, rfl, g7, hp7, ht7, hup, hr7⟩
        refine ⟨_, _, F2, W2, rfl, g7, hp7, fun j x hj' hx' => ?_⟩
        rcases Nat.lt_or_ge j i with z | z
        · exact ⟨hup _ (hj j x z hx').1, hup _ (hj j x z hx').2⟩
        · have : j = i := by omega
          rw [this, hot] at hx'
          cases hx'
          exact ⟨hr7 0 _ (by show 0 < 2; decide) rfl, hr7 1 _ (by show 1 < 2; decide) rfl⟩
    · rintro σ G3 ⟨y5, y6, F', W', rfl, g3, hp3, hj⟩
      have hj : ∀ x ∈ F, op one x ∈ F' ∧ op x one ∈ F' := fun x hx => by
        obtain ⟨j, hj1, hj2⟩ := List.mem_iff_getElem.mp hx
        exact hj j x (by rw [List.length_map]; exact hj1) (by rw [List.getElem?_eq_getElem hj1, hj2])
      have lF' := nodup_len g3.gi.nd g3.gi.lt
      have hlen := g3.len
      refine ⟨_, _, _, F', W', one :: Dn, rfl, ⟨g3.sm, g3.fd, g3.wl, g3.gi, fun x hx => hx, g3.wf, g3.cov, rfl⟩, fun x hx => ?_, fun x hx y hy => ?_, by omega, ?_⟩
      · rcases List.mem_cons.mp hx with rfl | hx
        · exact g3.up _ h1F
        · exact g3.up _ (hD x hx)
      · rcases List.mem_cons.mp hx with e1 | e1
        · rcases List.mem_cons.mp hy with e2 | e2
          · rw [e1, e2]
            exact (hj _ h1F).1
          · rw [e1]
            exact (hj y (hD y e2)).1
        · rcases List.mem_cons.mp hy with e2 | e2
          · rw [e2]
            exact (hj x (hD x e1)).2
          · exact g3.up _ (hC x e1 y e2)
      · have := sub_len g.gi.nd g3.up
        rw [lW]
        omega

abbrev s_homomorphism : Stmt := top 23
theorem sc_homomorphism : FnScope ["one", "start", "other", "goal", "many", "images", "both", "value"] ["one", "start", "other", "goal"] (defScope s_homomorphism) := ⟨rfl, rfl, rfl, by decide +kernel, rfl, by decide +kernel, by decide +kernel⟩
def hmQ : Str := (PyProof.Rows.envOfC "homomorphism" (defScope s_homomorphism) 0 0 .none).qual ++ "<lambda>"
theorem ok_homomorphism {CX CM ca Pa g1 g2 g3 g4 g5 : Addr} {h1 h2 h3 h4 h5 : FuncData} {tk : Tok} {T : List (Addr × Str)} {oc dV kV0 doc pm ct : Value} {od an : Option Addr} {osl : Array (Option Value)} (lk : K.lookup f = some ⟨oc, od, .func (PySem.W.fnOf "homomorphism" "homomorphism" (defArgs s_homomorphism) (defBody s_homomorphism) (defScope s_homomorphism) dV kV0 doc pm an (.ref ca) ct), osl⟩) (hcd : PySem.W.codeIn K (.ref ca) "homomorphism" = true) (B : Blt mg) (EM : ErrC K mg "InvalidModel" CM) (EX : ErrC K mg "InvalidIndex" CX) (C_MAX_ROWS : mg "MAX_ROWS" = some (.int 12 tk))
    (TB : LamX.TabB base mg ca Pa) (hT1 : (Pa, hmQ) ∈ T) (hT2 : ∀ p ∈ T, p.1 = Pa → p.2 = hmQ) (d_is_row : D K mg "is_row" s_is_row ["row", "many"] g1 h1) (d_check_model : D K mg "check_model" s_check_model ["model"] g2 h2) (d_generated : D K mg "generated" s_generated ["start", "operation"] g3 h3) (d_check_start : D K mg "check_start" s_check_start ["model", "start"] g4 h4) (d_joined_entry : D K mg "joined_entry" s_joined_entry ["one", "other", "a", "b"] g5 h5) :
    FnOk P w K mg base (L2N.CX P w) 4 f (PySem.W.fnOf "homomorphism" "homomorphism" (defArgs s_homomorphism) (defBody s_homomorphism) (defScope s_homomorphism) dV kV0 doc pm an (.ref ca) ct) ["one", "start", "other", "goal"] (spHom T K CM CX) := by
  have G_check_model : FnOk P w K mg base (L2N.CX P w) 2 g2 h2 ["model"] (spMd K CM) := ok_check_model d_check_model B EM C_MAX_ROWS d_is_row
  have G_check_start := ok_check_start (P := P) (w := w) (base := base) d_check_start B EX
  have G_generated : FnOk P w K mg base CX0 3 g3 h3 ["start", "operation"] (spGenA P w K mg base 2) := ok_generated d_generated B 2
  have G_joined_entry : FnOk P w K mg base CX0 1 g5 h5 ["one", "other", "a", "b"] (spJoin K) := ok_joined_entry d_joined_entry B
  refine fn_of (k := 3) lk hcd sc_homomorphism (fun vs H Q E h => ?_) (fun A outer s H vs Q E hr h => ?_)
  · obtain ⟨_, _, _, _, _, _, rfl, _⟩ := h
    rfl
  obtain ⟨p, q', r1, r2, st, go, rfl, ⟨S1, l1, l2⟩, ⟨S2, l3, l4⟩, hT, qm, qs, qm2, qe2, q⟩ := h
  refine ⟨_, (pss_cons (ps_expr (pe_call G_check_model (hr.mono (by decide)) rfl d_check_model.m d_check_model.F.kp d_check_model.b .nil passD (pa_cons (pv 0) pa_nil)))
 (pss_cons (ps_expr (pe_call G_check_start (hr.mono (by decide)) rfl d_check_start.m d_check_start.F.kp d_check_start.b .nil passD (pa_cons (pv 0) (pa_cons (pv 1) pa_nil))))
 (pss_cons (ps_expr (pe_call G_check_model (hr.mono (by decide)) rfl d_check_model.m d_check_model.F.kp d_check_model.b .nil passD (pa_cons (pv 2) pa_nil)))
 (pss_cons (ps_expr (pe_call G_check_start (hr.mono (by decide)) rfl d_check_start.m d_check_start.F.kp d_check_start.b .nil passD (pa_cons (pv 2) (pa_cons (pv 3) pa_nil))))
 (pss_cons (ps_set (i := 4) sc_homomorphism.nd rfl (Or.inl rfl) (pe_callB call_len_seq (by rfl) B.len PySem.boot_len (pa_cons (pv 2) pa_nil)))
 (pss_cons (ps_set (i := 5) sc_homomorphism.nd rfl (Or.inr rfl) pe_dnewK)
 (pss_cons (ps_for (passes_of rfl) rfl (pi_list (pe_callLam (kl := 1) (Nl := ["a", "b", "one", "other"]) (psl := ["a", "b"]) (fr := ["one", "other"]) (js := [0, 2]) G_generated (hr.mono (by decide)) rfl d_generated.m d_generated.F.kp d_generated.b (NdefX.nscope_by (by rfl)) rfl (by rfl) rfl (fun _ => rfl) (fun _ _ _ _ _ us hl => match us, hl with | [_, _], _ => rfl) (fun A2 o2 s2 H2 f2 cl2 c2 hr2 => (pe_call G_joined_entry hr2 rfl d_joined_entry.m d_joined_entry.F.kp d_joined_entry.b .nil pass0 (pa_cons (pe_var (i := 2) rfl (.inr (.inr rfl))) (pa_cons (pe_var (i := 3) rfl (.inr (.inr rfl))) (pa_cons (pe_var (i := 0) rfl (.inl rfl)) (pa_cons (pe_var (i := 1) rfl (.inl rfl)) pa_nil)))))) (pa_cons (pe_op op_add (pe_op op_mul (pv 1) (pv 4)) (pv 3)) (pa_cons (pe_lamV (T := T) TB rfl hT1 hT2 rfl (NdefX.ndef_free (fr := ["one", "other"]) (by rfl))) pa_nil)))) (pg_name (i := 6) sc_homomorphism.nd rfl (Or.inl rfl))
  (pss_one (ps_expr (pe_bm PySem.F.plainAttrs_list PySem.F.slot_list_append PySem.F.type_list_append mt_append (pe_dsetd (pv 5) (pe_op op_fdiv (pv 6) (pv 4)) (pe_lst pa_nil) ⟨rfl, rfl, rfl, rfl⟩) (pa_cons (pe_op op_mod (pv 6) (pv 4)) pa_nil)))))
 (pss_cons (ps_lock (ps_for (passes_of rfl) rfl (pi_keys (pv 5)) (pg_name (i := 7) sc_homomorphism.nd rfl (Or.inl rfl))
  (pss_one (ps_if (pt_cmpR op_gt (pe_callB call_len_seq (by rfl) B.len PySem.boot_len (pa_cons (pe_dget (Nat.lt_of_le_of_lt (Nat.add_le_add_left (by decide) _) hr.units) (pv 5) (pv 7) (fun _ _ => rfl)) pa_nil)) pe_int (nomark _)) (pss_one (ps_ret (pe_tup (pa_cons pe_str (pa_cons (pv 7) (pa_cons (pe_ix ix_list (pe_dget (Nat.lt_of_le_of_lt (Nat.add_le_add_left (by decide) _) hr.units) (pv 5) (pv 7) (fun _ _ => rfl)) pe_int (fun _ _ => rfl)) (pa_cons (pe_ix ix_list (pe_dget (Nat.lt_of_le_of_lt (Nat.add_le_add_left (by decide) _) hr.units) (pv 5) (pv 7) (fun _ _ => rfl)) pe_int (fun _ _ => rfl)) pa_nil))))))) pss_nil))))
 (pss_one (ps_ret (pe_tup (pa_cons pe_str (pa_cons (pe_lock (pe_dc (own := [("value", 7)]) (g := gName 7) (tt := tYes) (by rfl) sc_homomorphism.nd (pi_keys (pv 5)) (blkOk_by (own := [("value", 7)]) (N := ["one", "start", "other", "goal", "many", "images", "both", "value"]) (sc := defScope s_homomorphism) (by decide +kernel)) (fun _ _ _ _ _ => (pg_name (i := 7) sc_homomorphism.nd rfl (Or.inl rfl))) (fun _ _ _ _ _ => pts_nil) (fun _ _ _ _ _ => (pv 7)) (fun _ _ _ _ _ => (pe_ix (r := rIxL K) ix_list (pe_dget (Nat.lt_of_le_of_lt (Nat.add_le_add_left (by decide) _) hr.units) (pv 5) (pv 7) (fun _ _ => rfl)) pe_int (fun _ _ => rfl))))) pa_nil))))))))))))), ?_⟩
  refine ⟨_, rfl, p, r1, rfl, S1, l1, l2, fun ok1 H1 s1 => ?_, fun bad H1 s1 => qm bad H1 s1⟩
  refine ⟨_, rfl, _, rfl, p, r1, st, rfl, S1.tp (Tp.same s1), fun z1 z2 => ?_, fun bad => qs ok1 bad _ s1⟩
  obtain ⟨a, rfl⟩ := Int.eq_ofNat_of_zero_le z1
  refine ⟨_, rfl, q', r2, rfl, S2.tp (Tp.same s1), l3, l4, fun ok2 H2 s2 => ?_, fun bad H2 s2 => qm2 ok1 z1 z2 bad H2 (s1.trans s2)⟩
  have s12 := s1.trans s2
  refine ⟨_, rfl, _, rfl, q', r2, go, rfl, S2.tp (Tp.same s12), fun z3 z4 => ?_, fun bad => qe2 ok1 z1 z2 ok2 bad _ s12⟩
  obtain ⟨b, rfl⟩ := Int.eq_ofNat_of_zero_le z3
  have qq := q ok1 ok2 a b rfl rfl (by omega) (by omega)
  clear q
  obtain ⟨qs1, M1⟩ := (S1.tp (Tp.same s12)).n ok1
  obtain ⟨qs2, M2⟩ := (S2.tp (Tp.same s12)).n ok2
  have n11 := M1.n1
  have n12 := M1.n2
  have n21 := M2.n1
  have n22 := M2.n2
  generalize hn : r1.length = n at *
  generalize hm : r2.length = m at *
  refine ⟨_, rfl, q', _, rfl, .inr M2.S, ?_⟩
  rw [List.length_map, M2.len]
  refine fun d nd => ?_
  have sd := Same.new nd (.dK [])
  have hd1 : (upd H2 d (.dK [])) d = some (.dK []) := upd_same
  have nd0 : H2 d = none := nd
  have ndH : H d = none := s12.free nd
  have M1 := M1.tp (Tp.same sd)
  have M2 := M2.tp (Tp.same sd)
  have s13 := s12.trans sd
  generalize (upd H2 d (.dK [])) = H3 at *
  have hab : a * m + b < n * m := by
    have : (a + 1) * m ≤ n * m := Nat.mul_le_mul_right m (by omega)
    rw [Nat.succ_mul] at this
    omega
  have hnm : n * m ≤ 144 := Nat.mul_le_mul (show n ≤ 12 by omega) (show m ≤ 12 by omega)
  refine ⟨_, rfl, _, rfl, _, _, rfl, rfl, .inl ⟨by omega, by omega⟩, _, rfl, _, _, rfl, rfl, ?_⟩
  refine ⟨hT.ext s13, fun fl c' H4 eN T4 nf hf hc => ⟨fl, c', hf, hc, n * m, jo r1 r2 m, fun G => MdN K G p r1 n qs1 ∧ MdN K G q' r2 m qs2, fun _ _ e z => ⟨z.1.tp e.tp, z.2.tp e.tp⟩, ⟨M1.tp (Tp.extN eN), M2.tp (Tp.extN eN)⟩, fun a b H' ha hb hJ => ?_, fun H5 sm hL => ?_⟩⟩
  · exact ⟨_, rfl, _, rfl, _, rfl, _, rfl, p, q', r1, r2, n, m, a, b, qs1, qs2, rfl, hJ.1, hJ.2, ha, hb, rfl, Same.refl _⟩
  refine ⟨n * m, a * m + b, fl, jo r1 r2 m, (by simp only [Int.natCast_add, Int.natCast_mul]), hL, by omega, hab, fun x y hx hy => jo_lt M1 M2 hx hy, fun F ys l H6 s6 hF1 hF2 hF3 hp hs np hl => ⟨s6, fun H7 s7 e7 => ?_⟩⟩
  have hl7 := e7 _ _ hl (fun φ => nofun)
  have e37 := eN.trans (LamX.ExtN.of s7)
  have hd7 := e37 _ _ hd1 (fun _ => nofun)
  obtain ⟨L, rfl, hLa, hLm⟩ := lit_of hF1 hp hs
  have nl3 : l ≠ d := fun z => by
    rw [z] at hl7
    rw [hd7] at hl7
    cases hl7
  have T7 := T4.ext s7
  have hlt : ∀ x ∈ L, x < n * m := fun x hx => hF2 x ((hLm x).mp hx)
  have hgen : ∀ x, x ∈ L ↔ Gen (jo r1 r2 m) (a * m + b) x := fun x => (hLm x).trans (hF3 x)
  have hS : ∀ k y, Gen (pop2 (ev r1) (ev r2)) (a, b) (k, y) ↔ k * m + y ∈ L ∧ y < m := fun k y => by
    rw [gen_jo (n := n) (by omega) (fun a b ha hb => M2.lt a b ha hb) (by omega) k y, hgen]
  have e07 : LamX.ExtN H H7 := (ExtN.same s13).trans e37
  clear hgen
  refine ⟨l, rfl, ⟨_, SqL.here hl7⟩, for_list (xs := (L.map fun (x : Nat) => (x : Int)).map V.int) (fun i σ G => ∃ (x6 : Option V) (A : List (Nat × Addr)), σ = [some (.ref p), some (.int (a : Int)), some (.ref q'), some (.int (b : Int)), some (.int (m : Int)), some (.ref d), x6, none] ∧ Img m (wo H7 d) d (L.take i) A G ∧ A.length ≤ i) ⟨_, [], rfl, Img.zero hd7, Nat.le_refl _⟩ (fun i σ G _ ⟨_, _, _, g, _⟩ => SqL.here (g.sm _ _ (by rw [wo_ne nl3]; exact hl7))) ?_ ?_⟩
  · rintro i x σ G hx ⟨x6, A, rfl, g, hAi⟩
    rw [List.getElem?_map, List.getElem?_map] at hx
    obtain ⟨y, hy, rfl⟩ := Option.map_eq_some_iff.mp hx
    obtain ⟨x, hx0, rfl⟩ := Option.map_eq_some_iff.mp hy
    have hxm := List.mem_of_getElem? hx0
    have hi := (List.getElem?_eq_some_iff.mp hx0).1
    have etk : L.take (i + 1) = L.take i ++ [x] := by
      rw [List.take_add_one, hx0]
      rfl
    have hle : ∀ y ∈ L.take i, y ≤ x := fun y hy => by
      obtain ⟨j, hj, ej⟩ := List.mem_iff_getElem.mp hy
      have hj2 : j < i := by rw [List.length_take] at hj; omega
      rw [List.getElem_take] at ej
      have := List.pairwise_iff_getElem.mp hLa j i (by omega) hi hj2
      have e2 := (List.getElem?_eq_some_iff.mp hx0).2
      omega
    have eD : (x : Int) / (m : Int) = ((x / m : Nat) : Int) := (Int.natCast_ediv x m).symm
    have eM : (x : Int) % (m : Int) = ((x % m : Nat) : Int) := (Int.natCast_emod x m).symm
    have lL : L.length ≤ n * m := nodup_len (hLa.imp fun {a b} z => Nat.ne_of_lt z) hlt
    have lt1 : (L.take i).length ≤ 144 := by rw [List.length_take]; omega
    have lA : A.length < sizeLine := Nat.lt_of_le_of_lt (show _ ≤ 144 by omega) (by decide)
    refine ⟨_, rfl, d, rfl, .inl ⟨_, .inl g.fd⟩, _, rfl, _, rfl, _, _, rfl, rfl, ⟨by show (0 : Int) < (m : Int); omega, by show (m : Int) < _; omega⟩, zero_le', fun e ne => ?_⟩
    have g1 := g.same (Same.new ne (.lst []))
    have lsml : ∀ k, ((secs m (L.take i) k).map iV).length < sizeLine := fun k => by
      have := secs_len (m := m) (L := L.take i) (k := k)
      rw [List.length_map]
      exact Nat.lt_of_le_of_lt (show _ ≤ 144 by omega) (by decide)
    refine ⟨A.map kA, Sum.inl ((x / m : Nat) : Int), g1.fd, (show V.int ((x : Int) / (m : Int)) = _ by rw [eD]; rfl), by rw [List.length_map]; exact lA, fun v ev => ?_, fun ev => ?_⟩
    · obtain ⟨z, hz, hk, rfl⟩ := kA_some ev
      have hb := g1.at_ z hz
      refine ⟨.inl ⟨rfl, _, SqL.here hb⟩, _, rfl, _, rfl, _, _, rfl, rfl, (by show (0 : Int) < (m : Int); omega), z.2, _, _, rfl, rfl, hb, ?_, ?_⟩
      · exact lsml _
      · refine ⟨_, A, rfl, ?_, by omega⟩
        rw [etk]
        show Img m (wo H7 d) d _ A (upd _ z.2 (.lst (_ ++ [V.int ((x : Int) % (m : Int))])))
        rw [eM]
        exact g1.here wo_same hz hk
    · have nde : d ≠ e := ne_of_none g.fd ne
      have he : (upd (upd G e (.lst [])) d (.dK (A.map kA ++ [(Sum.inl ((x / m : Nat) : Int), V.ref e)]))) e = some (.lst []) := by rw [upd_ne nde.symm, upd_same]
      refine ⟨.inl ⟨rfl, _, SqL.here he⟩, _, rfl, _, rfl, _, _, rfl, rfl, (by show (0 : Int) < (m : Int); omega), e, _, _, rfl, rfl, he, ?_, ?_⟩
      · show 0 < sizeLine
        decide
      · have := g.new wo_same ne hle (kA_none ev)
        rw [List.map_append] at this
        refine ⟨_, A ++ [(x / m, e)], rfl, ?_, ?_⟩
        · rw [etk]
          show Img m (wo H7 d) d _ _ (upd _ e (.lst [V.int ((x : Int) % (m : Int))]))
          rw [eM]
          exact this
        · rw [List.length_append]
          show A.length + 1 ≤ i + 1
          omega
  · rintro σ G ⟨x6, A, rfl, g, hAi⟩
    rw [List.length_map, List.length_map] at g hAi
    rw [List.take_length] at g
    have ndw : ∀ {b : Addr} {o : HO}, H b = some o → (∀ ps, o ≠ .tbl ps) → b ≠ d := fun {b o} e n z => by
      rw [z, ndH] at e
      cases e
    have eG : LamX.ExtN H G := fun b o e n => g.sm _ _ (by rw [wo_ne (ndw e n)]; exact e07 _ _ e n)
    have TG : LamX.Tabs T G := tabs_setK T7 hd7 fun b o n e => g.sm _ _ (by rw [wo_ne n]; exact e)
    have lL : L.length ≤ n * m := nodup_len (hLa.imp fun {a b} z => Nat.ne_of_lt z) hlt
    refine ⟨d, _, g.fd, trivial, fun od => ?_⟩
    have hfz : (upd G d (.frz od (.dK (A.map kA)))) d = some (.frz od (.dK (A.map kA))) := upd_same
    have fat : ∀ {b : Addr} {o : HO}, G b = some o → b ≠ d → (upd G d (.frz od (.dK (A.map kA)))) b = some o := fun {b o} e n => by rw [upd_ne n]; exact e
    have und : upd (upd G d (.frz od (.dK (A.map kA)))) d (.dK (A.map kA)) = G := by
      funext b
      by_cases e : b = d
      · rw [e, upd_same, g.fd]
      · rw [upd_ne e, upd_ne e]
    have lat : ∀ z ∈ A, (upd G d (.frz od (.dK (A.map kA)))) z.2 = some (.lst ((secs m L z.1).map iV)) := fun z hz => fat (g.at_ z hz) fun e => by
      have h1 := g.at_ z hz
      rw [e, g.fd] at h1
      cases h1
    generalize hGF : (upd G d (.frz od (.dK (A.map kA)))) = GF at *
    refine ⟨_, rfl, d, od, rfl, .inl ⟨_, hfz, for_it walk_keys (fun i σ G' => ∃ x7 : Option V, σ = [some (.ref p), some (.int (a : Int)), some (.ref q'), some (.int (b : Int)), some (.int (m : Int)), some (.ref d), x6, x7] ∧ G' = GF ∧ ∀ j z, j < i → A[j]? = some z → ¬ 1 < (secs m L z.1).length) ⟨_, rfl, rfl, fun j z hj => absurd hj (Nat.not_lt_zero _)⟩ (fun i σ G' _ ⟨_, _, e, _⟩ => by rw [e]; exact hfz) ?_ ?_⟩⟩
    · rintro i x σ G' G'' hi ⟨x7, rfl, rfl, hj⟩ ⟨rfl, k, v, hkv, rfl⟩
      rw [List.getElem?_map] at hkv
      obtain ⟨z, hz, ez⟩ := Option.map_eq_some_iff.mp hkv
      have hzm := List.mem_of_getElem? hz
      have ek := congrArg Prod.fst ez
      have ek : (Sum.inl (z.1 : Int) : Key) = k := ek
      subst ek
      have hget : ∃ kvs k', Rd G'' d (.dK kvs) ∧ kV (Sum.inl (z.1 : Int)) = kV k' ∧ some (V.ref z.2) = valV kvs k' := ⟨_, Sum.inl (z.1 : Int), .inr ⟨_, hfz⟩, rfl, (kA_at g.asc hzm).symm⟩
      have hat := lat z hzm
      refine ⟨_, rfl, _, rfl, d, _, rfl, .inl hget, z.2, _, rfl, .inl (SqL.here hat), _, _, rfl, rfl, _, rfl, ite2 (fun c => ?_) (fun c => ?_)⟩
      · have c : (1 : Int) < (((secs m L z.1).map iV).length : Int) := of_decide_eq_true c
        rw [List.length_map] at c
        have hlow : ∀ k', k' < z.1 → ∀ x y, Gen (pop2 (ev r1) (ev r2)) (a, b) (k', x) → Gen (pop2 (ev r1) (ev r2)) (a, b) (k', y) → x = y := fun k' hk x y h1 h2 => by
          have hm' : k' ∈ A.map (·.1) := (g.ks k').mpr ⟨_, ((hS _ _).mp h1).1, by rw [Nat.mul_comm, Nat.mul_add_div (by omega), Nat.div_eq_of_lt ((hS _ _).mp h1).2]; rfl⟩
          obtain ⟨w', hw', ew⟩ := List.mem_map.mp hm'
          obtain ⟨j, hj1, hj2⟩ := List.mem_iff_getElem.mp hw'
          obtain ⟨hi1, hi2⟩ := List.getElem?_eq_some_iff.mp hz
          have hji : j < i := by
            rcases Nat.lt_trichotomy j i with c | c | c
            · exact c
            · subst c
              rw [hi2] at hj2
              rw [hj2] at hk
              omega
            · have := List.pairwise_iff_getElem.mp g.asc i j hi1 hj1 c
              rw [hi2, hj2] at this
              omega
          have := hj j w' hji (by rw [List.getElem?_eq_getElem hj1, hj2])
          exact oneK_of (by omega) hS (by rw [← ew]; exact this) x y h1 h2
        obtain ⟨x, y, us, esec, hC⟩ := twoK_of (by omega) hS hLa (by omega) hlow
        rw [esec] at hat
        refine ⟨_, rfl, _, rfl, _, rfl, d, _, rfl, .inl hget, z.2, _, _, V.int (x : Int), rfl, rfl, SqL.here hat, atI_nat (j := 0) rfl, _, rfl, _, rfl, d, _, rfl, .inl hget, z.2, _, _, V.int (y : Int), rfl, rfl, SqL.here hat, atI_nat (j := 1) rfl, (show 4 ≤ sizeLine by decide), fun t nt => ?_⟩
        have k1 : ∀ {b : Addr} {o : HO}, b ≠ d → G b = some o → (upd (upd G'' t (.tup [.str "conflict", .int (z.1 : Int), .int (x : Int), .int (y : Int)])) d (.dK (A.map kA))) b = some o := fun {b o} n e => by
          rw [upd_ne n, upd_ne (ne_of_none (fat e n) nt)]
          exact fat e n
        have ntd : d ≠ t := ne_of_none hfz nt
        refine ⟨?_, qq (.ref t) _ (fun b o e n => ?_) (tabs_setK TG g.fd fun b o n e => k1 n e) (.conf t z.1 x y ?_ hC)⟩
        · rw [upd_ne ntd]
          exact hfz
        · exact k1 (ndw e n) (eG _ _ e n)
        · rw [upd_ne ntd.symm, upd_same]
          rfl
      · have c : ¬ (1 : Int) < (((secs m L z.1).map iV).length : Int) := fun z => c (decide_eq_true z)
        rw [List.length_map] at c
        refine ⟨_, rfl, rfl, fun j w' hj' hw' => ?_⟩
        rcases Nat.lt_or_ge j i with z' | z'
        · exact hj j w' z' hw'
        · have : j = i := by omega
          rw [this, hz] at hw'
          cases hw'
          omega
    · rintro σ G' ⟨x7, rfl, rfl, hj⟩
      rw [List.length_map] at hj
      have hall : ∀ z ∈ A, ¬ 1 < (secs m L z.1).length := fun z hz => by
        obtain ⟨j, hj1, hj2⟩ := List.mem_iff_getElem.mp hz
        exact hj j z hj1 (by rw [List.getElem?_eq_getElem hj1, hj2])
      obtain ⟨mF, mA, mM, mO⟩ := mapL_ok g (by omega) hS hall
      refine ⟨hfz, ?_⟩
      rw [und]
      refine ⟨d, _, g.fd, trivial, fun od2 => ?_⟩
      have hf2 : (upd G d (.frz od2 (.dK (A.map kA)))) d = some (.frz od2 (.dK (A.map kA))) := upd_same
      have lat2 : ∀ z ∈ A, (upd G d (.frz od2 (.dK (A.map kA)))) z.2 = some (.lst ((secs m L z.1).map iV)) := fun z hz => by
        have h1 := g.at_ z hz
        rw [upd_ne fun e => by rw [e, g.fd] at h1; cases h1]
        exact h1
      have fat2 : ∀ {b : Addr} {o : HO}, b ≠ d → G b = some o → (upd G d (.frz od2 (.dK (A.map kA)))) b = some o := fun {b o} n e => by rw [upd_ne n]; exact e
      generalize (upd G d (.frz od2 (.dK (A.map kA)))) = GF at *
      refine ⟨_, rfl, d, od2, rfl, .inl ⟨_, hf2, fun D nD => dc_it walk_keys (fun i G' => Same GF G' ∧ G' D = some (.dK (((mapL m L (A.take i)).map cI).map kII))) ⟨Same.new nD _, upd_same⟩ (fun i G' _ h => h.1 _ _ hf2) ?_ ?_⟩⟩
      · rintro i x G1 G2 hi ⟨sG, hD⟩ ⟨rfl, k, v, hkv, rfl⟩
        rw [List.getElem?_map] at hkv
        obtain ⟨z, hz, ez⟩ := Option.map_eq_some_iff.mp hkv
        have hzm := List.mem_of_getElem? hz
        have ek := congrArg Prod.fst ez
        have ek : (Sum.inl (z.1 : Int) : Key) = k := ek
        subst ek
        obtain ⟨u, hu⟩ := mO z hzm
        have hat := sG _ _ (lat2 z hzm)
        rw [hu] at hat
        have hget : ∃ kvs k', Rd G2 d (.dK kvs) ∧ L2.kV (Sum.inl (z.1 : Int)) = L2.kV k' ∧ some (V.ref z.2) = valV kvs k' := ⟨_, Sum.inl (z.1 : Int), .inr ⟨_, sG _ _ hf2⟩, rfl, (kA_at g.asc hzm).symm⟩
        have hi2 := (List.getElem?_eq_some_iff.mp hz).1
        have hlen : (((mapL m L (A.take i)).map cI).map kII).length < sizeLine := by
          rw [List.length_map, List.length_map]
          unfold mapL
          rw [List.length_map, List.length_take]
          exact Nat.lt_of_le_of_lt (show _ ≤ 144 by omega) (by decide)
        refine ⟨rfl, ?_⟩
        delta tYes
        simp only [if_true]
        refine ⟨_, rfl, _, rfl, _, rfl, d, _, rfl, .inl hget, z.2, _, _, V.int (u : Int), rfl, rfl, SqL.here hat, atI_nat (j := 0) rfl, _, Sum.inl (z.1 : Int), rfl, hD, hlen, fun b o e => ?_, ?_⟩
        · rw [upd_ne (ne_of_none e nD)]
          exact sG _ _ e
        · have etk : A.take (i + 1) = A.take i ++ [z] := by
            rw [List.take_add_one, hz]
            rfl
          have em : mapL m L (A.take (i + 1)) = mapL m L (A.take i) ++ [(z.1, u)] := by
            unfold mapL
            rw [etk, List.map_append]
            show _ ++ [(z.1, (secs m L z.1).headD 0)] = _
            rw [hu]
            rfl
          rw [upd_same, em, putK_cI]
          intro w' hw' e
          unfold mapL at hw'
          obtain ⟨z', hz', rfl⟩ := List.mem_map.mp hw'
          obtain ⟨j, hj, ej⟩ := List.mem_iff_getElem.mp hz'
          rw [List.getElem_take] at ej
          rw [List.length_take] at hj
          have := List.pairwise_iff_getElem.mp g.asc j i (by omega) hi2 (by omega)
          rw [ej, (List.getElem?_eq_some_iff.mp hz).2] at this
          have e : z'.1 = z.1 := e
          omega
      · rintro G1 ⟨sG, hD⟩
        rw [List.length_map, List.take_length] at hD
        refine ⟨sG _ _ hf2, (show 2 ≤ sizeLine by decide), fun t nt => ?_⟩
        have nDd : D ≠ d := fun e => by rw [e, hf2] at nD; cases nD
        have k1 : ∀ {b : Addr} {o : HO}, b ≠ d → G b = some o → (upd (upd G1 d (.dK (A.map kA))) t (.tup [.str "map", .ref D])) b = some o := fun {b o} n e => by
          have h2 : (upd G1 d (.dK (A.map kA))) b = some o := by
            rw [upd_ne n]
            exact sG _ _ (fat2 n e)
          rw [upd_ne (ne_of_none h2 nt)]
          exact h2
        have hD2 : (upd G1 d (.dK (A.map kA))) D = some (.dK (((mapL m L A).map cI).map kII)) := by rw [upd_ne nDd]; exact hD
        refine qq (.ref t) _ (fun b o e n => k1 (ndw e n) (eG _ _ e n)) (tabs_setK TG g.fd fun b o n e => k1 n e) (.map t D (mapL m L A) upd_same (by rw [upd_ne (ne_of_none hD2 nt)]; exact hD2) (fun b o e n => ne_of_none (fat2 (ndw e n) (eG _ _ e n)) nD) ?_ mF mA mM)
        unfold mapL
        rw [List.length_map]
        omega

abbrev s__law_draws : Stmt := top 25
theorem sc__law_draws : FnScope ["_law_script", "_law_salt", "_law_cell"] ["_law_script"] (defScope s__law_draws) := ⟨rfl, rfl, rfl, by decide +kernel, rfl, by decide +kernel, by decide +kernel⟩
theorem ok__law_draws (d : D K mg "_law_draws" s__law_draws ["_law_script"] f fd) (B : Blt mg) : FnOk P w K mg base CX0 1 f fd ["_law_script"] (spDraws K) := by
  refine d.F.ok sc__law_draws (fun vs H Q E h => ?_) (fun cdv A outer s H vs Q E hr h => ?_)
  · obtain ⟨a, ns, rfl, _⟩ := h
    rfl
  obtain ⟨a, ns, rfl, hS, q⟩ := h
  refine ⟨_, (pss_cons (ps_set (i := 1) sc__law_draws.nd rfl (Or.inl rfl) pe_int)
 (pss_cons (ps_for PassesOwn.never rfl (pi_list (pe_slice sl_list (pv 0) po_none (po_some pe_int))) (pg_name (i := 2) sc__law_draws.nd rfl (Or.inl rfl))
  (pss_one (ps_set (i := 1) sc__law_draws.nd rfl (Or.inl rfl) (pe_op op_mod (pe_op op_add (pe_op op_add (pe_op op_mul (pv 1) pe_int) (pe_op op_mod (pv 2) pe_int)) pe_int) pe_int))))
 (pss_one (ps_ret (pe_lst (pa_cons (pe_callTy call_list_of (by rfl) B.list (by decide +kernel) (pa_cons (pe_slice sl_list (pv 0) po_none (po_some pe_int)) pa_nil)) (pa_cons pe_int (pa_cons pe_int (pa_cons (pv 1) pa_nil))))))))), ?_⟩
  refine ⟨_, rfl, 63, rfl, a, _, rfl, hS, fun p hp => ?_⟩
  rw [cut63]
  have s1 : Same H (upd H p (.lst ((ns.take 63).map V.int))) := Same.new hp _
  refine ⟨p, rfl, ⟨_, SqL.here upd_same⟩, for_list (K := K) (a := p) (xs := (ns.take 63).map V.int) (fun i σ H' => ∃ (s : Int) (v : Option V), σ = [some (.ref a), some (.int s), v] ∧ 0 ≤ s ∧ s < 2147483647 ∧ H' = upd H p (.lst ((ns.take 63).map V.int)))
    ⟨9471, none, rfl, by decide, by decide, rfl⟩ (fun i σ H' _ ⟨_, _, _, _, _, e⟩ => by rw [e]; exact SqL.here upd_same) ?_ ?_⟩
  · rintro i x σ H' hi ⟨s, v, rfl, h0, h1, rfl⟩
    obtain ⟨u, rfl⟩ : ∃ u, x = V.int u := by
      rw [List.getElem?_map] at hi
      cases e : (ns.take 63)[i]? with
      | none =>
        rw [e] at hi
        cases hi
      | some u =>
        rw [e] at hi
        exact ⟨u, (Option.some.inj hi).symm⟩
    refine ⟨_, rfl, _, _, rfl, rfl, .inl ⟨by omega, by omega⟩, _, rfl, _, _, rfl, rfl, (by show (0 : Int) < 2147483587; decide), _, _, rfl, rfl, _, _, rfl, rfl, _, _, rfl, rfl, (by show (0 : Int) < 2147483647; decide), ?_⟩
    exact ⟨_, _, rfl, Int.emod_nonneg _ (by decide), Int.emod_lt_of_pos _ (by decide), rfl⟩
  · rintro σ H' ⟨s, v, rfl, h0, h1, rfl⟩
    refine ⟨_, rfl, 63, rfl, a, _, rfl, s1.seq hS, fun p2 hp2 => ?_⟩
    rw [cut63]
    have s2 := s1.trans (Same.new hp2 (.lst ((ns.take 63).map V.int)))
    refine ⟨p2, _, rfl, .inl (SqL.here upd_same), fun c hc => ?_⟩
    have s3 := s2.trans (Same.new hc (.lst ((ns.take 63).map V.int)))
    refine ⟨_, rfl, four_le, fun r hr' => ?_⟩
    have nrc : c ≠ r := fun e => by
      rw [← e, upd_same] at hr'
      cases hr'
    refine q r _ (s3.trans (Same.new hr' _)) (s3.free hr') ⟨c, ns.take 63, 0, 0, s, upd_same, ?_, nrc, by decide, by decide, h0, h1⟩
    rw [upd_ne nrc, upd_same]

abbrev s__law_draw : Stmt := top 26
theorem sc__law_draw : FnScope ["_law_rng", "_law_amount", "_law_cell", "_law_got", "_law_seed"] ["_law_rng", "_law_amount"] (defScope s__law_draw) := ⟨rfl, rfl, rfl, by decide +kernel, rfl, by decide +kernel, by decide +kernel⟩
theorem ok__law_drawC (d : D K mg "_law_draw" s__law_draw ["_law_rng", "_law_amount"] f fd) (B : Blt mg) : FnOk P w K mg base CX0 1 f fd ["_law_rng", "_law_amount"] spDrawC := by
  refine d.F.ok sc__law_draw (fun vs H Q E h => ?_) (fun cdv A outer s H vs Q E hr h => ?_)
  · obtain ⟨_, _, _, rfl, _⟩ := h
    rfl
  obtain ⟨r, n, c, rfl, ⟨ns, i, b, s, hR, hC, ncr, hi, hb, h0, h1⟩, hn, hn2, q⟩ := h
  refine ⟨_, (C8.pss_cut (ps_if (PW.pt (pw_and (pt_cmpR op_eq (pe_ix ix_list (pv 0) pe_int (fun _ _ => rfl)) pe_int (nomark _)) (pw_and1 (pt_cmpR op_lt (pe_ix ix_list (pv 0) pe_int (fun _ _ => rfl)) (pe_callB call_len_seq (by rfl) B.len PySem.boot_len (pa_cons (pe_ix ix_list (pv 0) pe_int (fun _ _ => rfl)) pa_nil)) (nomark _))))) (pss_cons (ps_set (i := 2) sc__law_draw.nd rfl (Or.inl rfl) (pe_ix ix_list (pe_ix ix_list (pv 0) pe_int (fun _ _ => rfl)) (pe_ix ix_list (pv 0) pe_int (fun _ _ => rfl)) (fun _ _ => rfl)))
 (pss_cons (ps_asg (pe_op op_add (pe_ix ix_list (pv 0) pe_int (fun _ _ => rfl)) pe_int) (pg_sub (pv 0) pe_int set_list))
 (pss_one (ps_if (pt_cmpR op_ge (pv 2) (pe_op op_pow pe_int pe_int) (nomark _)) (pss_one (ps_asg (pv 2) (pg_sub (pv 0) pe_int set_list))) (pss_one (ps_asg (pe_op op_mod (pe_op op_add (pe_op op_add (pe_op op_mul (pe_ix ix_list (pv 0) pe_int (fun _ _ => rfl)) pe_int) (pe_op op_mul (pe_op op_mod (pv 2) pe_int) pe_int)) pe_int) pe_int) (pg_sub (pv 0) pe_int set_list))))))) pss_nil)
 (pss_cons (ps_if (pt_cmpR op_gt (pe_ix ix_list (pv 0) pe_int (fun _ _ => rfl)) pe_int (nomark _)) (pss_cons (ps_set (i := 3) sc__law_draw.nd rfl (Or.inl rfl) (pe_op op_mod (pe_ix ix_list (pv 0) pe_int (fun _ _ => rfl)) (pv 1)))
 (pss_cons (ps_asg (pe_op op_fdiv (pe_ix ix_list (pv 0) pe_int (fun _ _ => rfl)) (pv 1)) (pg_sub (pv 0) pe_int set_list))
 (pss_one (ps_ret (pv 3))))) pss_nil)
 (pss_cons (ps_set (i := 4) sc__law_draw.nd rfl (Or.inl rfl) (pe_ix ix_list (pv 0) pe_int (fun _ _ => rfl)))
 (pss_cons (ps_asg (pe_op op_mod (pe_op op_add (pe_op op_add (pe_op op_mul (pv 4) pe_int) (pe_op op_mul (pe_op op_fdiv (pv 4) pe_int) pe_int)) pe_int) pe_int) (pg_sub (pv 0) pe_int set_list))
 (pss_one (ps_ret (pe_op op_mod (pe_op op_add (pe_op op_fdiv (pe_ix ix_list (pv 0) pe_int (fun _ _ => rfl)) pe_int) (pe_op op_mul (pe_op op_mod (pe_ix ix_list (pv 0) pe_int (fun _ _ => rfl)) pe_int) pe_int)) (pv 1)))))))), ?_⟩
  refine ⟨fun σ H1 => ∃ (i b s : Int) (cell : Option V), σ = [some (.ref r), some (.int n), cell, none, none] ∧ But r H H1 ∧ H1 r = some (.lst [.ref c, .int i, .int b, .int s]) ∧ H1 c = some (.lst (ns.map V.int)) ∧ 0 ≤ i ∧ 0 ≤ b ∧ 0 ≤ s ∧ s < 2147483647, ?_, ?_⟩
  · refine ⟨_, rfl, r, _, 2, _, rfl, rfl, SqL.here hR, rfl, rfl, _, rfl, ?_⟩
    refine ite2 (fun c1 => ?_) (fun c1 => ?_)
    · refine ⟨_, rfl, r, _, 1, _, rfl, rfl, SqL.here hR, rfl, _, rfl, r, _, 0, _, rfl, rfl, SqL.here hR, rfl, c, _, rfl, .inl (SqL.here hC), _, _, rfl, rfl, _, rfl, ?_⟩
      refine ite2 (fun c2 => ?_) (fun c2 => ?_)
      · have c3 : i < (((ns.map V.int).length : Nat) : Int) := of_decide_eq_true c2
        rw [List.length_map] at c3
        have hk : i.toNat < ns.length := by omega
        have ek : i = ((i.toNat : Nat) : Int) := by omega
        obtain ⟨u, q1⟩ : ∃ u, atI (ns.map V.int) i = some (.int u) := by
          refine ⟨ns[i.toNat], ?_⟩
          have q0 : atI (ns.map V.int) ((i.toNat : Nat) : Int) = some (.int ns[i.toNat]) := atI_nat (by rw [List.getElem?_map, List.getElem?_eq_getElem hk] <;> rfl)
          rw [← ek] at q0
          exact q0
        refine ⟨_, rfl, r, _, 0, _, rfl, rfl, SqL.here hR, rfl, _, rfl, r, _, 1, _, rfl, rfl, SqL.here hR, rfl, c, _, i, _, rfl, rfl, SqL.here hC, q1, ?_⟩
        -- rng[1] = rng[1] + 1
        refine ⟨_, rfl, r, _, 1, _, rfl, rfl, SqL.here hR, rfl, _, _, rfl, rfl, _, rfl, r, _, 1, 1, rfl, rfl, hR, rfl, ?_⟩
        have hC2 : (upd H r (.lst [.ref c, .int (i + 1), .int b, .int s])) c = some (.lst (ns.map V.int)) := by rw [upd_ne ncr]; exact hC
        refine ⟨_, rfl, _, _, rfl, rfl, ⟨by decide, by decide, by decide⟩, _, _, rfl, rfl, _, rfl, ?_⟩
        refine ite2 (fun c4 => ?_) (fun c4 => ?_)
        · have c5 : (10 : Int) ^ (18 : Int).toNat ≤ u := of_decide_eq_true c4
          have c6 : (0 : Int) ≤ (10 : Int) ^ (18 : Int).toNat := by decide
          refine ⟨_, rfl, _, rfl, r, _, 2, 2, rfl, rfl, upd_same, rfl, ?_⟩
          refine ⟨i + 1, u, s, _, rfl, But.set.trans But.set, upd_same, ?_, by omega, by omega, h0, h1⟩
          rw [upd_ne ncr]
          exact hC2
        · refine ⟨_, rfl, r, _, 3, _, rfl, rfl, SqL.here upd_same, rfl, _, _, rfl, rfl, .inl ⟨by omega, by omega⟩, _, rfl, _, _, rfl, rfl, (by show (0 : Int) < 2147483587; decide), _, _, rfl, rfl, .inl ⟨?_, ?_⟩, _, _, rfl, rfl, _, _, rfl, rfl, _, _, rfl, rfl, (by show (0 : Int) < 2147483647; decide), _, rfl, r, _, 3, 3, rfl, rfl, upd_same, rfl, ?_⟩
          · have := Int.emod_nonneg u (show (2147483587 : Int) ≠ 0 by decide)
            omega
          · have := Int.emod_lt_of_pos u (show (0 : Int) < 2147483587 by decide)
            omega
          · refine ⟨i + 1, b, _, _, rfl, But.set.trans But.set, upd_same, ?_, by omega, hb, Int.emod_nonneg _ (by decide), Int.emod_lt_of_pos _ (by decide)⟩
            rw [upd_ne ncr]
            exact hC2
      · exact ⟨i, b, s, none, rfl, fun _ _ _ h => h, hR, hC, hi, hb, h0, h1⟩
    · exact iteF ⟨i, b, s, none, rfl, fun _ _ _ h => h, hR, hC, hi, hb, h0, h1⟩
  · rintro σ H1 ⟨i, b, s, cell, rfl, e1, hR, hC, hi, hb, h0, h1⟩
    refine ⟨_, rfl, r, _, 2, _, rfl, rfl, SqL.here hR, rfl, _, _, rfl, rfl, _, rfl, ?_⟩
    refine ite2 (fun c1 => ?_) (fun c1 => ?_)
    · refine ⟨_, rfl, r, _, 2, _, rfl, rfl, SqL.here hR, rfl, _, rfl, _, _, rfl, rfl, hn, ?_⟩
      refine ⟨_, rfl, r, _, 2, _, rfl, rfl, SqL.here hR, rfl, _, rfl, _, _, rfl, rfl, ⟨hn, hn2⟩, _, rfl, r, _, 2, 2, rfl, rfl, hR, rfl, _, rfl, ?_⟩
      refine q _ _ (Int.emod_nonneg _ (by omega)) (Int.emod_lt_of_pos _ hn) ⟨ns, i, _, s, upd_same, ?_, ncr, hi, Int.ediv_nonneg hb (by omega), h0, h1⟩ (e1.trans But.set)
      rw [upd_ne ncr]
      exact hC
    · refine ⟨_, rfl, r, _, 3, _, rfl, rfl, SqL.here hR, rfl, ?_⟩
      refine ⟨_, rfl, _, _, rfl, rfl, .inl ⟨by omega, by omega⟩, _, rfl, _, _, rfl, rfl, ⟨by decide, by decide⟩, _, _, rfl, rfl, .inl ⟨?_, ?_⟩, _, _, rfl, rfl, _, _, rfl, rfl, _, _, rfl, rfl, (by show (0 : Int) < 2147483647; decide), _, rfl, r, _, 3, 3, rfl, rfl, hR, rfl, ?_⟩
      · have := Int.ediv_nonneg h0 (show (0 : Int) ≤ 65539 by decide)
        omega
      · have : s / 65539 ≤ s := Int.ediv_le_self _ h0
        omega
      · have z0 : 0 ≤ (s * 62089 + s / 65539 * 29 + 1013904223) % 2147483647 := Int.emod_nonneg _ (by decide)
        have z1 : (s * 62089 + s / 65539 * 29 + 1013904223) % 2147483647 < 2147483647 := Int.emod_lt_of_pos _ (by decide)
        refine ⟨_, rfl, r, _, 3, _, rfl, rfl, SqL.here upd_same, rfl, _, _, rfl, rfl, ⟨by decide, by decide⟩, _, rfl, r, _, 3, _, rfl, rfl, SqL.here upd_same, rfl, _, _, rfl, rfl, (by show (0 : Int) < 8191; decide), _, _, rfl, rfl, .inl ⟨?_, ?_⟩, _, _, rfl, rfl, _, rfl, _, _, rfl, rfl, hn, ?_⟩
        · have := Int.emod_nonneg ((s * 62089 + s / 65539 * 29 + 1013904223) % 2147483647) (show (8191 : Int) ≠ 0 by decide)
          omega
        · have := Int.emod_lt_of_pos ((s * 62089 + s / 65539 * 29 + 1013904223) % 2147483647) (show (0 : Int) < 8191 by decide)
          omega
        · refine q _ _ (Int.emod_nonneg _ (by omega)) (Int.emod_lt_of_pos _ hn) ⟨ns, i, b, _, upd_same, ?_, ncr, hi, hb, z0, z1⟩ (e1.trans But.set)
          rw [upd_ne ncr]
          exact hC
theorem ok__law_draw (d : D K mg "_law_draw" s__law_draw ["_law_rng", "_law_amount"] f fd) (B : Blt mg) : FnOk P w K mg base CX0 1 f fd ["_law_rng", "_law_amount"] spDraw := (ok__law_drawC d B).imp fun _ _ _ _ => spDraw_C

abbrev s__law_comb : Stmt := top 28
theorem sc__law_comb : FnScope ["_law_many", "_law_onleft", "_law_term_here", "_law_step"] ["_law_many", "_law_onleft"] (defScope s__law_comb) := ⟨rfl, rfl, rfl, by decide +kernel, rfl, by decide +kernel, by decide +kernel⟩
theorem ok__law_comb (d : D K mg "_law_comb" s__law_comb ["_law_many", "_law_onleft"] f fd) (B : Blt mg) : FnOk P w K mg base CX0 1 f fd ["_law_many", "_law_onleft"] (spComb K) := by
  refine d.F.ok sc__law_comb (fun vs H Q E h => ?_) (fun cdv A outer s H vs Q E hr h => ?_)
  · obtain ⟨_, _, rfl, _⟩ := h
    rfl
  obtain ⟨m, b, rfl, h1, h2, q⟩ := h
  refine ⟨_, (pss_cons (ps_set (i := 2) sc__law_comb.nd rfl (Or.inl rfl) (pe_tup pa_nil))
 (pss_cons (ps_for PassesOwn.never rfl (pi_range1 (by rfl) B.range (pa_cons (pe_op op_sub (pv 0) pe_int) pa_nil)) (pg_name (i := 3) sc__law_comb.nd rfl (Or.inl rfl))
  (pss_one (ps_set (i := 2) sc__law_comb.nd rfl (Or.inl rfl) (pe_ifExp (pt_truth (pv 1) (by intro _; rfl)) (pe_tup (pa_cons (pv 2) (pa_cons (pe_tup pa_nil) pa_nil))) (pe_tup (pa_cons (pe_tup pa_nil) (pa_cons (pv 2) pa_nil)))))))
 (pss_one (ps_ret (pv 2))))), ?_⟩
  refine ⟨zero_le', fun p hp => ?_⟩
  refine ⟨_, rfl, _, _, rfl, rfl, m - 1, rfl, by omega, by omega, for_range (lo := 0) (n := (m - 1).toNat) (fun i σ H' => ∃ (v : V) (t : Tree) (x : Option V), σ = [some (.int m), some (.bl b), some v, x] ∧ TA K H' v t ∧ t.sz = i + 1 ∧ t.dp = i ∧ Same H H')
    ⟨.ref p, .L, none, rfl, ta_leaf (SqT.here upd_same), rfl, rfl, Same.new hp _⟩ ?_ ?_⟩
  · rintro i σ H' hi ⟨v, t, x, rfl, ha, hz, hd, sm⟩
    refine ⟨_, rfl, b, rfl, ?_⟩
    refine ite2 (fun c => ?_) (fun c => ?_)
    · refine ⟨_, rfl, zero_le', fun p2 hp2 => ⟨two_le, fun p3 hp3 => ?_⟩⟩
      have s2 := Same.new hp2 (.tup [])
      have s3 := s2.trans (Same.new hp3 (.tup [v, .ref p2]))
      refine ⟨_, .N t .L, _, rfl, ta_node (SqT.here upd_same) (ta_mono (Tp.same s3) ha) (ta_mono (Tp.same (Same.new hp3 _)) (ta_leaf (SqT.here upd_same))), by show t.sz + 1 = _; omega, by show max t.dp 0 + 1 = _; omega, sm.trans s3⟩
    · refine ⟨zero_le', fun p2 hp2 => ⟨_, rfl, two_le, fun p3 hp3 => ?_⟩⟩
      have s2 := Same.new hp2 (.tup [])
      have s3 := s2.trans (Same.new hp3 (.tup [.ref p2, v]))
      refine ⟨_, .N .L t, _, rfl, ta_node (SqT.here upd_same) (ta_mono (Tp.same (Same.new hp3 _)) (ta_leaf (SqT.here upd_same))) (ta_mono (Tp.same s3) ha), by show 1 + t.sz = _; omega, by show max 0 t.dp + 1 = _; omega, sm.trans s3⟩
  · rintro σ H' ⟨v, t, x, rfl, ha, hz, hd, sm⟩
    refine ⟨_, rfl, q v t H' ha (by omega) (by omega) sm⟩

abbrev s__law_term : Stmt := top 27
theorem sc__law_term : FnScope ["_law_rng", "_law_many", "_law_cap", "_law_half", "_law_low", "_law_high", "_law_left"] ["_law_rng", "_law_many", "_law_cap"] (defScope s__law_term) := ⟨rfl, rfl, rfl, by decide +kernel, rfl, by decide +kernel, by decide +kernel⟩
theorem ok__law_termC {fr : Addr} {frd : FuncData} (d__law_term : D K mg "_law_term" s__law_term ["_law_rng", "_law_many", "_law_cap"] f fd) (B : Blt mg) (d__law_draw : D K mg "_law_draw" s__law_draw ["_law_rng", "_law_amount"] fr frd) : ∀ n : Nat, FnOk P w K mg base CX0 (n + 1) f fd ["_law_rng", "_law_many", "_law_cap"] (spTermC K n)
  | 0 => fn_none fun vs H Q E h => by
    obtain ⟨_, _, _, _, h, _⟩ := h
    omega
  | n + 1 => by
    have G__law_term := ok__law_termC d__law_term B d__law_draw n
    have G__law_draw : FnOk P w K mg base CX0 1 fr frd ["_law_rng", "_law_amount"] spDrawC := ok__law_drawC d__law_draw B
    refine d__law_term.F.ok sc__law_term (fun vs H Q E h => ?_) (fun cdv A outer s H vs Q E hr h => ?_)
    · obtain ⟨_, _, _, _, _, rfl, _⟩ := h
      rfl
    obtain ⟨r, many, k, cc, hk, rfl, h6, h1, h2, hR, q⟩ := h
    refine ⟨_, (pss_cons (ps_if (pt_cmpR op_lt (pv 1) pe_int (nomark _)) (pss_one (ps_ret (pe_tup pa_nil))) pss_nil)
 (pss_cons (ps_set (i := 3) sc__law_term.nd rfl (Or.inl rfl) (pe_op op_fdiv (pv 2) pe_int))
 (pss_cons (ps_par (i := 4) (j := 5) (by rfl) sc__law_term.nd rfl rfl (by decide) rfl rfl (pa_cons (pe_callB (call_max2 rfl) (by rfl) B.max (by decide +kernel) (pa_cons pe_int (pa_cons (pe_op op_sub (pv 1) (pv 3)) pa_nil))) (pa_cons (pe_callB (call_min2 rfl) (by rfl) B.min (by decide +kernel) (pa_cons (pe_op op_sub (pv 1) pe_int) (pa_cons (pv 3) pa_nil))) pa_nil)) (by rfl))
 (pss_cons (ps_set (i := 6) sc__law_term.nd rfl (Or.inl rfl) (pe_op op_add (pv 4) (pe_call G__law_draw (hr.mono (by omega)) rfl d__law_draw.m d__law_draw.F.kp d__law_draw.b .nil pass0 (pa_cons (pv 0) (pa_cons (pe_op op_add (pe_op op_sub (pv 5) (pv 4)) pe_int) pa_nil)))))
 (pss_one (ps_ret (pe_tup (pa_cons (pe_call G__law_term hr rfl d__law_term.m d__law_term.F.kp d__law_term.b .nil pass0 (pa_cons (pv 0) (pa_cons (pv 6) (pa_cons (pv 3) pa_nil)))) (pa_cons (pe_call G__law_term hr rfl d__law_term.m d__law_term.F.kp d__law_term.b .nil pass0 (pa_cons (pv 0) (pa_cons (pe_op op_sub (pv 1) (pv 6)) (pa_cons (pv 3) pa_nil)))) pa_nil))))))))), ?_⟩
    refine ⟨_, rfl, _, _, rfl, rfl, _, rfl, ?_⟩
    refine ite2 (fun c => ?_) (fun c => ?_)
    · have c' : many < 2 := of_decide_eq_true c
      refine ⟨zero_le', fun p hp => ?_⟩
      refine q _ .L _ (ta_leaf (SqT.here upd_same)) (by show ((1 : Nat) : Int) = many; omega) (Nat.zero_le _) (hR.same (Same.new hp _)) (But.same (Same.new hp _))
    · have c' : ¬ many < 2 := of_decide_eq_false (Bool.eq_false_iff.mpr c)
      cases k with
      | zero => exact absurd h2 (by show ¬ many ≤ 1; omega)
      | succ k =>
        have hp : (0 : Int) < 2 ^ k := Int.pow_pos (by decide)
        have hp6 : (2 : Int) ^ k ≤ 2 ^ 6 := by
          have : (2 : Nat) ^ k ≤ 2 ^ 6 := Nat.pow_le_pow_right (by decide) (by omega)
          exact_mod_cast this
        have e2 : (2 : Int) ^ (k + 1) = 2 * 2 ^ k := by rw [Int.pow_succ]; omega
        have eh : (2 : Int) ^ (k + 1) / 2 = 2 ^ k := by rw [e2]; omega
        refine ⟨_, rfl, _, _, rfl, rfl, ⟨by decide, by decide⟩, ?_⟩
        rw [e2] at h2
        generalize hh : (2 : Int) ^ (k + 1) / 2 = half at eh
        refine ⟨_, rfl, _, rfl, _, _, rfl, rfl, _, _, rfl, _, rfl, _, _, rfl, rfl, _, rfl, _, _, rfl, _, _, rfl, ?_⟩
        have el : ∀ a b : Int, (if a > b then a else b) = max b a := fun a b => by
          by_cases h : a > b
          · rw [if_pos h]; omega
          · rw [if_neg h]; omega
        have em : ∀ a b : Int, (if a < b then a else b) = min b a := fun a b => by
          by_cases h : a < b
          · rw [if_pos h]; omega
          · rw [if_neg h]; omega
        generalize hlo : (if many - (2 : Int) ^ (k + 1) / 2 > 1 then many - (2 : Int) ^ (k + 1) / 2 else 1) = lo
        generalize hhi : (if (2 : Int) ^ (k + 1) / 2 < many - 1 then (2 : Int) ^ (k + 1) / 2 else many - 1) = hi
        rw [el, hh, eh] at hlo
        rw [em, hh, eh] at hhi
        have p6 : (2 : Int) ^ 6 = 64 := by decide
        refine ⟨_, rfl, _, rfl, _, rfl, _, rfl, _, _, rfl, rfl, _, _, rfl, rfl, r, hi - lo + 1, cc, rfl, hR, by omega, by omega, fun v H1 v0 v1 R1 b1 => ?_⟩
        refine ⟨_, _, rfl, rfl, ?_⟩
        refine ⟨_, rfl, _, rfl, _, rfl, r, lo + v, k, cc, by omega, ?_, by omega, by omega, by omega, R1, fun x tx H2 a2 z2 d2 R2 b2 => ?_⟩
        · show [V.ref r, V.int (lo + v), V.int ((2 : Int) ^ (k + 1) / 2)] = _
          rw [hh, eh]
        refine ⟨_, rfl, _, rfl, _, rfl, _, _, rfl, rfl, _, rfl, r, many - (lo + v), k, cc, by omega, ?_, by omega, by omega, by omega, R2, fun y ty H3 a3 z3 d3 R3 b3 => ?_⟩
        · show [V.ref r, V.int (many - (lo + v)), V.int ((2 : Int) ^ (k + 1) / 2)] = _
          rw [hh, eh]
        refine ⟨two_le, fun p hp' => ?_⟩
        obtain ⟨ys, l2⟩ := R2.lst
        have sn := Same.new hp' (.tup [x, y])
        refine q _ (.N tx ty) _ (ta_node (SqT.here upd_same) (ta_mono (Tp.same sn) (ta_mono (Tp.but l2 b3) a2)) (ta_mono (Tp.same sn) a3)) ?_ ?_ (R3.same sn) (((b1.trans b2).trans b3).trans (But.same sn))
        · show ((tx.sz + ty.sz : Nat) : Int) = many
          omega
        · show max tx.dp ty.dp + 1 ≤ k + 1
          omega
theorem ok__law_term {fr : Addr} {frd : FuncData} (d__law_term : D K mg "_law_term" s__law_term ["_law_rng", "_law_many", "_law_cap"] f fd) (B : Blt mg) (d__law_draw : D K mg "_law_draw" s__law_draw ["_law_rng", "_law_amount"] fr frd) (n : Nat) : FnOk P w K mg base CX0 (n + 1) f fd ["_law_rng", "_law_many", "_law_cap"] (spTerm K n) := (ok__law_termC d__law_term B d__law_draw n).imp fun _ _ _ _ => spTerm_C

abbrev s__law_any_term : Stmt := top 29
theorem sc__law_any_term : FnScope ["_law_rng", "_law_top", "_law_way", "_law_many"] ["_law_rng", "_law_top"] (defScope s__law_any_term) := ⟨rfl, rfl, rfl, by decide +kernel, rfl, by decide +kernel, by decide +kernel⟩
theorem ok__law_any_termC {fr fc ft : Addr} {frd fcd ftd : FuncData} (d__law_any_term : D K mg "_law_any_term" s__law_any_term ["_law_rng", "_law_top"] f fd) (B : Blt mg) (d__law_draw : D K mg "_law_draw" s__law_draw ["_law_rng", "_law_amount"] fr frd)
    (d__law_comb : D K mg "_law_comb" s__law_comb ["_law_many", "_law_onleft"] fc fcd) (d__law_term : D K mg "_law_term" s__law_term ["_law_rng", "_law_many", "_law_cap"] ft ftd) : FnOk P w K mg base CX0 9 f fd ["_law_rng", "_law_top"] (spAnyC K) := by
  have G__law_draw : FnOk P w K mg base CX0 1 fr frd ["_law_rng", "_law_amount"] spDrawC := ok__law_drawC d__law_draw B
  have G__law_comb : FnOk P w K mg base CX0 1 fc fcd ["_law_many", "_law_onleft"] (spComb K) := ok__law_comb d__law_comb B
  have G__law_term : FnOk P w K mg base CX0 8 ft ftd ["_law_rng", "_law_many", "_law_cap"] (spTermC K 7) := ok__law_termC d__law_term B d__law_draw 7
  refine d__law_any_term.F.ok sc__law_any_term (fun vs H Q E h => ?_) (fun cdv A outer s H vs Q E hr h => ?_)
  · obtain ⟨_, _, _, rfl, _⟩ := h
    rfl
  obtain ⟨r, n, cc, rfl, h1, h2, hR, q⟩ := h
  refine ⟨_, (pss_cons (ps_par (i := 2) (j := 3) (by rfl) sc__law_any_term.nd rfl rfl (by decide) rfl rfl (pa_cons (pe_call G__law_draw (hr.mono (by decide)) rfl d__law_draw.m d__law_draw.F.kp d__law_draw.b .nil pass0 (pa_cons (pv 0) (pa_cons pe_int pa_nil))) (pa_cons (pe_op op_add pe_int (pe_call G__law_draw (hr.mono (by decide)) rfl d__law_draw.m d__law_draw.F.kp d__law_draw.b .nil pass0 (pa_cons (pv 0) (pa_cons (pv 1) pa_nil)))) pa_nil)) (by rfl))
 (pss_cons (ps_if (pt_cmpR op_lt (pv 2) pe_int (nomark _)) (pss_one (ps_ret (pe_call G__law_comb (hr.mono (by decide)) rfl d__law_comb.m d__law_comb.F.kp d__law_comb.b .nil pass0 (pa_cons (pe_callB (call_min2 rfl) (by rfl) B.min (by decide +kernel) (pa_cons (pv 3) (pa_cons pe_int pa_nil))) (pa_cons (pe_cmpR op_eq (pv 2) pe_int (nomark _)) pa_nil))))) pss_nil)
 (pss_one (ps_ret (pe_call G__law_term (hr.mono (by decide)) rfl d__law_term.m d__law_term.F.kp d__law_term.b .nil pass0 (pa_cons (pv 0) (pa_cons (pv 3) (pa_cons pe_int pa_nil)))))))), ?_⟩
  refine ⟨_, rfl, r, 8, cc, rfl, hR, by decide, by decide, fun way H1 w0 w1 R1 b1 => ?_⟩
  refine ⟨_, rfl, _, rfl, r, n, cc, rfl, R1, by omega, by omega, fun m H2 m0 m1 R2 b2 => ?_⟩
  have b12 := b1.trans b2
  refine ⟨_, _, rfl, rfl, _, _, rfl, ?_⟩
  refine ⟨_, rfl, _, _, rfl, rfl, _, rfl, ?_⟩
  refine ite2 (fun c => ?_) (fun c => ?_)
  · refine ⟨_, rfl, _, _, rfl, _, rfl, rfl, (if 7 < 1 + m then 7 else 1 + m), decide (V.int way = V.int 0), rfl, ?_, ?_, fun v t H3 a3 z3 d3 s3 => ?_⟩
    · split <;> omega
    · split <;> omega
    · refine q v t H3 a3 ?_ ?_ (R2.same s3) (b12.trans (But.same s3))
      · rw [z3]
        split <;> omega
      · have : (t.dp : Int) ≤ 6 := by
          rw [d3]
          split <;> omega
        omega
  · refine ⟨_, rfl, _, rfl, r, 1 + m, 6, cc, by decide, rfl, by decide, by omega, by show 1 + m ≤ 64; omega, R2, fun v t H3 a3 z3 d3 R3 b3 => ?_⟩
    exact q v t H3 a3 (by omega) d3 R3 (b12.trans b3)
theorem ok__law_any_term {fr fc ft : Addr} {frd fcd ftd : FuncData} (d__law_any_term : D K mg "_law_any_term" s__law_any_term ["_law_rng", "_law_top"] f fd) (B : Blt mg) (d__law_draw : D K mg "_law_draw" s__law_draw ["_law_rng", "_law_amount"] fr frd)
    (d__law_comb : D K mg "_law_comb" s__law_comb ["_law_many", "_law_onleft"] fc fcd) (d__law_term : D K mg "_law_term" s__law_term ["_law_rng", "_law_many", "_law_cap"] ft ftd) : FnOk P w K mg base CX0 9 f fd ["_law_rng", "_law_top"] (spAny K) := (ok__law_any_termC d__law_any_term B d__law_draw d__law_comb d__law_term).imp fun _ _ _ _ => spAny_C

abbrev s__law_table : Stmt := top 30
theorem sc__law_table : FnScope ["_law_big", "_law_many", "_law_step", "_law_rows", "_law_element", "_law_k"] ["_law_big"] (defScope s__law_table) := ⟨rfl, rfl, rfl, by decide +kernel, rfl, by decide +kernel, by decide +kernel⟩
theorem ok__law_table (d : D K mg "_law_table" s__law_table ["_law_big"] f fd) (B : Blt mg) : FnOk P w K mg base CX0 1 f fd ["_law_big"] spFull := by
  refine d.F.ok sc__law_table (fun vs H Q E h => ?_) (fun cdv A outer s H vs Q E hr h => ?_)
  · obtain ⟨_, rfl, _⟩ := h
    rfl
  obtain ⟨n, rfl, hn, q⟩ := h
  have g := good_tbs hn
  have g0 := g.pos
  have gl := g.len
  have hN := pow_le512 hn
  refine ⟨_, (pss_cons (ps_set (i := 1) sc__law_table.nd rfl (Or.inl rfl) pe_int)
 (pss_cons (ps_for PassesOwn.never rfl (pi_range1 (by rfl) B.range (pa_cons (pv 0) pa_nil)) (pg_name (i := 2) sc__law_table.nd rfl (Or.inl rfl))
  (pss_one (ps_set (i := 1) sc__law_table.nd rfl (Or.inl rfl) (pe_op op_mul (pv 1) pe_int))))
 (pss_cons (ps_setLc (i := 3) (own := [("_law_k", 5)]) (g := gName 5) (tt := tYes) (by rfl) sc__law_table.nd rfl rfl (sw_true rfl rfl rfl (by decide +kernel)) (pi_range1 (by rfl) B.range (pa_cons (pe_op op_add (pv 1) pe_int) pa_nil)) (blkOk_by (own := [("_law_k", 5)]) (N := ["_law_big", "_law_many", "_law_step", "_law_rows", "_law_element", "_law_k"]) (sc := defScope s__law_table) (by decide +kernel)) (fun _ _ _ _ _ => (pg_name (i := 5) sc__law_table.nd rfl (Or.inl rfl))) (fun _ _ _ _ _ => pts_nil) (fun _ _ _ _ _ => (pe_lst pa_nil)))
 (pss_cons (ps_asg (pe_listRg (by rfl) rfl B.list (prg_2 (by rfl) B.range pe_int (pe_op op_add (pv 1) pe_int))) (pg_sub (pv 3) (pv 1) set_list))
 (pss_cons (ps_for PassesOwn.never rfl (pi_range3 (by rfl) B.range (pa_cons (pe_op op_sub (pv 1) pe_int) (pa_cons pe_int (pa_cons (pe_un un_neg pe_int) pa_nil)))) (pg_name (i := 4) sc__law_table.nd rfl (Or.inl rfl))
  (pss_cons (ps_asg (pe_lst (pa_cons (pe_op op_add (pv 4) pe_int) pa_nil)) (pg_sub (pv 3) (pv 4) set_list))
 (pss_one (ps_while PassesOwn.never (pt_cmpR op_lt (pe_callB call_len_seq (by rfl) B.len PySem.boot_len (pa_cons (pe_ix ix_list (pv 3) (pv 4) (fun _ _ => rfl)) pa_nil)) (pv 1) (nomark _)) (pss_one (ps_expr (pe_bm PySem.F.plainAttrs_list PySem.F.slot_list_append PySem.F.type_list_append mt_append (pe_ix ix_list (pv 3) (pv 4) (fun _ _ => rfl)) (pa_cons (pe_ix ix_list (pe_ix ix_list (pv 3) (pe_ix ix_list (pe_ix ix_list (pv 3) (pv 4) (fun _ _ => rfl)) (pe_un un_neg pe_int) (fun _ _ => rfl)) (fun _ _ => rfl)) (pv 4) (fun _ _ => rfl)) pa_nil))))))))
 (pss_one (ps_ret (pv 3)))))))), ?_⟩
  refine ⟨_, rfl, _, rfl, by omega, by omega, for_range (lo := 0) (n := ((n : Int)).toNat) (fun i σ H' => ∃ x : Option V, σ = [some (.int n), some (.int ((2 ^ i : Nat) : Int)), x, none, none, none] ∧ H' = H) ⟨none, rfl, rfl⟩ ?_ ?_⟩
  · rintro i σ H' hi ⟨x, rfl, rfl⟩
    refine ⟨_, rfl, _, _, rfl, rfl, .inr ⟨by decide, by decide⟩, some (.int (0 + i)), ?_, rfl⟩
    show [some (V.int n), some (V.int (((2 ^ i : Nat) : Int) * 2)), some (V.int (0 + i)), none, none, none] = _
    rw [show ((2 ^ i : Nat) : Int) * 2 = ((2 ^ (i + 1) : Nat) : Int) by rw [Nat.pow_succ, Int.natCast_mul]; rfl]
  rintro σ H' ⟨x2, rfl, rfl⟩
  rw [show ((n : Int)).toNat = n by omega]
  generalize hNN : 2 ^ n = N at *
  generalize tbs n = T at *
  refine ⟨_, rfl, _, _, rfl, rfl, _, rfl, by omega, by omega, fun D hD => ?_⟩
  refine lc_range (lo := 0) (n := ((N : Int) + 1).toNat) (fun i G => Same H' G ∧ ∃ as : List Addr, G D = some (.lst (as.map V.ref)) ∧ as.length = i) ⟨Same.new hD _, [], upd_same, rfl⟩ ?_ ?_
  · rintro i G hi ⟨sG, as, hl, hlen⟩
    refine ⟨rfl, zero_le', fun p hp => ?_⟩
    refine ⟨_, Same.new hp _ _ _ hl, by rw [List.length_map, hlen]; exact small1000 (by omega), fun b o z => ?_, as ++ [p], by rw [upd_same, List.map_append]; rfl, by rw [List.length_append, hlen]; rfl⟩
    rw [upd_ne (ne_of_none z hD)]
    exact Same.new hp _ _ _ (sG _ _ z)
  rintro H2 ⟨s2, as, l2, hlen⟩
  have D0 : H' D = none := hD
  have fN : List.range' 1 N = fro T N N := by
    unfold fro
    have : ∀ x ∈ List.range' 1 N, opT T N x = x := fun x hx => by
      have := List.mem_range'_1.mp hx
      exact lv_top g (by omega) (by omega)
    rw [List.map_congr_left this, List.map_id']
  refine ⟨_, rfl, _, _, rfl, rfl, 1, _, rfl, rfl, RgOk.of_le (by omega) (by omega) (by omega) (by omega), fun rl hrl => ?_⟩
  rw [rgV_nts, fN]
  have s3 := s2.trans (Same.new hrl (.lst (nts (fro T N N))))
  have l3 := Same.new hrl (.lst (nts (fro T N N))) _ _ l2
  have m3 : (upd H2 rl (.lst (nts (fro T N N)))) rl = some (.lst (nts (fro T N N))) := upd_same
  have nl : rl ≠ D := fun z => by rw [z, l2] at hrl; cases hrl
  generalize (upd H2 rl (.lst (nts (fro T N N)))) = H3 at *
  refine ⟨_, rfl, _, rfl, D, _, _, N, rfl, rfl, l3, (by rw [List.length_map]; exact ixN_nat (by omega)), ?_⟩
  have R1 : RowsF (upd H3 D (.lst ((as.map V.ref).set N (.ref rl)))) D (as.set N rl) T N (N - 1) := by
    refine ⟨by rw [upd_same, List.map_set], by rw [List.length_set]; omega, fun i a h1 h2 => ?_⟩
    obtain ⟨z, _⟩ := List.getElem?_eq_some_iff.mp h2
    rw [List.length_set] at z
    obtain rfl : i = N := by omega
    rw [List.getElem?_set_self (by omega)] at h2
    cases h2
    rw [upd_ne nl]
    exact m3
  have s4 : Same H' (upd H3 D (.lst ((as.map V.ref).set N (.ref rl)))) := fun b o e => by
    rw [upd_ne (fun z => by rw [z, D0] at e; cases e)]
    exact s3 _ _ e
  generalize (upd H3 D (.lst ((as.map V.ref).set N (.ref rl)))) = H4 at *
  refine ⟨_, rfl, _, _, rfl, rfl, _, rfl, _, _, _, _, rfl, RgC.neg (by omega) (by omega) (by omega) (by omega), for_rangeC (lo := (N : Int) - 1) (c := -1) (n := ((N : Int) - 1 - 0).toNat) (fun i σ G => ∃ (as : List Addr) (x4 x5 : Option V), σ = [some (.int n), some (.int N), x2, some (.ref D), x4, x5] ∧ Same H' G ∧ RowsF G D as T N (N - 1 - i)) ⟨_, _, _, rfl, s4, R1⟩ ?_ ?_⟩
  · rintro i σ H5 hi ⟨as, x4, x5, rfl, s5, R5⟩
    obtain ⟨e, he⟩ : ∃ e, e = N - 1 - i := ⟨_, rfl⟩
    have he1 : 1 ≤ e := by omega
    have he2 : e < N := by omega
    rw [← he] at R5
    rw [show (N : Int) - 1 + (i : Int) * (-1) = (e : Int) by omega]
    refine ⟨_, rfl, _, _, rfl, rfl, one_le, fun p hp => ?_⟩
    have hp0 : H' p = none := s5.free hp
    have np : p ≠ D := (ne_of_none R5.l hp).symm
    have sp := Same.new hp (.lst [V.int ((e : Int) + 1)])
    have R6 := R5.same sp
    have lp : (upd H5 p (.lst [V.int ((e : Int) + 1)])) p = some (.lst (nts (fro T e 1))) := by
      rw [upd_same]
      show some (HO.lst [V.int ((e : Int) + 1)]) = some (HO.lst [V.int ((opT T e 1 : Nat) : Int)])
      rw [lv_one g he1 he2]
      rfl
    generalize (upd H5 p (.lst [V.int ((e : Int) + 1)])) = H6 at *
    refine ⟨_, rfl, _, rfl, D, _, _, e, rfl, rfl, R6.l, (by rw [List.length_map]; exact ixN_nat (by rw [R6.n]; omega)), ?_⟩
    have nq : ∀ i a, e < i → (as.set e p)[i]? = some a → as[i]? = some a := fun i a h1 h2 => by
      rw [List.getElem?_set_ne (by omega)] at h2
      exact h2
    have R7 : RowsF (upd H6 D (.lst ((as.map V.ref).set e (.ref p)))) D (as.set e p) T N e := ⟨by rw [upd_same, List.map_set], by rw [List.length_set]; exact R6.n, fun i a h1 h2 => by
      have h3 := nq i a h1 h2
      rw [upd_ne (R6.ne h1 h3)]
      exact R6.r i a h1 h3⟩
    have l7 : (upd H6 D (.lst ((as.map V.ref).set e (.ref p)))) p = some (.lst (nts (fro T e 1))) := by
      rw [upd_ne np]
      exact lp
    have nr : ∀ i a, e < i → (as.set e p)[i]? = some a → a ≠ p := fun i a h1 h2 => by
      have w := R5.r i a h1 (nq i a h1 h2)
      exact ne_of_none w hp
    have gp : (as.set e p)[e]? = some p := List.getElem?_set_self (by rw [R6.n]; omega)
    have s7 : Same H' (upd H6 D (.lst ((as.map V.ref).set e (.ref p)))) := fun b o z => by
      rw [upd_ne (fun y => by rw [y, D0] at z; cases z)]
      exact sp _ _ (s5 _ _ z)
    generalize as.set e p = bs at *
    generalize (upd H6 D (.lst ((as.map V.ref).set e (.ref p)))) = H7 at *
    refine ⟨fun m σ G => ∃ j : Nat, 1 ≤ j ∧ j ≤ N ∧ m = N - j ∧ σ = [some (.int n), some (.int N), x2, some (.ref D), some (.int e), x5] ∧ But p H7 G ∧ G p = some (.lst (nts (fro T e j))), ⟨_, 1, Nat.le_refl _, g0, rfl, rfl, fun _ _ _ h => h, l7⟩, ?_⟩
    rintro m σ G ⟨j, j1, j2, rfl, rfl, bG, lG⟩
    have RG := R7.but bG nr np.symm
    have hat : atI (bs.map V.ref) (e : Int) = some (V.ref p) := atI_nat (by rw [List.getElem?_map, gp]; rfl)
    refine ⟨_, rfl, _, rfl, D, _, _, .ref p, rfl, rfl, SqL.of RG.l, hat, p, _, rfl, .inl (SqL.here lG), ?_⟩
    rw [nts_len, fro_len]
    refine ⟨_, rfl, _, _, rfl, rfl, _, rfl, ?_⟩
    by_cases c : j < N
    · refine ite_yes (decide_eq_true (by omega)) ⟨fun σ G => σ = [some (.int n), some (.int N), x2, some (.ref D), some (.int e), x5] ∧ But p H7 G ∧ G p = some (.lst (nts (fro T e (j + 1)))), fun σ' H'' h => ⟨N - (j + 1), by omega, j + 1, by omega, by omega, rfl, h⟩, ?_⟩
      have og := lv_gt (b := j) g he1 he2
      obtain ⟨a, ha⟩ : ∃ a, bs[opT T e j]? = some a := ⟨_, List.getElem?_eq_getElem (by rw [RG.n]; omega)⟩
      have hrow := RG.r _ a (by omega) ha
      obtain ⟨j', rfl⟩ : ∃ j', j = j' + 1 := ⟨j - 1, by omega⟩
      have lG' : G p = some (.lst (nts (fro T e j') ++ [V.int ((opT T e (j' + 1) : Nat) : Int)])) := by
        rw [lG, fro_suc]
        unfold nts
        rw [List.map_append]
        rfl
      refine ⟨_, rfl, _, rfl, D, _, _, .ref p, rfl, rfl, SqL.of RG.l, hat, .inl ⟨rfl, _, SqL.here lG⟩, _, rfl, _, rfl, _, rfl, D, _, _, .ref p, rfl, rfl, SqL.of RG.l, hat, _, rfl, p, _, _, _, rfl, rfl, SqL.here lG', atI_last _ _, D, _, _, .ref a, rfl, rfl, SqL.of RG.l, atI_nat (by rw [List.getElem?_map, ha]; rfl), _, rfl, a, _, _, _, rfl, rfl, SqL.of hrow, atI_nat (fro_get (j := e + 1) (by omega) (by omega)), p, _, _, rfl, rfl, lG, ?_, rfl, bG.trans But.set, ?_⟩
      · rw [nts_len, fro_len]
        exact small1000 (by omega)
      · have eS := lv_suc g he1 he2 (b := j' + 1) (by omega)
        rw [upd_same, fro_suc T e (j' + 1), eS]
        unfold nts
        rw [List.map_append]
        rfl
    · obtain rfl : j = N := by omega
      refine ite_no (decide_eq_false (by omega)) ⟨bs, _, _, rfl, fun b o z => bG _ _ (fun y => by rw [y, hp0] at z; cases z) (s7 _ _ z), RG.l, RG.n, fun i' a h1 h2 => ?_⟩
      by_cases ci : i' = e
      · rw [ci, gp] at h2
        cases h2
        rw [ci]
        exact lG
      · exact RG.r i' a (by omega) h2
  · rintro σ H5 ⟨as, x4, x5, rfl, s5, R5⟩
    refine ⟨_, rfl, q D as _ s5 D0 ?_⟩
    rw [show N - 1 - ((N : Int) - 1 - 0).toNat = 0 by omega] at R5
    exact R5

abbrev s__law_any_model : Stmt := top 31
theorem sc__law_any_model : FnScope ["_law_rng", "_law_top", "_law_way", "_law_many", "_law_numbers", "_law_step", "_law_rows", "_law_a", "_law_row", "_law_b", "_law_value"] ["_law_rng", "_law_top"] (defScope s__law_any_model) := ⟨rfl, rfl, rfl, by decide +kernel, rfl, by decide +kernel, by decide +kernel⟩
theorem ok__law_any_model {f1 f2 : Addr} {e1 e2 : FuncData} (d : D K mg "_law_any_model" s__law_any_model ["_law_rng", "_law_top"] f fd) (B : Blt mg) (d__law_draw : D K mg "_law_draw" s__law_draw ["_law_rng", "_law_amount"] f1 e1) (d__law_table : D K mg "_law_table" s__law_table ["_law_big"] f2 e2) : FnOk P w K mg base CX0 2 f fd ["_law_rng", "_law_top"] (spAnyM K) := by
  have G__law_draw : FnOk P w K mg base CX0 1 f1 e1 ["_law_rng", "_law_amount"] spDrawC := ok__law_drawC d__law_draw B
  have G__law_table : FnOk P w K mg base CX0 1 f2 e2 ["_law_big"] spFull := ok__law_table d__law_table B
  refine d.F.ok sc__law_any_model (fun vs H Q E h => ?_) (fun cdv A outer s H vs Q E hr h => ?_)
  · obtain ⟨_, _, _, rfl, _⟩ := h
    rfl
  obtain ⟨r, c, top, rfl, R0, t1, t2, q⟩ := h
  refine ⟨_, (pss_cons (ps_asg (pe_tup (pa_cons (pe_call G__law_draw (hr.mono (by decide)) rfl d__law_draw.m d__law_draw.F.kp d__law_draw.b .nil pass0 (pa_cons (pv 0) (pa_cons pe_int pa_nil))) (pa_cons (pe_op op_add pe_int (pe_call G__law_draw (hr.mono (by decide)) rfl d__law_draw.m d__law_draw.F.kp d__law_draw.b .nil pass0 (pa_cons (pv 0) (pa_cons (pv 1) pa_nil)))) pa_nil))) (pg_tup (by rfl) (pgs_cons (pg_name (i := 2) sc__law_any_model.nd rfl (Or.inl rfl)) (pgs_cons (pg_name (i := 3) sc__law_any_model.nd rfl (Or.inr rfl)) pgs_nil))))
 (pss_cons (ps_set (i := 4) sc__law_any_model.nd rfl (Or.inr rfl) (pe_listRg (by rfl) rfl B.list (prg_1 (by rfl) B.range (pv 3))))
 (pss_cons (ps_set (i := 5) sc__law_any_model.nd rfl (Or.inr rfl) (pe_call G__law_draw (hr.mono (by decide)) rfl d__law_draw.m d__law_draw.F.kp d__law_draw.b .nil pass0 (pa_cons (pv 0) (pa_cons (pv 3) pa_nil))))
 (C8.pss_cut (ps_if (pt_cmpR op_lt (pv 2) pe_int (nomark _)) (pss_one (ps_setLc (i := 6) (own := [("_law_a", 7)]) (g := gName 7) (tt := tYes) (by rfl) sc__law_any_model.nd rfl rfl (sw_true rfl rfl rfl (by decide +kernel)) (pi_list (pv 4)) (blkOk_by (own := [("_law_a", 7)]) (N := ["_law_rng", "_law_top", "_law_way", "_law_many", "_law_numbers", "_law_step", "_law_rows", "_law_a", "_law_row", "_law_b", "_law_value"]) (sc := defScope s__law_any_model) (by decide +kernel)) (fun _ _ _ _ _ => (pg_name (i := 7) sc__law_any_model.nd rfl (Or.inr rfl))) (fun _ _ _ _ _ => pts_nil) (fun _ _ _ _ _ => (pe_lc (own := [("_law_b", 9)]) (g := gName 9) (tt := tYes) (wi := iList K (tVar 4)) (by rfl) sc__law_any_model.nd (pi_list (pv 4)) (blkOk_by (own := [("_law_b", 9)]) (N := ["_law_rng", "_law_top", "_law_way", "_law_many", "_law_numbers", "_law_step", "_law_rows", "_law_a", "_law_row", "_law_b", "_law_value"]) (sc := { kind := .function, names := [(".0", .local), ("_law_a", .cell), ("_law_many", .cell), ("_law_numbers", .cell), ("_law_step", .cell)], isGenerator := false, isCoroutine := false }) (by decide +kernel)) (fun _ _ _ _ _ => (pg_name (i := 9) sc__law_any_model.nd rfl (Or.inl rfl))) (fun _ _ _ _ _ => pts_nil) (fun _ _ _ _ _ => (pe_op op_mod (pe_op op_add (pv 7) (pe_op op_mul (pv 5) (pe_op op_sub (pv 9) (pv 7)))) (pv 3))))))) (pss_one (ps_if (pt_cmpR op_eq (pv 2) pe_int (nomark _)) (pss_one (ps_setLc (i := 6) (own := [("_law_row", 8)]) (g := gName 8) (tt := tYes) (by rfl) sc__law_any_model.nd rfl rfl (sw_true rfl rfl rfl (by decide +kernel)) (pi_list (pe_slice sl_list (pe_call G__law_table (hr.mono (by decide)) rfl d__law_table.m d__law_table.F.kp d__law_table.b .nil pass0 (pa_cons (pe_op op_mod (pv 5) pe_int) pa_nil)) (po_some pe_int) po_none)) (blkOk_by (own := [("_law_row", 8)]) (N := ["_law_rng", "_law_top", "_law_way", "_law_many", "_law_numbers", "_law_step", "_law_rows", "_law_a", "_law_row", "_law_b", "_law_value"]) (sc := defScope s__law_any_model) (by decide +kernel)) (fun _ _ _ _ _ => (pg_name (i := 8) sc__law_any_model.nd rfl (Or.inl rfl))) (fun _ _ _ _ _ => pts_nil) (fun _ _ _ _ _ => (pe_lc (own := [("_law_value", 10)]) (g := gName 10) (tt := tYes) (wi := iList K (tVar 8)) (by rfl) sc__law_any_model.nd (pi_list (pv 8)) (blkOk_by (own := [("_law_value", 10)]) (N := ["_law_rng", "_law_top", "_law_way", "_law_many", "_law_numbers", "_law_step", "_law_rows", "_law_a", "_law_row", "_law_b", "_law_value"]) (sc := { kind := .function, names := [(".0", .local), ("_law_row", .local)], isGenerator := false, isCoroutine := false }) (by decide +kernel)) (fun _ _ _ _ _ => (pg_name (i := 10) sc__law_any_model.nd rfl (Or.inl rfl))) (fun _ _ _ _ _ => pts_nil) (fun _ _ _ _ _ => (pe_op op_sub (pv 10) pe_int)))))) (pss_one (ps_if (pt_cmpR op_eq (pv 2) pe_int (nomark _)) (pss_one (ps_setLc (i := 6) (own := [("_law_a", 7)]) (g := gName 7) (tt := tYes) (by rfl) sc__law_any_model.nd rfl rfl (sw_true rfl rfl rfl (by decide +kernel)) (pi_list (pv 4)) (blkOk_by (own := [("_law_a", 7)]) (N := ["_law_rng", "_law_top", "_law_way", "_law_many", "_law_numbers", "_law_step", "_law_rows", "_law_a", "_law_row", "_law_b", "_law_value"]) (sc := defScope s__law_any_model) (by decide +kernel)) (fun _ _ _ _ _ => (pg_name (i := 7) sc__law_any_model.nd rfl (Or.inl rfl))) (fun _ _ _ _ _ => pts_nil) (fun _ _ _ _ _ => (pv 4)))) (pss_one (ps_if (pt_cmpR op_eq (pv 2) pe_int (nomark _)) (pss_one (ps_setLc (i := 6) (own := [("_law_a", 7)]) (g := gName 7) (tt := tYes) (by rfl) sc__law_any_model.nd rfl rfl (sw_true rfl rfl rfl (by decide +kernel)) (pi_list (pv 4)) (blkOk_by (own := [("_law_a", 7)]) (N := ["_law_rng", "_law_top", "_law_way", "_law_many", "_law_numbers", "_law_step", "_law_rows", "_law_a", "_law_row", "_law_b", "_law_value"]) (sc := defScope s__law_any_model) (by decide +kernel)) (fun _ _ _ _ _ => (pg_name (i := 7) sc__law_any_model.nd rfl (Or.inl rfl))) (fun _ _ _ _ _ => pts_nil) (fun _ _ _ _ _ => (pe_lc (own := [("_law_b", 9)]) (g := gName 9) (tt := tYes) (wi := iList K (tVar 4)) (by rfl) sc__law_any_model.nd (pi_list (pv 4)) (blkOk_by (own := [("_law_b", 9)]) (N := ["_law_rng", "_law_top", "_law_way", "_law_many", "_law_numbers", "_law_step", "_law_rows", "_law_a", "_law_row", "_law_b", "_law_value"]) (sc := { kind := .function, names := [(".0", .local), ("_law_a", .local), ("_law_many", .cell), ("_law_numbers", .cell), ("_law_step", .cell)], isGenerator := false, isCoroutine := false }) (by decide +kernel)) (fun _ _ _ _ _ => (pg_name (i := 9) sc__law_any_model.nd rfl (Or.inl rfl))) (fun _ _ _ _ _ => pts_nil) (fun _ _ _ _ _ => (pe_op op_mod (pe_op op_add (pv 9) (pv 5)) (pv 3))))))) (pss_one (ps_setLc (i := 6) (own := [("_law_a", 7)]) (g := gName 7) (tt := tYes) (by rfl) sc__law_any_model.nd rfl rfl (sw_true rfl rfl rfl (by decide +kernel)) (pi_list (pv 4)) (blkOk_by (own := [("_law_a", 7)]) (N := ["_law_rng", "_law_top", "_law_way", "_law_many", "_law_numbers", "_law_step", "_law_rows", "_law_a", "_law_row", "_law_b", "_law_value"]) (sc := defScope s__law_any_model) (by decide +kernel)) (fun _ _ _ _ _ => (pg_name (i := 7) sc__law_any_model.nd rfl (Or.inl rfl))) (fun _ _ _ _ _ => pts_nil) (fun _ _ _ _ _ => (pe_lc (own := [("_law_b", 9)]) (g := gName 9) (tt := tYes) (wi := iList K (tVar 4)) (by rfl) sc__law_any_model.nd (pi_list (pv 4)) (blkOk_by (own := [("_law_b", 9)]) (N := ["_law_rng", "_law_top", "_law_way", "_law_many", "_law_numbers", "_law_step", "_law_rows", "_law_a", "_law_row", "_law_b", "_law_value"]) (sc := { kind := .function, names := [(".0", .local), ("_law_a", .local), ("_law_many", .cell), ("_law_numbers", .cell), ("_law_rng", .cell)], isGenerator := false, isCoroutine := false }) (by decide +kernel)) (fun _ _ _ _ _ => (pg_name (i := 9) sc__law_any_model.nd rfl (Or.inl rfl))) (fun _ _ _ _ _ => pts_nil) (fun _ _ _ _ _ => (pe_call G__law_draw (hr.mono (by decide)) rfl d__law_draw.m d__law_draw.F.kp d__law_draw.b .nil pass0 (pa_cons (pv 0) (pa_cons (pv 3) pa_nil)))))))))))))))
 (pss_one (ps_ret (pe_callTy call_tuple_of (by rfl) B.tuple (by decide +kernel) (pa_cons (pe_lc (own := [("_law_row", 8)]) (g := gName 8) (tt := tYes) (by rfl) sc__law_any_model.nd (pi_list (pv 6)) (blkOk_by (own := [("_law_row", 8)]) (N := ["_law_rng", "_law_top", "_law_way", "_law_many", "_law_numbers", "_law_step", "_law_rows", "_law_a", "_law_row", "_law_b", "_law_value"]) (sc := defScope s__law_any_model) (by decide +kernel)) (fun _ _ _ _ _ => (pg_name (i := 8) sc__law_any_model.nd rfl (Or.inl rfl))) (fun _ _ _ _ _ => pts_nil) (fun _ _ _ _ _ => (pe_callTy (r := rTupOf K) (T := "tuple") call_tupK (by rfl) B.tuple (by decide +kernel) (pa_cons (pv 8) pa_nil)))) pa_nil)))))))), ?_⟩
  refine ⟨_, rfl, r, 6, c, rfl, R0, by decide, by decide, fun way H1 y0 y1 R1 b1 => ?_⟩
  refine ⟨_, rfl, _, rfl, r, top, c, rfl, R1, by omega, by omega, fun m1 H2' z0 z1 R2' b2' => ⟨_, _, rfl, rfl, two_le, fun pt npt => ?_⟩⟩
  have sp := Same.new npt (.tup [.int way, .int (1 + m1)])
  have R2 := R2'.same sp
  have b2 := b2'.trans (But.same sp)
  refine ⟨pt, _, rfl, SqT.here upd_same, rfl, _, _, rfl, _, _, rfl, rfl, ?_⟩
  generalize (upd H2' pt (.tup [.int way, .int (1 + m1)])) = H2 at *
  obtain ⟨N, hN⟩ : ∃ N : Nat, 1 + m1 = (N : Int) := ⟨(1 + m1).toNat, by omega⟩
  have n1 : 1 ≤ N := by omega
  have n2 : N ≤ 12 := by omega
  refine ⟨_, rfl, _, rfl, RgOk.of_le (by omega) (by omega) (by omega) (by omega), fun l nl => ?_⟩
  have s3 := Same.new nl (.lst (rgV 0 (1 + m1)))
  have R3 := R2.same s3
  have l3 : (upd H2 l (.lst (rgV 0 (1 + m1)))) l = some (.lst (rgV 0 (1 + m1))) := upd_same
  have nlr : l ≠ r := (R2.ne nl).1
  have b3 : But r H (upd H2 l (.lst (rgV 0 (1 + m1)))) := (b1.trans b2).trans (But.same s3)
  generalize (upd H2 l (.lst (rgV 0 (1 + m1)))) = H3 at *
  refine ⟨_, rfl, _, rfl, r, _, c, rfl, R3, by omega, by omega, fun st H4 w0 w1 R4 b4 => ?_⟩
  have l4 := b4 _ _ nlr l3
  have b4' := b3.trans b4
  have hlen : (rgV 0 (1 + m1)).length = N := by rw [rgV_length]; omega
  obtain ⟨ns, hns, hnv⟩ : ∃ ns : List Int, rgV 0 (1 + m1) = ns.map V.int ∧ ∀ v ∈ ns, 0 ≤ v ∧ v < 1 + m1 := ⟨_, rgV_ints _, fun v hv => rg_mem hv⟩
  have hnl : ns.length = N := by rw [← hlen, hns, List.length_map]
  refine ⟨fun σ G => ∃ (D : Addr) (qs : List Addr) (rows : List (List Int)) (x7 x8 x9 x10 : Option V), σ = [some (.ref r), some (.int top), some (.int way), some (.int (1 + m1)), some (.ref l), some (.int st), some (.ref D), x7, x8, x9, x10] ∧ RngC G r c ∧ But r H G ∧ (∃ M : Nat, 1 ≤ M ∧ M ≤ 12 ∧ RowsL G D M qs rows ∧ rows.length = M), ?_, ?_⟩
  · refine ⟨_, rfl, _, _, rfl, rfl, _, rfl, ?_⟩
    refine ite2 (fun c1 => ?_) (fun c1 => ?_)
    · refine ⟨_, rfl, l, rfl, ⟨_, SqL.here l4⟩, fun D hD => ?_⟩
      have nD := R4.ne hD
      have nDl : D ≠ l := fun z => by rw [z, l4] at hD; cases hD
      refine lc_list (K := K) (a := l) (xs := rgV 0 (1 + m1)) (fun i G => RngC G r c ∧ But r H4 G ∧ ∃ (qs : List Addr) (rows : List (List Int)), RowsL G D N qs rows ∧ rows.length = i ∧ (∀ (j : Nat) (q : Addr), qs[j]? = some q → q ≠ r)) ⟨R4.same (Same.new hD _), But.same (Same.new hD _), [], [], ⟨upd_same, rfl, (fun _ hn => nomatch hn), fun j q rw k => nomatch k⟩, rfl, fun j q k => nomatch k⟩ (fun i G _ z => SqL.here (z.2.1 _ _ nlr l4)) ?_ ?_
      · rintro i x G hx ⟨RG, bG, qs, rows, L, hi, nr⟩
        have lG := bG _ _ nlr l4
        obtain ⟨v, _, rfl⟩ := mem_int (show x ∈ ns.map V.int by rw [← hns]; exact List.mem_of_getElem? hx)
        refine ⟨rfl, _, rfl, l, rfl, ⟨_, SqL.here lG⟩, fun D2 hD2 => ?_⟩
        refine lc_mapL (ψ := fun u => .int ((v + st * (vInt u - v)) % (1 + m1))) hD2 (SqL.here lG) (by rw [hlen]; omega) (fun u G' R hu sm k => ?_) (fun G' sm hg => ?_)
        · obtain ⟨u, _, rfl⟩ := mem_int (show u ∈ ns.map V.int by rw [← hns]; exact hu)
          exact ⟨rfl, _, rfl, _, rfl, _, rfl, _, rfl, _, _, rfl, rfl, _, _, rfl, rfl, .inl ⟨by omega, by omega⟩, _, _, rfl, rfl, _, rfl, _, _, rfl, rfl, by omega, k G' (Same.refl _)⟩
        · rw [hns, map_int (ψ := fun u => V.int ((v + st * (u - v)) % (1 + m1)))] at hg
          have hg' : G' D2 = some (.lst ((ns.map fun u => (v + st * (u - v)) % (1 + m1)).map V.int)) := by rw [hg, List.map_map]; rfl
          refine ⟨_, sm _ _ L.l, by rw [List.length_map, L.n, hi]; exact small1000 (by obtain ⟨z, _⟩ := List.getElem?_eq_some_iff.mp hx; rw [hlen] at z; omega), (RG.same sm).set nD, fun b o nb z => ?_, _, _, L.step (But.same (r := r) sm) nD.1 nr hD2 hg' (rowF (by rw [← hnl]) fun u => ?_), by rw [List.length_append, hi]; rfl, fun j q k => ?_⟩
          · rw [upd_ne (ne_of_none z hD)]
            exact sm _ _ (bG _ _ nb z)
          · have h1 := Int.emod_nonneg (v + st * (u - v)) (show (1 + m1) ≠ 0 by omega)
            have h2 := Int.emod_lt_of_pos (v + st * (u - v)) (show 0 < 1 + m1 by omega)
            omega
          · rcases Nat.lt_or_ge j qs.length with z | z
            · rw [List.getElem?_append_left z] at k
              exact nr j q k
            · rw [List.getElem?_append_right z] at k
              have := List.mem_of_getElem? k
              rw [List.mem_singleton.mp this]
              exact (RG.ne hD2).1
      · rintro G ⟨RG, bG, qs, rows, L, hi, nr⟩
        exact ⟨D, qs, rows, _, _, _, _, rfl, RG, b4'.trans bG, N, n1, n2, L, hi.trans hlen⟩
    · refine ⟨_, rfl, rfl, _, rfl, ?_⟩
      refine ite2 (fun c2 => ?_) (fun c2 => ?_)
      · obtain ⟨k, hk⟩ : ∃ k : Nat, st % 3 = (k : Int) := ⟨(st % 3).toNat, by omega⟩
        have k9 : k ≤ 2 := by omega
        refine ⟨_, rfl, _, _, rfl, rfl, (by omega), k, (by show [V.int (st % 3)] = _; rw [hk]), by omega, fun ra as H5 s5 _ B5 => ?_⟩
        have gd := good_tbs (show k ≤ 9 by omega)
        have p4 : 2 ^ k ≤ 4 := Nat.pow_le_pow_right (by decide) k9
        have p0 := gd.pos
        refine ⟨_, rfl, ra, _, rfl, SqL.of B5.l, fun p np => ?_⟩
        have ec : cutV (as.map V.ref) (some 1) none = (as.map V.ref).drop 1 := cut_sufM (j := 1) (by rw [List.length_map, B5.n]; omega)
        rw [ec]
        have s6 := Same.new np (.lst ((as.map V.ref).drop 1))
        have lp : (upd H5 p (.lst ((as.map V.ref).drop 1))) p = some (.lst ((as.map V.ref).drop 1)) := upd_same
        have R6 := R4.same (s5.trans s6)
        have B6 := B5.same s6
        have npr : p ≠ r := ((R4.same s5).ne np).1
        have b6 := b4'.trans (But.same (s5.trans s6))
        generalize (upd H5 p (.lst ((as.map V.ref).drop 1))) = H6 at *
        refine ⟨p, rfl, ⟨_, SqL.here lp⟩, fun D hD => ?_⟩
        have nD := R6.ne hD
        have hlx : ((as.map V.ref).drop 1).length = 2 ^ k := by rw [List.length_drop, List.length_map, B6.n]; omega
        refine lc_list (K := K) (a := p) (xs := (as.map V.ref).drop 1) (fun i G => RngC G r c ∧ But r H6 G ∧ ∃ (qs : List Addr) (rows : List (List Int)), RowsL G D (2 ^ k) qs rows ∧ rows.length = i ∧ (∀ (j : Nat) (q : Addr), qs[j]? = some q → q ≠ r)) ⟨R6.same (Same.new hD _), But.same (Same.new hD _), [], [], ⟨upd_same, rfl, (fun _ hn => nomatch hn), fun j q rw k => nomatch k⟩, rfl, fun j q k => nomatch k⟩ (fun i G _ z => SqL.here (z.2.1 _ _ npr lp)) ?_ ?_
        · rintro i x G hx ⟨RG, bG, qs, rows, L, hi, nr⟩
          have hil : i < 2 ^ k := by
            obtain ⟨z, _⟩ := List.getElem?_eq_some_iff.mp hx
            rw [hlx] at z
            exact z
          rw [List.getElem?_drop, List.getElem?_map] at hx
          obtain ⟨ad, had⟩ : ∃ ad, as[1 + i]? = some ad := ⟨_, List.getElem?_eq_getElem (by rw [B6.n]; omega)⟩
          rw [had] at hx
          cases hx
          have hrow := (B6.rng R6 bG).r (1 + i) ad (by omega) had
          rw [nts_ints] at hrow
          refine ⟨rfl, _, rfl, ad, rfl, ⟨_, SqL.here hrow⟩, fun D2 hD2 => ?_⟩
          refine lc_mapL (ψ := fun u => .int (vInt u - 1)) hD2 (SqL.here hrow) (by rw [List.length_map, List.length_map, fro_len]; omega) (fun u G' R hu sm k => ?_) (fun G' sm hg => ?_)
          · obtain ⟨u, _, rfl⟩ := mem_int hu
            exact ⟨rfl, _, rfl, _, _, rfl, rfl, k G' (Same.refl _)⟩
          · rw [map_int (ψ := fun u => V.int (u - 1))] at hg
            have hg' : G' D2 = some (.lst ((((fro (tbs k) (1 + i) (2 ^ k)).map fun (k : Nat) => (k : Int)).map fun u => u - 1).map V.int)) := by rw [hg, List.map_map (f := fun u => u - 1)]; rfl
            have okr : okR (2 ^ k) (((fro (tbs k) (1 + i) (2 ^ k)).map fun (k : Nat) => (k : Int)).map fun u => u - 1) = true := by
              unfold okR
              rw [List.length_map, List.length_map, fro_len, decide_eq_true rfl, Bool.true_and, List.all_eq_true]
              intro v hv
              obtain ⟨u, hu, rfl⟩ := List.mem_map.mp hv
              obtain ⟨w', hw', rfl⟩ := List.mem_map.mp hu
              obtain ⟨b', hb', rfl⟩ := List.mem_map.mp hw'
              have hb2 := List.mem_range'_1.mp hb'
              have rr := lv_rng gd (a := 1 + i) (b := b') (by omega) (by omega) (by omega) (by omega)
              unfold okV
              rw [decide_eq_true (by omega), decide_eq_true (by omega)]
              rfl
            refine ⟨_, sm _ _ L.l, by rw [List.length_map, L.n, hi]; exact small1000 (by omega), (RG.same sm).set nD, fun b o nb z => ?_, _, _, L.step (But.same (r := r) sm) nD.1 nr hD2 hg' okr, by rw [List.length_append, hi]; rfl, fun j q k => ?_⟩
            · rw [upd_ne (ne_of_none z hD)]
              exact sm _ _ (bG _ _ nb z)
            · rcases Nat.lt_or_ge j qs.length with z | z
              · rw [List.getElem?_append_left z] at k
                exact nr j q k
              · rw [List.getElem?_append_right z] at k
                have := List.mem_of_getElem? k
                rw [List.mem_singleton.mp this]
                exact (RG.ne hD2).1
        · rintro G ⟨RG, bG, qs, rows, L, hi, nr⟩
          exact ⟨D, qs, rows, _, _, _, _, rfl, RG, b6.trans bG, 2 ^ k, by omega, by omega, L, hi.trans hlx⟩
      refine ⟨_, rfl, rfl, _, rfl, ?_⟩
      refine ite2 (fun c3 => ?_) (fun c3 => ?_)
      · refine ⟨_, rfl, l, rfl, ⟨_, SqL.here l4⟩, fun D hD => ?_⟩
        have nD := R4.ne hD
        have nDl : l ≠ D := fun z => by rw [← z, l4] at hD; cases hD
        have okn : okR N ns = true := by
          have z := rowF (N := N) (ns := ns) (f := fun n => if 0 ≤ n ∧ n < (N : Int) then n else 0) hnl fun n => by
            split <;> omega
          rw [List.map_congr_left (g := id) (fun v hv => by have := hnv v hv; exact if_pos ⟨this.1, by omega⟩), List.map_id] at z
          exact z
        refine lc_list (K := K) (a := l) (xs := rgV 0 (1 + m1)) (fun i G => RngC G r c ∧ But r H4 G ∧ ∃ (qs : List Addr) (rows : List (List Int)), RowsL G D N qs rows ∧ rows.length = i ∧ (∀ (j : Nat) (q : Addr), qs[j]? = some q → q ≠ r)) ⟨R4.same (Same.new hD _), But.same (Same.new hD _), [], [], ⟨upd_same, rfl, (fun _ hn => nomatch hn), fun j q rw k => nomatch k⟩, rfl, fun j q k => nomatch k⟩ (fun i G _ z => SqL.here (z.2.1 _ _ nlr l4)) ?_ ?_
        · rintro i x G hx ⟨RG, bG, qs, rows, L, hi, nr⟩
          have lG := bG _ _ nlr l4
          refine ⟨rfl, _, rfl, _, L.l, by rw [List.length_map, L.n, hi]; exact small1000 (by obtain ⟨z, _⟩ := List.getElem?_eq_some_iff.mp hx; rw [hlen] at z; omega), RG.set nD, fun b o nb z => ?_, _, _, L.step0 (But.same (r := r) (Same.refl _)) nD.1 nr nDl (by rw [lG, hns]) okn, by rw [List.length_append, hi]; rfl, fun j q k => ?_⟩
          · rw [upd_ne (ne_of_none z hD)]
            exact bG _ _ nb z
          · rcases Nat.lt_or_ge j qs.length with z | z
            · rw [List.getElem?_append_left z] at k
              exact nr j q k
            · rw [List.getElem?_append_right z] at k
              have := List.mem_of_getElem? k
              rw [List.mem_singleton.mp this]
              exact nlr
        · rintro G ⟨RG, bG, qs, rows, L, hi, nr⟩
          exact ⟨D, qs, rows, _, _, _, _, rfl, RG, b4'.trans bG, N, n1, n2, L, hi.trans hlen⟩
      refine ⟨_, rfl, rfl, _, rfl, ?_⟩
      refine ite2 (fun c4 => ?_) (fun c4 => ?_)
      · refine ⟨_, rfl, l, rfl, ⟨_, SqL.here l4⟩, fun D hD => ?_⟩
        have nD := R4.ne hD
        have nDl : D ≠ l := fun z => by rw [z, l4] at hD; cases hD
        refine lc_list (K := K) (a := l) (xs := rgV 0 (1 + m1)) (fun i G => RngC G r c ∧ But r H4 G ∧ ∃ (qs : List Addr) (rows : List (List Int)), RowsL G D N qs rows ∧ rows.length = i ∧ (∀ (j : Nat) (q : Addr), qs[j]? = some q → q ≠ r)) ⟨R4.same (Same.new hD _), But.same (Same.new hD _), [], [], ⟨upd_same, rfl, (fun _ hn => nomatch hn), fun j q rw k => nomatch k⟩, rfl, fun j q k => nomatch k⟩ (fun i G _ z => SqL.here (z.2.1 _ _ nlr l4)) ?_ ?_
        · rintro i x G hx ⟨RG, bG, qs, rows, L, hi, nr⟩
          have lG := bG _ _ nlr l4
          obtain ⟨v, _, rfl⟩ := mem_int (show x ∈ ns.map V.int by rw [← hns]; exact List.mem_of_getElem? hx)
          refine ⟨rfl, _, rfl, l, rfl, ⟨_, SqL.here lG⟩, fun D2 hD2 => ?_⟩
          refine lc_mapL (ψ := fun u => .int ((vInt u + st) % (1 + m1))) hD2 (SqL.here lG) (by rw [hlen]; omega) (fun u G' R hu sm k => ?_) (fun G' sm hg => ?_)
          · obtain ⟨u, _, rfl⟩ := mem_int (show u ∈ ns.map V.int by rw [← hns]; exact hu)
            exact ⟨rfl, _, rfl, _, rfl, _, _, rfl, rfl, _, rfl, _, _, rfl, rfl, by omega, k G' (Same.refl _)⟩
          · rw [hns, map_int (ψ := fun u => V.int ((u + st) % (1 + m1)))] at hg
            have hg' : G' D2 = some (.lst ((ns.map fun u => (u + st) % (1 + m1)).map V.int)) := by rw [hg, List.map_map]; rfl
            refine ⟨_, sm _ _ L.l, by rw [List.length_map, L.n, hi]; exact small1000 (by obtain ⟨z, _⟩ := List.getElem?_eq_some_iff.mp hx; rw [hlen] at z; omega), (RG.same sm).set nD, fun b o nb z => ?_, _, _, L.step (But.same (r := r) sm) nD.1 nr hD2 hg' (rowF (by rw [← hnl]) fun u => ?_), by rw [List.length_append, hi]; rfl, fun j q k => ?_⟩
            · rw [upd_ne (ne_of_none z hD)]
              exact sm _ _ (bG _ _ nb z)
            · have h1 := Int.emod_nonneg (u + st) (show (1 + m1) ≠ 0 by omega)
              have h2 := Int.emod_lt_of_pos (u + st) (show 0 < 1 + m1 by omega)
              omega
            · rcases Nat.lt_or_ge j qs.length with z | z
              · rw [List.getElem?_append_left z] at k
                exact nr j q k
              · rw [List.getElem?_append_right z] at k
                have := List.mem_of_getElem? k
                rw [List.mem_singleton.mp this]
                exact (RG.ne hD2).1
        · rintro G ⟨RG, bG, qs, rows, L, hi, nr⟩
          exact ⟨D, qs, rows, _, _, _, _, rfl, RG, b4'.trans bG, N, n1, n2, L, hi.trans hlen⟩
      · refine ⟨_, rfl, l, rfl, ⟨_, SqL.here l4⟩, fun D hD => ?_⟩
        have nD := R4.ne hD
        have nDl : D ≠ l := fun z => by rw [z, l4] at hD; cases hD
        refine lc_list (K := K) (a := l) (xs := rgV 0 (1 + m1)) (fun i G => RngC G r c ∧ But r H4 G ∧ ∃ (qs : List Addr) (rows : List (List Int)), RowsL G D N qs rows ∧ rows.length = i ∧ (∀ (j : Nat) (q : Addr), qs[j]? = some q → q ≠ r)) ⟨R4.same (Same.new hD _), But.same (Same.new hD _), [], [], ⟨upd_same, rfl, (fun _ hn => nomatch hn), fun j q rw k => nomatch k⟩, rfl, fun j q k => nomatch k⟩ (fun i G _ z => SqL.here (z.2.1 _ _ nlr l4)) ?_ ?_
        · rintro i x G hx ⟨RG, bG, qs, rows, L, hi, nr⟩
          have lG := bG _ _ nlr l4
          obtain ⟨v, _, rfl⟩ := mem_int (show x ∈ ns.map V.int by rw [← hns]; exact List.mem_of_getElem? hx)
          refine ⟨rfl, _, rfl, l, rfl, ⟨_, SqL.here lG⟩, fun D2 hD2 => ?_⟩
          refine lc_list (K := K) (a := l) (xs := rgV 0 (1 + m1)) (fun j G' => RngC G' r c ∧ But r G G' ∧ ∃ vs : List Int, G' D2 = some (.lst (vs.map V.int)) ∧ vs.length = j ∧ ∀ v ∈ vs, 0 ≤ v ∧ v < 1 + m1) ⟨RG.same (Same.new hD2 _), But.same (Same.new hD2 _), [], upd_same, rfl, fun _ hn => nomatch hn⟩ (fun j G' _ z => SqL.here (z.2.1 _ _ nlr lG)) ?_ ?_
          · rintro j u G' hu ⟨R', b', vs, lv, hv, hvs⟩
            have nD2 := RG.ne hD2
            refine ⟨rfl, _, rfl, _, rfl, r, _, c, rfl, R', by omega, by omega, fun k G3 k0 k1 R3' b3' => ?_⟩
            refine ⟨_, b3' _ _ nD2.1 lv, by rw [List.length_map, hv]; exact small1000 (by obtain ⟨z, _⟩ := List.getElem?_eq_some_iff.mp hu; rw [hlen] at z; omega), R3'.set nD2, fun b o nb z => ?_, vs ++ [k], by rw [upd_same, List.map_append]; rfl, by rw [List.length_append, hv]; rfl, fun v' hv' => ?_⟩
            · rw [upd_ne (ne_of_none z hD2)]
              exact b3' _ _ nb (b' _ _ nb z)
            · rcases List.mem_append.mp hv' with z | z
              · exact hvs v' z
              · rw [List.mem_singleton.mp z]
                exact ⟨k0, k1⟩
          rintro G' ⟨R', b', vs, hg', hv, hvs⟩
          have okv : okR N vs = true := by
            unfold okR
            rw [hv, hlen, decide_eq_true rfl, Bool.true_and, List.all_eq_true]
            intro v' hv'
            have := hvs v' hv'
            unfold okV
            rw [decide_eq_true this.1, decide_eq_true (show v' < (N : Int) by omega)]
            rfl
          refine ⟨_, b' _ _ nD.1 L.l, by rw [List.length_map, L.n, hi]; exact small1000 (by obtain ⟨z, _⟩ := List.getElem?_eq_some_iff.mp hx; rw [hlen] at z; omega), R'.set nD, fun b o nb z => ?_, _, _, L.step b' nD.1 nr hD2 hg' okv, by rw [List.length_append, hi]; rfl, fun j q k => ?_⟩
          · rw [upd_ne (ne_of_none z hD)]
            exact b' _ _ nb (bG _ _ nb z)
          · rcases Nat.lt_or_ge j qs.length with z | z
            · rw [List.getElem?_append_left z] at k
              exact nr j q k
            · rw [List.getElem?_append_right z] at k
              have := List.mem_of_getElem? k
              rw [List.mem_singleton.mp this]
              exact (RG.ne hD2).1
        · rintro G ⟨RG, bG, qs, rows, L, hi, nr⟩
          exact ⟨D, qs, rows, _, _, _, _, rfl, RG, b4'.trans bG, N, n1, n2, L, hi.trans hlen⟩
  · rintro σ G ⟨D, qs, rows, x7, x8, x9, x10, rfl, RG, bG, M, k1, k2, L, hr'⟩
    refine ⟨_, rfl, D, rfl, ⟨_, SqL.here L.l⟩, fun D3 hD3 => ?_⟩
    have nD3 := RG.ne hD3
    refine lc_list (K := K) (a := D) (xs := qs.map V.ref) (fun i G' => Same G G' ∧ ∃ ts : List Addr, G' D3 = some (.lst (ts.map V.ref)) ∧ ts.length = i ∧ ∀ (j : Nat) (t : Addr) (rw : List Int), ts[j]? = some t → rows[j]? = some rw → SqT K G' t (rw.map V.int)) ⟨Same.new hD3 _, [], upd_same, rfl, fun j t rw k => nomatch k⟩ (fun i G' _ z => SqL.here (z.1 _ _ L.l)) ?_ ?_
    · rintro i x G' hx ⟨sG, ts, lt, hti, hts⟩
      rw [List.getElem?_map] at hx
      obtain ⟨qa, hqa⟩ : ∃ qa, qs[i]? = some qa := by
        cases h : qs[i]? with
        | none => rw [h] at hx; cases hx
        | some qa => exact ⟨qa, rfl⟩
      rw [hqa] at hx
      cases hx
      obtain ⟨hlt, _⟩ := List.getElem?_eq_some_iff.mp hqa
      obtain ⟨rw', hrw⟩ : ∃ rw, rows[i]? = some rw := ⟨_, List.getElem?_eq_getElem (by rw [← L.n]; exact hlt)⟩
      refine ⟨rfl, _, rfl, qa, _, rfl, .inl ⟨SqL.here (sG _ _ (L.r i qa rw' hqa hrw).1), fun t nt => ?_⟩⟩
      have st := Same.new nt (.tup (rw'.map V.int))
      refine ⟨_, st _ _ lt, by rw [List.length_map, hti]; exact small1000 (by have := L.n; omega), fun b o z => ?_, ts ++ [t], by rw [upd_same, List.map_append]; rfl, by rw [List.length_append, hti]; rfl, fun j a rw k1 k2 => ?_⟩
      · rw [upd_ne (ne_of_none z hD3)]
        exact st _ _ (sG _ _ z)
      · have tpD : Tp (upd G' t (.tup (rw'.map V.int))) (upd (upd G' t (.tup (rw'.map V.int))) D3 (.lst (ts.map V.ref ++ [.ref t]))) := Tp.but (st _ _ lt) But.set
        rcases Nat.lt_or_ge j ts.length with z | z
        · rw [List.getElem?_append_left z] at k1
          exact tpD.sqT ((Tp.same st).sqT (hts j a rw k1 k2))
        · rw [List.getElem?_append_right z] at k1
          have hj : j = i := by
            obtain ⟨y, _⟩ := List.getElem?_eq_some_iff.mp k1
            have y : j - ts.length < 1 := y
            omega
          subst hj
          rw [hrw] at k2
          cases k2
          have := List.mem_of_getElem? k1
          rw [List.mem_singleton.mp this]
          exact tpD.sqT (SqT.here upd_same)
    · rintro G' ⟨sG, ts, lt, hti, hts⟩
      refine ⟨D3, _, rfl, .inl ⟨SqL.here lt, fun p np => ?_⟩⟩
      have sp := Same.new np (.tup (ts.map V.ref))
      rw [List.length_map] at hti
      exact q p rows _ ⟨ts, SqT.here upd_same, by rw [hti, L.n], fun j t rw k1 k2 => (Tp.same sp).sqT (hts j t rw k1 k2)⟩ (okM_of hr' k1 k2 L.ok) (RG.same (sG.trans sp)) (bG.trans (But.same (sG.trans sp)))

abbrev s_law : Stmt := top 32
theorem sc_law : FnScope ["_law_script", "_law_rng", "_law_turn", "_law_models", "_law_starts", "_law_step", "_law_model", "_law_term_here", "_law_result", "_law_a", "_law_b", "_law_value", "_law_along", "_law_pair", "_law_many", "_law_told", "_law_one"] ["_law_script"] (defScope s_law) := ⟨rfl, rfl, rfl, by decide +kernel, rfl, by decide +kernel, by decide +kernel⟩
theorem ok_law {CI CS CM CX Pa Pb ca cb fs fh : Addr} {tk : Tok} {oca dVa kVa doca pma cta ocb dVb kVb docb pmb ctb : Value} {oda ana odb anb : Option Addr} {osla oslb : Array (Option Value)} {g0 g1 g2 g3 g4 g5 g6 g7 g8 g9 g10 g11 g12 g13 g14 g15 g16 g17 : Addr} {h0 h1 h2 h3 h4 h5 h6 h7 h8 h9 h10 h11 h12 h13 h14 h15 h16 h17 : FuncData}
    (lka : K.lookup fs = some ⟨oca, oda, .func (PySem.W.fnOf "product_model" "product_model" (defArgs s_product_model) (defBody s_product_model) (defScope s_product_model) dVa kVa doca pma ana (.ref ca) cta), osla⟩) (hcda : PySem.W.codeIn K (.ref ca) "product_model" = true) (TBa : LamX.TabB base mg ca Pa)
    (lkb : K.lookup fh = some ⟨ocb, odb, .func (PySem.W.fnOf "homomorphism" "homomorphism" (defArgs s_homomorphism) (defBody s_homomorphism) (defScope s_homomorphism) dVb kVb docb pmb anb (.ref cb) ctb), oslb⟩) (hcdb : PySem.W.codeIn K (.ref cb) "homomorphism" = true) (TBb : LamX.TabB base mg cb Pb) (hne : Pa ≠ Pb)
    (d : D K mg "law" s_law ["_law_script"] f fd) (B : Blt mg) (C : Cst mg) (EI : ErrC K mg "InvalidTerm" CI) (ES : ErrC K mg "InvalidSize" CS) (EX : ErrC K mg "InvalidIndex" CX) (EM : ErrC K mg "InvalidModel" CM) (MR : mg "MAX_ROWS" = some (.int 12 tk))
    (d_product_model : D K mg "product_model" s_product_model ["one", "other"] fs (PySem.W.fnOf "product_model" "product_model" (defArgs s_product_model) (defBody s_product_model) (defScope s_product_model) dVa kVa doca pma ana (.ref ca) cta))
    (d_homomorphism : D K mg "homomorphism" s_homomorphism ["one", "start", "other", "goal"] fh (PySem.W.fnOf "homomorphism" "homomorphism" (defArgs s_homomorphism) (defBody s_homomorphism) (defScope s_homomorphism) dVb kVb docb pmb anb (.ref cb) ctb))
    (d__law_draws : D K mg "_law_draws" s__law_draws ["_law_script"] g0 h0) (d__law_draw : D K mg "_law_draw" s__law_draw ["_law_rng", "_law_amount"] g1 h1) (d__law_term : D K mg "_law_term" s__law_term ["_law_rng", "_law_many", "_law_cap"] g2 h2) (d__law_comb : D K mg "_law_comb" s__law_comb ["_law_many", "_law_onleft"] g3 h3) (d__law_any_term : D K mg "_law_any_term" s__law_any_term ["_law_rng", "_law_top"] g4 h4) (d__law_table : D K mg "_law_table" s__law_table ["_law_big"] g5 h5) (d__law_any_model : D K mg "_law_any_model" s__law_any_model ["_law_rng", "_law_top"] g6 h6) (d_is_row : D K mg "is_row" s_is_row ["row", "many"] g7 h7) (d_check_model : D K mg "check_model" s_check_model ["model"] g8 h8) (d_check_start : D K mg "check_start" s_check_start ["model", "start"] g9 h9) (d_value_below : D K mg "value_below" s_value_below ["model", "start", "term"] g10 h10) (d_value_of : D K mg "value_of" s_value_of ["model", "start", "term"] g11 h11) (d_model_of : D K mg "model_of" s_model_of ["many", "operation"] g12 h12) (d_joined_entry : D K mg "joined_entry" s_joined_entry ["one", "other", "a", "b"] g13 h13) (d_generated : D K mg "generated" s_generated ["start", "operation"] g14 h14) (d_is_pair : D K mg "is_pair" s_is_pair ["part"] g15 h15) (d_is_term : D K mg "is_term" s_is_term ["term"] g16 h16) (d_check_term : D K mg "check_term" s_check_term ["term"] g17 h17) :
    FnOk P w K mg base CX0 64 f fd ["_law_script"] (spLawTs K [Pa, Pb]) := by
  have G__law_draws : FnOk P w K mg base CX0 1 g0 h0 ["_law_script"] (spDraws K) := ok__law_draws d__law_draws B
  have G__law_draw : FnOk P w K mg base CX0 1 g1 h1 ["_law_rng", "_law_amount"] spDrawC := ok__law_drawC d__law_draw B
  have G__law_any_term : FnOk P w K mg base CX0 9 g4 h4 ["_law_rng", "_law_top"] (spAnyC K) := ok__law_any_termC d__law_any_term B d__law_draw d__law_comb d__law_term
  have G__law_any_model : FnOk P w K mg base CX0 2 g6 h6 ["_law_rng", "_law_top"] (spAnyM K) := ok__law_any_model d__law_any_model B d__law_draw d__law_table
  have G_value_of := ok_value_of (P := P) (w := w) (base := base) d_value_of B C EM EX EI MR d_is_row d_check_model d_check_start d_is_pair d_is_term d_check_term d_value_below
  have hu1 : ∀ p ∈ [(Pa, pmQ), (Pb, hmQ)], p.1 = Pa → p.2 = pmQ := fun p hp e => by
    rcases List.mem_cons.mp hp with rfl | hp
    · rfl
    · rw [List.mem_singleton.mp hp] at e
      exact absurd e.symm hne
  have hu2 : ∀ p ∈ [(Pa, pmQ), (Pb, hmQ)], p.1 = Pb → p.2 = hmQ := fun p hp e => by
    rcases List.mem_cons.mp hp with rfl | hp
    · exact absurd e hne
    · rw [List.mem_singleton.mp hp]
  have G_product_model : FnOk P w K mg base (L2N.CX P w) 4 fs _ ["one", "other"] (spPM [(Pa, pmQ), (Pb, hmQ)] K CM CS) := ok_product_model lka hcda B EM ES MR TBa List.mem_cons_self hu1 d_is_row d_check_model d_model_of d_joined_entry
  have G_homomorphism : FnOk P w K mg base (L2N.CX P w) 4 fh _ ["one", "start", "other", "goal"] (spHom [(Pa, pmQ), (Pb, hmQ)] K CM CX) := ok_homomorphism lkb hcdb B EM EX MR TBb (List.mem_cons_of_mem _ (List.mem_singleton.mpr rfl)) hu2 d_is_row d_check_model d_generated d_check_start d_joined_entry
  refine d.F.ok sc_law (fun vs H Q E h => ?_) (fun cdv A outer s H vs Q E hr h => ?_)
  · obtain ⟨_, _, rfl, _⟩ := h
    rfl
  obtain ⟨a, ns, rfl, hS, hP, q⟩ := h
  refine ⟨_, (pss_cons (ps_set (i := 1) sc_law.nd rfl (Or.inl rfl) (pe_call G__law_draws (hr.mono (by decide)) rfl d__law_draws.m d__law_draws.F.kp d__law_draws.b .nil pass0 (pa_cons (pv 0) pa_nil)))
 (pss_cons (ps_for PassesOwn.never rfl (pi_range1 (by rfl) B.range (pa_cons pe_int pa_nil)) (pg_name (i := 2) sc_law.nd rfl (Or.inl rfl))
  (pss_cons (ps_par (i := 3) (j := 4) (by rfl) sc_law.nd rfl rfl (by decide) rfl rfl (pa_cons (pe_lst pa_nil) (pa_cons (pe_lst pa_nil) pa_nil)) (by rfl))
 (C8.pss_cut (ps_for PassesOwn.never rfl (pi_range1 (by rfl) B.range (pa_cons pe_int pa_nil)) (pg_name (i := 5) sc_law.nd rfl (Or.inl rfl))
  (C8.pss_cut (ps_set (i := 6) sc_law.nd rfl (Or.inl rfl) (pe_ifExp (PW.pt (pw_or (pt_cmpR op_eq (pv 5) pe_int (nomark _)) (pw_or1 (pt_cmpR op_eq (pe_call G__law_draw (hr.mono (by decide)) rfl d__law_draw.m d__law_draw.F.kp d__law_draw.b .nil pass0 (pa_cons (pv 1) (pa_cons pe_int pa_nil))) pe_int (nomark _))))) (pe_call G__law_any_model (hr.mono (by decide)) rfl d__law_any_model.m d__law_any_model.F.kp d__law_any_model.b .nil pass0 (pa_cons (pv 1) (pa_cons pe_int pa_nil))) (pe_ix ix_list (pv 3) (pe_un un_neg pe_int) (fun _ _ => rfl))))
 (pss_cons (ps_expr (pe_bm PySem.F.plainAttrs_list PySem.F.slot_list_append PySem.F.type_list_append mt_append (pv 3) (pa_cons (pv 6) pa_nil)))
 (pss_one (ps_expr (pe_bm PySem.F.plainAttrs_list PySem.F.slot_list_append PySem.F.type_list_append mt_append (pv 4) (pa_cons (pe_ifExp (pt_cmpR op_gt (pe_call G__law_draw (hr.mono (by decide)) rfl d__law_draw.m d__law_draw.F.kp d__law_draw.b .nil pass0 (pa_cons (pv 1) (pa_cons pe_int pa_nil))) pe_int (nomark _)) (pe_call G__law_draw (hr.mono (by decide)) rfl d__law_draw.m d__law_draw.F.kp d__law_draw.b .nil pass0 (pa_cons (pv 1) (pa_cons (pe_callB call_len_seq (by rfl) B.len PySem.boot_len (pa_cons (pv 6) pa_nil)) pa_nil))) pe_int) pa_nil)))))))
 (pss_cons (ps_set (i := 7) sc_law.nd rfl (Or.inl rfl) (pe_call G__law_any_term (hr.mono (by decide)) rfl d__law_any_term.m d__law_any_term.F.kp d__law_any_term.b .nil pass0 (pa_cons (pv 1) (pa_cons pe_int pa_nil))))
 (pss_cons (ps_set (i := 8) sc_law.nd rfl (Or.inr rfl) (pe_lst pa_nil))
 (C8.pss_cut (ps_for PassesOwn.never rfl (pi_list (pe_lst (pa_cons (pe_tup (pa_cons pe_int (pa_cons pe_int pa_nil))) (pa_cons (pe_tup (pa_cons pe_int (pa_cons pe_int pa_nil))) (pa_cons (pe_tup (pa_cons pe_int (pa_cons pe_int pa_nil))) (pa_cons (pe_tup (pa_cons pe_int (pa_cons pe_int pa_nil))) pa_nil)))))) (pg_tup (by rfl) (pgs_cons (pg_name (i := 9) sc_law.nd rfl (Or.inl rfl)) (pgs_cons (pg_name (i := 10) sc_law.nd rfl (Or.inl rfl)) pgs_nil)))
  (pss_cons (ps_expr (pe_bm PySem.F.plainAttrs_list PySem.F.slot_list_append PySem.F.type_list_append mt_append (pv 8) (pa_cons (pe_call G_homomorphism (hr.mono (by decide)) rfl d_homomorphism.m d_homomorphism.F.kp d_homomorphism.b .nil passF (pa_cons (pe_ix ix_list (pv 3) (pv 9) (fun _ _ => rfl)) (pa_cons (pe_ix ix_list (pv 4) (pv 9) (fun _ _ => rfl)) (pa_cons (pe_ix ix_list (pv 3) (pv 10) (fun _ _ => rfl)) (pa_cons (pe_ix ix_list (pv 4) (pv 10) (fun _ _ => rfl)) pa_nil))))) pa_nil)))
 (pss_one (ps_if (pt_cmpR op_eq (pe_ix ix_tup (pe_ix ix_list (pv 8) (pe_un un_neg pe_int) (fun _ _ => rfl)) pe_int (fun _ _ => rfl)) pe_str (nomark _)) (pss_cons (ps_set (i := 11) sc_law.nd rfl (Or.inl rfl) (pe_call G_value_of (hr.mono (by decide)) rfl d_value_of.m d_value_of.F.kp d_value_of.b .nil passF (pa_cons (pe_ix ix_list (pv 3) (pv 9) (fun _ _ => rfl)) (pa_cons (pe_ix ix_list (pv 4) (pv 9) (fun _ _ => rfl)) (pa_cons (pv 7) pa_nil)))))
 (pss_one (ps_if (pt_cmpR op_ne (pe_dget2 (Nat.lt_of_le_of_lt (Nat.add_le_add_left (by decide) _) hr.units) (pe_ix ix_tup (pe_ix ix_list (pv 8) (pe_un un_neg pe_int) (fun _ _ => rfl)) pe_int (fun _ _ => rfl)) (pv 11) pe_non ⟨rfl, rfl, rfl, rfl⟩) (pe_call G_value_of (hr.mono (by decide)) rfl d_value_of.m d_value_of.F.kp d_value_of.b .nil passF (pa_cons (pe_ix ix_list (pv 3) (pv 10) (fun _ _ => rfl)) (pa_cons (pe_ix ix_list (pv 4) (pv 10) (fun _ _ => rfl)) (pa_cons (pv 7) pa_nil)))) (nomark _)) (pss_one (ps_ret pe_bl)) pss_nil))) pss_nil))))
 (pss_cons (ps_if (PW.pt (pw_or (pt_cmpR op_ne (pe_ix ix_tup (pe_ix ix_list (pv 8) pe_int (fun _ _ => rfl)) pe_int (fun _ _ => rfl)) pe_str (nomark _)) (pw_or1 (pt_not (pt_val (pe_callB (cr_all rfl) (by rfl) B.all (by decide +kernel) (pa_cons (pe_lock (pe_lc (own := [("_law_one", 16)]) (g := gName 16) (tt := tYes) (by rfl) sc_law.nd (pi_keys (pe_ix ix_tup (pe_ix ix_list (pv 8) pe_int (fun _ _ => rfl)) pe_int (fun _ _ => rfl))) (blkOk_by (own := [("_law_one", 16)]) (N := ["_law_script", "_law_rng", "_law_turn", "_law_models", "_law_starts", "_law_step", "_law_model", "_law_term_here", "_law_result", "_law_a", "_law_b", "_law_value", "_law_along", "_law_pair", "_law_many", "_law_told", "_law_one"]) (sc := defScope s_law) (by decide +kernel)) (fun _ _ _ _ _ => (pg_name (i := 16) sc_law.nd rfl (Or.inl rfl))) (fun _ _ _ _ _ => pts_nil) (fun _ _ _ _ _ => (pe_cmpR op_eq (pe_dget (Nat.lt_of_le_of_lt (Nat.add_le_add_left (by decide) _) hr.units) (pe_ix (r := rIxT K) ix_tup (pe_ix (r := rIxL K) ix_list (pv 8) pe_int (fun _ _ => rfl)) pe_int (fun _ _ => rfl)) (pv 16) (fun _ _ => rfl)) (pv 16) (nomark _))))) pa_nil))))))) (pss_one (ps_ret pe_bl)) pss_nil)
 (C8.pss_cut (ps_if (PW.pt (pw_and (pt_cmpR op_eq (pe_ix ix_tup (pe_ix ix_list (pv 8) pe_int (fun _ _ => rfl)) pe_int (fun _ _ => rfl)) pe_str (nomark _)) (pw_and1 (pt_cmpR op_eq (pe_ix ix_tup (pe_ix ix_list (pv 8) pe_int (fun _ _ => rfl)) pe_int (fun _ _ => rfl)) pe_str (nomark _))))) (pss_cons (ps_setLc (i := 12) (own := [("_law_one", 16)]) (g := gName 16) (tt := tYes) (by rfl) sc_law.nd rfl rfl (sw_true rfl rfl rfl (by decide +kernel)) (pi_list (pe_callB (call_sortedDA (by rfl)) (by rfl) B.sorted (by decide +kernel) (pa_cons (pe_ix ix_tup (pe_ix ix_list (pv 8) pe_int (fun _ _ => rfl)) pe_int (fun _ _ => rfl)) pa_nil))) (blkOk_by (own := [("_law_one", 16)]) (N := ["_law_script", "_law_rng", "_law_turn", "_law_models", "_law_starts", "_law_step", "_law_model", "_law_term_here", "_law_result", "_law_a", "_law_b", "_law_value", "_law_along", "_law_pair", "_law_many", "_law_told", "_law_one"]) (sc := defScope s_law) (by decide +kernel)) (fun _ _ _ _ _ => (pg_name (i := 16) sc_law.nd rfl (Or.inl rfl))) (fun _ _ _ _ _ => pts_nil) (fun _ _ _ _ _ => (pe_tup (pa_cons (pv 16) (pa_cons (pe_dget (Nat.lt_of_le_of_lt (Nat.add_le_add_left (by decide) _) hr.units) (pe_ix (r := rIxT K) ix_tup (pe_ix (r := rIxL K) ix_list (pv 8) pe_int (fun _ _ => rfl)) pe_int (fun _ _ => rfl)) (pe_dget (Nat.lt_of_le_of_lt (Nat.add_le_add_left (by decide) _) hr.units) (pe_ix (r := rIxT K) ix_tup (pe_ix (r := rIxL K) ix_list (pv 8) pe_int (fun _ _ => rfl)) pe_int (fun _ _ => rfl)) (pv 16) (fun _ _ => rfl)) (fun _ _ => rfl)) pa_nil)))))
 (pss_one (ps_if (pt_cmpR (op_neMap hr.units) (pe_ix ix_list (pv 8) pe_int (fun _ _ => rfl)) (pe_tup (pa_cons pe_str (pa_cons (pe_callTy (call_dictP (by rfl)) (by rfl) B.dict (by decide +kernel) (pa_cons (pv 12) pa_nil)) pa_nil))) (nomark _)) (pss_one (ps_ret pe_bl)) pss_nil))) pss_nil)
 (pss_one (ps_if (pt_cmpR op_lt (pe_op op_mul (pe_callB call_len_seq (by rfl) B.len PySem.boot_len (pa_cons (pe_ix ix_list (pv 3) pe_int (fun _ _ => rfl)) pa_nil)) (pe_callB call_len_seq (by rfl) B.len PySem.boot_len (pa_cons (pe_ix ix_list (pv 3) pe_int (fun _ _ => rfl)) pa_nil))) pe_int (nomark _)) (pss_cons (ps_asg (pe_tup (pa_cons (pe_call G_product_model (hr.mono (by decide)) rfl d_product_model.m d_product_model.F.kp d_product_model.b .nil passF (pa_cons (pe_ix ix_list (pv 3) pe_int (fun _ _ => rfl)) (pa_cons (pe_ix ix_list (pv 3) pe_int (fun _ _ => rfl)) pa_nil))) (pa_cons (pe_callB call_len_seq (by rfl) B.len PySem.boot_len (pa_cons (pe_ix ix_list (pv 3) pe_int (fun _ _ => rfl)) pa_nil)) pa_nil))) (pg_tup (by rfl) (pgs_cons (pg_name (i := 13) sc_law.nd rfl (Or.inl rfl)) (pgs_cons (pg_name (i := 14) sc_law.nd rfl (Or.inr rfl)) pgs_nil))))
 (pss_cons (ps_set (i := 15) sc_law.nd rfl (Or.inr rfl) (pe_call G_homomorphism (hr.mono (by decide)) rfl d_homomorphism.m d_homomorphism.F.kp d_homomorphism.b .nil passF (pa_cons (pv 13) (pa_cons (pe_op op_add (pe_op op_mul (pe_ix ix_list (pv 4) pe_int (fun _ _ => rfl)) (pv 14)) (pe_ix ix_list (pv 4) pe_int (fun _ _ => rfl))) (pa_cons (pe_ix ix_list (pv 3) pe_int (fun _ _ => rfl)) (pa_cons (pe_ix ix_list (pv 4) pe_int (fun _ _ => rfl)) pa_nil))))))
 (pss_one (ps_if (PW.pt (pw_or (pt_cmpR op_ne (pe_ix ix_tup (pv 15) pe_int (fun _ _ => rfl)) pe_str (nomark _)) (pw_or1 (pt_not (pt_val (pe_callB (cr_all rfl) (by rfl) B.all (by decide +kernel) (pa_cons (pe_lock (pe_lc (own := [("_law_one", 16)]) (g := gName 16) (tt := tYes) (by rfl) sc_law.nd (pi_keys (pe_ix ix_tup (pv 15) pe_int (fun _ _ => rfl))) (blkOk_by (own := [("_law_one", 16)]) (N := ["_law_script", "_law_rng", "_law_turn", "_law_models", "_law_starts", "_law_step", "_law_model", "_law_term_here", "_law_result", "_law_a", "_law_b", "_law_value", "_law_along", "_law_pair", "_law_many", "_law_told", "_law_one"]) (sc := defScope s_law) (by decide +kernel)) (fun _ _ _ _ _ => (pg_name (i := 16) sc_law.nd rfl (Or.inl rfl))) (fun _ _ _ _ _ => pts_nil) (fun _ _ _ _ _ => (pe_cmpR op_eq (pe_dget (Nat.lt_of_le_of_lt (Nat.add_le_add_left (by decide) _) hr.units) (pe_ix (r := rIxT K) ix_tup (pv 15) pe_int (fun _ _ => rfl)) (pv 16) (fun _ _ => rfl)) (pe_op op_mod (pv 16) (pv 14)) (nomark _))))) pa_nil))))))) (pss_one (ps_ret pe_bl)) pss_nil)))) pss_nil))))))))))
 (pss_one (ps_ret pe_bl)))), ?_⟩
  refine ⟨_, rfl, a, ns, rfl, hS, fun r H1 s1 _ R1 => ?_⟩
  obtain ⟨cc, R1⟩ := R1.toC
  have T1 : LamX.Tabs [(Pa, pmQ), (Pb, hmQ)] H1 := fun p hp => by
    rcases List.mem_cons.mp hp with rfl | hp
    · exact tabs1 (q := pmQ) (s1 _ _ (hP Pa (by simp))) _ List.mem_cons_self
    · rw [List.mem_singleton.mp hp]
      exact tabs1 (q := hmQ) (s1 _ _ (hP Pb (by simp))) _ List.mem_cons_self
  have hNT : ∀ {G : Hp} {v : V} {t : Tree}, TA K G v t → t.sz ≤ 12 → t.dp ≤ 6 → NT K G v t.d ∧ ndD t.d ≤ 1000 ∧ okd t.d = true := fun {G v t} h1 h2 h3 => by
    have hnd := tree_nodes t
    refine ⟨NT.of h1 (by omega), by rw [tree_nd]; omega, ?_⟩
    rw [tree_okd, decide_eq_true h3, decide_eq_true h2]
    rfl
  refine ⟨3, rfl, by decide, by decide, for_range (lo := 0) (n := 3) (fun i σ G => ∃ (x2 x3 x4 x5 x6 x7 x8 x9 x10 x11 x12 x13 x14 x15 : Option V), σ = [some (.ref a), some (.ref r), x2, x3, x4, x5, x6, x7, x8, x9, x10, x11, x12, x13, x14, x15, none] ∧ RngC G r cc ∧ LamX.Tabs [(Pa, pmQ), (Pb, hmQ)] G) ⟨_, _, _, _, _, _, _, _, _, _, _, _, _, _, rfl, R1, T1⟩ ?_ ?_⟩
  · rintro i σ H2 hi ⟨x2, x3, x4, x5, x6, x7, x8, x9, x10, x11, x12, x13, x14, x15, rfl, R2, T2⟩
    refine ⟨zero_le', fun lm nlm => ⟨zero_le', fun ls nls => ⟨_, _, rfl, ?_⟩⟩⟩
    have e1 := Same.new nlm (.lst [])
    have e2 := Same.new nls (.lst [])
    have nnl : lm ≠ ls := fun z => by
      rw [← z, upd_same] at nls
      cases nls
    have F0 : Fr82 K [(Pa, pmQ), (Pb, hmQ)] r cc lm ls [] (upd (upd H2 lm (.lst [])) ls (.lst [])) := ⟨R2.same (e1.trans e2), tabs_same (e1.trans e2) T2, e2 _ _ upd_same, upd_same, (fun _ z => nomatch z), R2.ne nlm, (R2.same e1).ne nls, nnl⟩
    clear R2 T2 e1 e2 nlm nls
    generalize (upd (upd H2 lm (.lst [])) ls (.lst [])) = H3 at *
    refine ⟨fun σ G => ∃ (M : Mm) (x5 x6 : Option V), σ = [some (.ref a), some (.ref r), some (.int (0 + i)), some (.ref lm), some (.ref ls), x5, x6, x7, x8, x9, x10, x11, x12, x13, x14, x15, none] ∧ Fr82 K [(Pa, pmQ), (Pb, hmQ)] r cc lm ls M G ∧ M.length = 3 ∧ ∀ z ∈ M, okM z.2.1 = true ∧ z.2.2 < z.2.1.length, ?_, ?_⟩
    · refine ⟨3, rfl, by decide, by decide, for_range (lo := 0) (n := 3) (fun j σ G => ∃ (M : Mm) (x5 x6 : Option V), σ = [some (.ref a), some (.ref r), some (.int (0 + i)), some (.ref lm), some (.ref ls), x5, x6, x7, x8, x9, x10, x11, x12, x13, x14, x15, none] ∧ Fr82 K [(Pa, pmQ), (Pb, hmQ)] r cc lm ls M G ∧ M.length = j ∧ ∀ z ∈ M, okM z.2.1 = true ∧ z.2.2 < z.2.1.length) ⟨[], _, _, rfl, F0, rfl, (fun _ z => nomatch z)⟩ ?_ ?_⟩
      · clear F0
        rintro j σ G hj ⟨M, x5, x6, rfl, F, hMl, hM⟩
        refine ⟨fun σ G => ∃ (p : Addr) (rows : List (List Int)), σ = [some (.ref a), some (.ref r), some (.int (0 + i)), some (.ref lm), some (.ref ls), some (.int (0 + j)), some (.ref p), x7, x8, x9, x10, x11, x12, x13, x14, x15, none] ∧ Fr82 K [(Pa, pmQ), (Pb, hmQ)] r cc lm ls M G ∧ MdA K G p rows ∧ okM rows = true, ?_, ?_⟩
        · have fresh : ∀ (G : Hp) (F : Fr82 K [(Pa, pmQ), (Pb, hmQ)] r cc lm ls M G) (Q' : VK), (∀ (p : Addr) (rows : List (List Int)) (G' : Hp), MdA K G' p rows → okM rows = true → Fr82 K [(Pa, pmQ), (Pb, hmQ)] r cc lm ls M G' → Q' (.ref p) G') → spAnyM K [.ref r, .int 6] G Q' E0 := fun G F Q' k => ⟨r, cc, 6, rfl, F.R, by decide, by decide, fun p rows G' mp ok R' b' => k p rows G' mp ok (F.rng R' b')⟩
          clear fresh
          refine ⟨_, rfl, rfl, _, rfl, ite2 (fun c => iteT ?_) (fun c => ?_)⟩
          · exact ⟨_, rfl, r, cc, 6, rfl, F.R, by decide, by decide, fun p rows G' mp ok R' b' => ⟨p, rows, rfl, F.rng R' b', mp, ok⟩⟩
          · refine ⟨_, rfl, r, 2, cc, rfl, F.R, by decide, by decide, fun v G1 v0 v1 R1 b1 => ⟨rfl, _, rfl, ite2 (fun c2 => ?_) (fun c2 => ?_)⟩⟩
            · have F1 := F.rng R1 b1
              exact ⟨_, rfl, r, cc, 6, rfl, F1.R, by decide, by decide, fun p rows G' mp ok R' b' => ⟨p, rows, rfl, F1.rng R' b', mp, ok⟩⟩
            · have F1 := F.rng R1 b1
              have hj0 : j ≠ 0 := fun z => by
                subst z
                exact c (decide_eq_true rfl)
              rcases List.eq_nil_or_concat M with rfl | ⟨M0, z, rfl⟩
              · exact absurd hMl.symm hj0
              rw [List.concat_eq_append] at *
              have hm1 := F1.m
              rw [List.map_append] at hm1
              have hz : z ∈ M0 ++ [z] := by simp
              exact ⟨_, rfl, 1, rfl, lm, _, _, V.ref z.1, rfl, rfl, SqL.here hm1, atI_last _ _, z.1, z.2.1, rfl, F1, F1.A z hz, (hM z hz).1⟩
        · rintro σ G1 ⟨p, rows, rfl, F1, mp, ok⟩
          refine ⟨_, rfl, .inl ⟨rfl, _, SqL.here F1.m⟩, _, rfl, lm, _, _, rfl, rfl, F1.m, by rw [List.length_map]; exact small1000 (by omega), ?_⟩
          have H1 := F1.half mp
          generalize (upd G1 lm (.lst ((M.map fun z => V.ref z.1) ++ [V.ref p]))) = G2 at *
          refine ⟨_, rfl, .inl ⟨rfl, _, SqL.here H1.s⟩, _, rfl, r, 3, cc, rfl, H1.R, by decide, by decide, fun v G3 v0 v1 R3 b3 => ⟨_, _, rfl, rfl, _, rfl, ite2 (fun c => ?_) (fun c => ?_)⟩⟩
          · have H3 := H1.rng R3 b3
            obtain ⟨qp, MP⟩ := H3.P.n ok
            have n1 := MP.n1
            have n2 := MP.n2
            refine ⟨_, rfl, _, rfl, p, _, rfl, .inr MP.S, ?_⟩
            rw [List.length_map, MP.len]
            refine ⟨r, _, cc, rfl, R3, by omega, by omega, fun w G4 w0 w1 R4 b4 => ?_⟩
            obtain ⟨an, rfl⟩ := Int.eq_ofNat_of_zero_le w0
            have H4 := H3.rng R4 b4
            refine ⟨ls, _, _, rfl, rfl, H4.s, by rw [List.length_map]; exact small1000 (by omega), ?_⟩
            exact ⟨_, _, _, rfl, H4.fin an, by rw [List.length_append, hMl]; rfl, hM_add hM ok (by omega)⟩
          · have H3 := H1.rng R3 b3
            refine ⟨ls, _, _, rfl, rfl, H3.s, by rw [List.length_map]; exact small1000 (by omega), ?_⟩
            exact ⟨_, _, _, rfl, H3.fin 0, by rw [List.length_append, hMl]; rfl, hM_add hM ok (okM_row ok).1⟩
      · rintro σ G ⟨M, x5, x6, rfl, F, hMl, hM⟩
        exact ⟨M, _, _, rfl, F, hMl, hM⟩
    · clear F0
      rintro σ G ⟨M, x5, x6, rfl, F, hMl, hM⟩
      refine ⟨_, rfl, r, 8, cc, rfl, by decide, by decide, F.R, fun vt t G1 at1 zt dt R1 b1 => ?_⟩
      have F1 := F.rng R1 b1
      clear F R1 b1
      refine ⟨zero_le', fun lr nlr => ?_⟩
      have e1 := Same.new nlr (.lst [])
      have P0 : Lp82 K [(Pa, pmQ), (Pb, hmQ)] r cc lm ls lr M vt t 0 [] (upd G1 lr (.lst [])) := ⟨F1.same e1, ⟨upd_same, rfl, fun j v e => nomatch e⟩, dp_same e1 _ at1, F1.R.ne nlr, ne_of_none F1.m nlr, ne_of_none F1.s nlr⟩
      clear F1 e1 at1 nlr
      generalize (upd G1 lr (.lst [])) = G2 at *
      refine ⟨fun σ G => ∃ (x9 x10 x11 : Option V) (vs : List V), σ = [some (.ref a), some (.ref r), some (.int (0 + i)), some (.ref lm), some (.ref ls), x5, x6, some vt, some (.ref lr), x9, x10, x11, x12, x13, x14, x15, none] ∧ Lp82 K [(Pa, pmQ), (Pb, hmQ)] r cc lm ls lr M vt t 4 vs G, ?_, ?_⟩
      · refine ⟨two_le, fun t1 nt1 => ⟨two_le, fun t2 nt2 => ⟨two_le, fun t3 nt3 => ⟨two_le, fun t4 nt4 => ⟨(show 4 ≤ sizeLine by decide), fun lp nlp => ?_⟩⟩⟩⟩⟩
        have o1 := Same.new nt1 (.tup [.int 0, .int 1])
        have o2 := Same.new nt2 (.tup [.int 1, .int 2])
        have o3 := Same.new nt3 (.tup [.int 0, .int 2])
        have o4 := Same.new nt4 (.tup [.int 0, .int 0])
        have o5 := Same.new nlp (.lst [.ref t1, .ref t2, .ref t3, .ref t4])
        have h1 := (o2.trans (o3.trans (o4.trans o5))) _ _ (upd_same (a := t1) (o := .tup [.int 0, .int 1]))
        have h2 := (o3.trans (o4.trans o5)) _ _ (upd_same (a := t2) (o := .tup [.int 1, .int 2]))
        have h3 := (o4.trans o5) _ _ (upd_same (a := t3) (o := .tup [.int 0, .int 2]))
        have h4 := o5 _ _ (upd_same (a := t4) (o := .tup [.int 0, .int 0]))
        have P1 := P0.same (o1.trans (o2.trans (o3.trans (o4.trans o5))))
        have hlp : (upd (upd (upd (upd (upd G2 t1 (.tup [.int 0, .int 1])) t2 (.tup [.int 1, .int 2])) t3 (.tup [.int 0, .int 2])) t4 (.tup [.int 0, .int 0])) lp (.lst [.ref t1, .ref t2, .ref t3, .ref t4])) lp = some (.lst [.ref t1, .ref t2, .ref t3, .ref t4]) := upd_same
        have nlr : lp ≠ lr := (ne_of_none ((P0.same (o1.trans (o2.trans (o3.trans o4)))).S.l) nlp).symm
        clear P0 o1 o2 o3 o4 o5 nt1 nt2 nt3 nt4 nlp
        generalize (upd (upd (upd (upd (upd G2 t1 (.tup [.int 0, .int 1])) t2 (.tup [.int 1, .int 2])) t3 (.tup [.int 0, .int 2])) t4 (.tup [.int 0, .int 0])) lp (.lst [.ref t1, .ref t2, .ref t3, .ref t4])) = G3 at *
        have Tq : Tq82 lp t1 t2 t3 t4 G3 := ⟨hlp, h1, h2, h3, h4⟩
        clear h1 h2 h3 h4
        refine ⟨lp, rfl, ⟨_, SqL.here hlp⟩, for_list (xs := [.ref t1, .ref t2, .ref t3, .ref t4]) (fun k σ G => ∃ (y9 y10 y11 : Option V) (vs : List V), σ = [some (.ref a), some (.ref r), some (.int (0 + i)), some (.ref lm), some (.ref ls), x5, x6, some vt, some (.ref lr), y9, y10, y11, x12, x13, x14, x15, none] ∧ Lp82 K [(Pa, pmQ), (Pb, hmQ)] r cc lm ls lr M vt t k vs G ∧ Tq82 lp t1 t2 t3 t4 G) ⟨_, _, _, _, rfl, P1, Tq⟩ (fun k σ G _ ⟨_, _, _, _, _, _, q⟩ => SqL.here q.l) ?_ ?_⟩
        · clear P1 Tq hlp
          rintro k x σ G hx ⟨y9, y10, y11, vs, rfl, P, Tq⟩
          have hk4 : k < 4 := (List.getElem?_eq_some_iff.mp hx).1
          obtain ⟨tt, rfl, htt, l1, l2⟩ := Tq.at_ hx
          refine ⟨tt, _, rfl, SqT.here htt, rfl, _, _, rfl, _, _, rfl, rfl, ?_⟩
          obtain ⟨sa, oka, la, ea1, ea2⟩ := spMd_ok P.F (show (prJ k).1 < M.length by omega) hM
          obtain ⟨sb, okb, lb, eb1, eb2⟩ := spMd_ok P.F (show (prJ k).2 < M.length by omega) hM
          refine ⟨_, rfl, .inl ⟨rfl, _, SqL.here P.S.l⟩, _, rfl, _, rfl, lm, _, _, _, rfl, rfl, SqL.here P.F.m, atI_nat ea1, _, rfl, _, rfl, ls, _, _, _, rfl, rfl, SqL.here P.F.s, atI_nat ea2, _, rfl, _, rfl, lm, _, _, _, rfl, rfl, SqL.here P.F.m, atI_nat eb1, _, rfl, _, rfl, ls, _, _, _, rfl, rfl, SqL.here P.F.s, atI_nat eb2, ?_⟩
          refine ⟨_, _, _, _, _, _, rfl, sa, sb, P.F.t, fun bad => absurd (oka.symm.trans bad) (by decide), fun _ bad => absurd ⟨by omega, by omega⟩ bad, fun _ _ _ bad => absurd (okb.symm.trans bad) (by decide), fun _ _ _ _ bad => absurd ⟨by omega, by omega⟩ bad, fun _ _ a' b' ea eb _ _ v G7 e7 t7 hv => ?_⟩
          obtain rfl := Int.ofNat.inj ea
          obtain rfl := Int.ofNat.inj eb
          have P7 := P.extN e7 t7
          have T7 := Tq.extN e7
          refine ⟨lr, _, _, rfl, rfl, P7.S.l, by rw [P.S.n]; exact small1000 (by omega), ?_⟩
          have P8 := P7.add (v := v) hv.all
          have T8 := T7.set (ys := vs ++ [v]) P7.S.l nlr
          have hv8 := P8.S.h k v (by rw [List.getElem?_append_right (by rw [P.S.n]; exact Nat.le_refl _), P.S.n, Nat.sub_self]; rfl)
          clear hv P7 T7 P Tq sa sb
          generalize (upd G7 lr (.lst (vs ++ [v]))) = G8 at *
          refine ⟨_, rfl, 1, rfl, lr, _, _, v, rfl, rfl, SqL.here P8.S.l, atI_last _ _, ?_⟩
          cases hv8 with
          | conf p kk x y hp hC =>
            refine ⟨p, _, _, V.str "conflict", rfl, rfl, SqT.here hp, atI_nat (j := 0) rfl, rfl, _, rfl, ite2 (fun c => ?_) (fun _ => ⟨_, _, _, _, rfl, P8, T8⟩)⟩
            rw [neMap] at c
            exact absurd (of_decide_eq_true c) (by decide)
          | map p dd L hp hd _ hl fn as mm =>
            refine ⟨p, _, _, V.str "map", rfl, rfl, SqT.here hp, atI_nat (j := 0) rfl, rfl, _, rfl, ite2 (fun _ => ?_) (fun c => absurd (by rw [neMap]; decide) c)⟩
            obtain ⟨sa, _, _, _, _⟩ := spMd_ok P8.F (show (prJ k).1 < M.length by omega) hM
            obtain ⟨j1, j2, j3⟩ := hNT P8.W8 (by omega) dt
            refine ⟨_, rfl, _, rfl, lm, _, _, _, rfl, rfl, SqL.here P8.F.m, atI_nat ea1, _, rfl, _, rfl, ls, _, _, _, rfl, rfl, SqL.here P8.F.s, atI_nat ea2, _, rfl, _, _, _, vt, t.d, rfl, sa.1, sa.2.1, sa.2.2, j1, j2, fun bad => absurd (oka.symm.trans bad) (by decide), fun _ bad => absurd ⟨by omega, by omega⟩ bad, fun _ _ _ bad => absurd (j3.symm.trans bad) (by decide), fun t' s' _ es' ls' et _ _ G9 s9 => ?_⟩
            cases d_inj et
            obtain rfl := Int.ofNat.inj es'
            have P9 := P8.same s9
            have T9 := T8.extN (ExtN.same s9)
            have hp9 := s9 _ _ hp
            have hd9 := s9 _ _ hd
            clear P8 T8 hp hd sa j1 j2
            obtain ⟨sb, _, _, _, _⟩ := spMd_ok P9.F (show (prJ k).2 < M.length by omega) hM
            obtain ⟨j1, j2, _⟩ := hNT P9.W8 (by omega) dt
            have hmem : (t.mv (M.getD (prJ k).1 (0, [], 0)).2.1 (M.getD (prJ k).1 (0, [], 0)).2.2, t.mv (M.getD (prJ k).2 (0, [], 0)).2.1 (M.getD (prJ k).2 (0, [], 0)).2.2) ∈ L := (mm _).mpr (gen_mv t)
            refine ⟨_, rfl, 1, rfl, lr, _, _, _, rfl, rfl, SqL.here P9.S.l, atI_last _ _, p, _, _, V.ref dd, rfl, rfl, SqT.here hp9, atI_nat (j := 1) rfl, dd, rfl, .inl ⟨_, .inl hd9⟩, _, rfl, _, .inl ⟨_, Sum.inl _, .inl hd9, rfl, (map_val as hmem).symm⟩, ?_⟩
            refine ⟨_, rfl, _, rfl, lm, _, _, _, rfl, rfl, SqL.here P9.F.m, atI_nat eb1, _, rfl, _, rfl, ls, _, _, _, rfl, rfl, SqL.here P9.F.s, atI_nat eb2, _, rfl, _, _, _, vt, t.d, rfl, sb.1, sb.2.1, sb.2.2, j1, j2, fun bad => absurd (okb.symm.trans bad) (by decide), fun _ bad => absurd ⟨by omega, by omega⟩ bad, fun _ _ _ bad => absurd (j3.symm.trans bad) (by decide), fun t' s' _ es' ls' et _ _ G10 s10 => ?_⟩
            cases d_inj et
            obtain rfl := Int.ofNat.inj es'
            refine ⟨rfl, _, rfl, ite_no ?_ ⟨_, _, _, _, rfl, P9.same s10, T9.extN (ExtN.same s10)⟩⟩
            have dz : ∀ v : V, (!decide (v = v)) = false := fun v => by
              rw [decide_eq_true rfl]
              rfl
            exact dz _
        · rintro σ G ⟨y9, y10, y11, vs, rfl, P, _⟩
          exact ⟨_, _, _, vs, rfl, P⟩
      clear P0
      rintro σ G3 ⟨x9, x10, x11, vs, rfl, P⟩
      obtain ⟨v3, e3⟩ : ∃ v3, vs[3]? = some v3 := ⟨_, List.getElem?_eq_getElem (by rw [P.S.n]; decide)⟩
      have diag : ∀ k x, SM M 0 0 (k, x) → k = x := fun k x hS => by
        obtain ⟨u, e⟩ := mv_gen2 hS
        have a1 := congrArg Prod.fst e
        have a2 := congrArg Prod.snd e
        exact a1.trans a2.symm
      have h3 := P.S.h 3 v3 e3
      cases h3 with
      | conf p kk x y hp hC =>
        have b1 := diag _ _ hC.1
        have b2 := diag _ _ hC.2.1
        have b3 := hC.2.2.1
        exact absurd b3 (by omega)
      | map p dd L hp hd _ hl fn as mm =>
      refine ⟨_, rfl, lr, _, _, _, rfl, rfl, SqL.here P.S.l, atI_nat (j := 3) e3, p, _, _, V.str "map", rfl, rfl, SqT.here hp, atI_nat (j := 0) rfl, rfl, _, rfl, ite2 (fun c => ?_) (fun _ => ?_)⟩
      · have dz : ∀ v : V, (!decide (v = v)) = false := fun v => by
          rw [decide_eq_true rfl]
          rfl
        exact absurd ((dz _).symm.trans c) (by decide)
      refine ⟨dd, _, hd, trivial, fun od => ?_⟩
      have hfz : (upd G3 dd (.frz od (.dK ((L.map cI).map kII)))) dd = some (.frz od (.dK ((L.map cI).map kII))) := upd_same
      have fat : ∀ {b : Addr} {o : HO}, b ≠ dd → G3 b = some o → (upd G3 dd (.frz od (.dK ((L.map cI).map kII)))) b = some o := fun {b o} n e => by rw [upd_ne n]; exact e
      have nlrd : lr ≠ dd := ne_of P.S.l hd (by intro z; cases z)
      have hlF := fat nlrd P.S.l
      have hpF := fat (ne_of hp hd (by intro z; cases z)) hp
      have und : ∀ G', Same (upd G3 dd (.frz od (.dK ((L.map cI).map kII)))) G' → Same G3 (upd G' dd (.dK ((L.map cI).map kII))) := fun G' s b o e => by
        by_cases n : b = dd
        · rw [n, upd_same, ← hd, ← n]
          exact e
        · rw [upd_ne n]
          exact s _ _ (fat n e)
      generalize (upd G3 dd (.frz od (.dK ((L.map cI).map kII)))) = GF at *
      refine ⟨_, rfl, lr, _, _, _, rfl, rfl, SqL.here hlF, atI_nat (j := 3) e3, p, _, _, V.ref dd, rfl, rfl, SqT.here hpF, atI_nat (j := 1) rfl, dd, od, rfl, .inl ⟨_, hfz, fun D nD => lc_it walk_keys (fun n G' => Same GF G' ∧ G' D = some (.lst (List.replicate n (V.bl true)))) ⟨Same.new nD _, upd_same⟩ (fun n G' _ h => h.1 _ _ hfz) ?_ ?_⟩⟩
      · rintro n x G4 G5 hn ⟨sG, hD⟩ ⟨rfl, k, v, hkv, rfl⟩
        rw [List.getElem?_map, List.getElem?_map] at hkv
        obtain ⟨y, hy, ey⟩ := Option.map_eq_some_iff.mp hkv
        obtain ⟨z, hz, rfl⟩ := Option.map_eq_some_iff.mp hy
        have hzm := List.mem_of_getElem? hz
        have ek : (Sum.inl (z.1 : Int) : Key) = k := congrArg Prod.fst ey
        subst ek
        have hzz : z.1 = z.2 := diag _ _ ((mm z).mp hzm)
        have hget : ∃ kvs k', Rd G5 dd (.dK kvs) ∧ L2.kV (Sum.inl (z.1 : Int)) = L2.kV k' ∧ some (V.int (z.2 : Int)) = valV kvs k' := ⟨_, Sum.inl (z.1 : Int), .inr ⟨_, sG _ _ hfz⟩, rfl, (map_val as hzm).symm⟩
        have hn2 : n < L.length := (List.getElem?_eq_some_iff.mp hz).1
        refine ⟨rfl, ?_⟩
        delta tYes
        simp only [if_true]
        refine ⟨_, rfl, lr, _, _, _, rfl, rfl, SqL.here (sG _ _ hlF), atI_nat (j := 3) e3, p, _, _, V.ref dd, rfl, rfl, SqT.here (sG _ _ hpF), atI_nat (j := 1) rfl, _, rfl, dd, V.int (z.2 : Int), rfl, .inl hget, _, rfl, rfl, _, hD, by rw [List.length_replicate]; exact small1000 (by omega), fun b o e => ?_, ?_⟩
        · rw [upd_ne (ne_of_none e nD)]
          exact sG _ _ e
        · rw [upd_same, List.replicate_succ']
          have : decide (V.int (z.2 : Int) = L2.kV (Sum.inl (z.1 : Int))) = true := by
            rw [← hzz]
            exact decide_eq_true rfl
          rw [this]
      rintro G4 ⟨sG, hD⟩
      have sU := und _ sG
      have nDd : D ≠ dd := fun e => by rw [e, hfz] at nD; cases nD
      refine ⟨sG _ _ hfz, D, List.replicate _ true, rfl, SqL.here (by rw [upd_ne nDd, hD, List.map_replicate]), ?_⟩
      rw [all_rep]
      have P5 := P.same sU
      clear hD und sG hfz hlF hpF fat P nD nDd
      generalize (upd G4 dd (.dK ((L.map cI).map kII))) = G5 at *
      refine ⟨_, rfl, iteF ?_⟩
      clear hp hd hl fn as mm diag e3

      refine ⟨fun σ G => ∃ x12 : Option V, σ = [some (.ref a), some (.ref r), some (.int (0 + i)), some (.ref lm), some (.ref ls), x5, x6, some vt, some (.ref lr), x9, x10, x11, x12, x13, x14, x15, none] ∧ Lp82 K [(Pa, pmQ), (Pb, hmQ)] r cc lm ls lr M vt t 4 vs G, ?_, ?_⟩
      · obtain ⟨v0, e0⟩ : ∃ v0, vs[0]? = some v0 := ⟨_, List.getElem?_eq_getElem (by rw [P5.S.n]; decide)⟩
        obtain ⟨v1, e1⟩ : ∃ v1, vs[1]? = some v1 := ⟨_, List.getElem?_eq_getElem (by rw [P5.S.n]; decide)⟩
        obtain ⟨v2, e2⟩ : ∃ v2, vs[2]? = some v2 := ⟨_, List.getElem?_eq_getElem (by rw [P5.S.n]; decide)⟩
        have h0 := P5.S.h 0 v0 e0
        have h1 := P5.S.h 1 v1 e1
        have h2 := P5.S.h 2 v2 e2
        cases h0 with
        | conf p kk x y hp hC =>
          refine ⟨_, rfl, lr, _, _, _, rfl, rfl, SqL.here P5.S.l, atI_nat (j := 0) e0, p, _, _, V.str "conflict", rfl, rfl, SqT.here hp, atI_nat (j := 0) rfl, rfl, _, rfl, ite2 (fun c => ?_) (fun _ => iteF ⟨_, rfl, P5⟩)⟩
          rw [neMap] at c
          exact absurd (of_decide_eq_true c) (by decide)
        | map p0 d0 L0 hp0 hd0 _ hl0 fn0 as0 mm0 =>
        refine ⟨_, rfl, lr, _, _, _, rfl, rfl, SqL.here P5.S.l, atI_nat (j := 0) e0, p0, _, _, V.str "map", rfl, rfl, SqT.here hp0, atI_nat (j := 0) rfl, rfl, _, rfl, ite2 (fun _ => ?_) (fun c => absurd (by rw [neMap]; decide) c)⟩
        cases h1 with
        | conf p kk x y hp hC =>
          refine ⟨_, rfl, lr, _, _, _, rfl, rfl, SqL.here P5.S.l, atI_nat (j := 1) e1, p, _, _, V.str "conflict", rfl, rfl, SqT.here hp, atI_nat (j := 0) rfl, rfl, _, rfl, ite2 (fun c => ?_) (fun _ => ⟨_, rfl, P5⟩)⟩
          rw [neMap] at c
          exact absurd (of_decide_eq_true c) (by decide)
        | map p1 d1 L1 hp1 hd1 _ hl1 fn1 as1 mm1 =>
        refine ⟨_, rfl, lr, _, _, _, rfl, rfl, SqL.here P5.S.l, atI_nat (j := 1) e1, p1, _, _, V.str "map", rfl, rfl, SqT.here hp1, atI_nat (j := 0) rfl, rfl, _, rfl, ite2 (fun _ => ?_) (fun c => absurd (by rw [neMap]; decide) c)⟩
        obtain ⟨al1, al2⟩ := along_of mm0 mm1 fn0 fn1
        have asA : (L0.map fun z => (z.1, fval L1 z.2)).Pairwise fun x y => x.1 < y.1 := by
          rw [List.pairwise_map]
          exact as0
        have ksa : (L0.map fun z => (z.1 : Int)).Pairwise (· ≤ ·) := by
          rw [List.pairwise_map]
          exact as0.imp fun {x y} h => by omega
        refine ⟨_, rfl, lr, _, _, _, rfl, rfl, SqL.here P5.S.l, atI_nat (j := 0) e0, p0, _, _, V.ref d0, rfl, rfl, SqT.here hp0, atI_nat (j := 1) rfl, d0, _, L0.map (fun z => (z.1 : Int)), rfl, .inl hd0, (by rw [List.map_map, List.map_map, List.map_map]; rfl), fun ys pz hyp hys npz => ?_⟩
        obtain rfl := sorted_eq hyp hys ksa
        have s6 := Same.new npz (.lst ((L0.map fun z => (z.1 : Int)).map V.int))
        have hpz : (upd G5 pz (.lst ((L0.map fun z => (z.1 : Int)).map V.int))) pz = some (.lst ((L0.map fun z => (z.1 : Int)).map V.int)) := upd_same
        have P6 := P5.same s6
        have hp06 := s6 _ _ hp0
        have hd06 := s6 _ _ hd0
        have hp16 := s6 _ _ hp1
        have hd16 := s6 _ _ hd1
        have h26 := h2.same (ExtN.same s6)
        clear P5 hp0 hd0 hp1 hd1 h2 s6 npz hyp hys
        generalize (upd G5 pz (.lst ((L0.map fun z => (z.1 : Int)).map V.int))) = G6 at *
        refine ⟨pz, rfl, ⟨_, SqL.here hpz⟩, fun D nD => lc_list (xs := (L0.map fun z => (z.1 : Int)).map V.int) (fun n G' => Same G6 G' ∧ ∃ Lx : List (Addr × Nat × Nat), G' D = some (.lst (Lx.map rV)) ∧ Lx.map (·.2) = (L0.map fun z => (z.1, fval L1 z.2)).take n ∧ ∀ x ∈ Lx, G' x.1 = some (.tup [.int (x.2.1 : Int), .int (x.2.2 : Int)])) ⟨Same.new nD _, [], upd_same, rfl, (fun _ z => nomatch z)⟩ (fun n G' _ h => SqL.here (h.1 _ _ hpz)) ?_ ?_⟩
        · rintro n x G7 hx ⟨sG, Lx, hD, hLx, hT⟩
          rw [List.getElem?_map, List.getElem?_map] at hx
          obtain ⟨y, hy, rfl⟩ := Option.map_eq_some_iff.mp hx
          obtain ⟨z, hz, rfl⟩ := Option.map_eq_some_iff.mp hy
          have hzm := List.mem_of_getElem? hz
          have hn2 := (List.getElem?_eq_some_iff.mp hz).1
          have g0 : ∃ kvs k', Rd G7 d0 (.dK kvs) ∧ V.int (z.1 : Int) = L2.kV k' ∧ some (V.int (z.2 : Int)) = valV kvs k' := ⟨_, Sum.inl (z.1 : Int), .inl (sG _ _ hd06), rfl, (map_val as0 hzm).symm⟩
          have g1 : ∃ kvs k', Rd G7 d1 (.dK kvs) ∧ V.int (z.2 : Int) = L2.kV k' ∧ some (V.int (fval L1 z.2 : Int)) = valV kvs k' := ⟨_, Sum.inl (z.2 : Int), .inl (sG _ _ hd16), rfl, (map_val as1 (al1 z hzm)).symm⟩
          refine ⟨rfl, ?_⟩
          delta tYes
          simp only [if_true]
          refine ⟨_, rfl, _, rfl, lr, _, _, _, rfl, rfl, SqL.here (sG _ _ P6.S.l), atI_nat (j := 1) e1, p1, _, _, V.ref d1, rfl, rfl, SqT.here (sG _ _ hp16), atI_nat (j := 1) rfl, _, rfl, lr, _, _, _, rfl, rfl, SqL.here (sG _ _ P6.S.l), atI_nat (j := 0) e0, p0, _, _, V.ref d0, rfl, rfl, SqT.here (sG _ _ hp06), atI_nat (j := 1) rfl, _, rfl, d0, V.int (z.2 : Int), rfl, .inl g0, d1, V.int (fval L1 z.2 : Int), rfl, .inl g1, two_le, fun q nq => ?_⟩
          have sq := Same.new nq (.tup [.int (z.1 : Int), .int (fval L1 z.2 : Int)])
          have hq : (upd G7 q (.tup [.int (z.1 : Int), .int (fval L1 z.2 : Int)])) q = some (.tup [.int (z.1 : Int), .int (fval L1 z.2 : Int)]) := upd_same
          have hD8 := sq _ _ hD
          have sG8 := sG.trans sq
          have hT8 : ∀ x ∈ Lx, (upd G7 q (.tup [.int (z.1 : Int), .int (fval L1 z.2 : Int)])) x.1 = some (.tup [.int (x.2.1 : Int), .int (x.2.2 : Int)]) := fun x hx => sq _ _ (hT x hx)
          have hlen : Lx.length ≤ 144 := by
            have := congrArg List.length hLx
            rw [List.length_map, List.length_take, List.length_map] at this
            omega
          refine ⟨_, hD8, by rw [List.length_map]; exact small1000 (by omega), fun b o e => ?_, Lx ++ [(q, z.1, fval L1 z.2)], by rw [upd_same, List.map_append]; rfl, ?_, fun x hx => ?_⟩
          · rw [upd_ne (ne_of_none e nD)]
            exact sG8 _ _ e
          · have e9 : (L0.map fun z => (z.1, fval L1 z.2))[n]? = some (z.1, fval L1 z.2) := by rw [List.getElem?_map, hz]; rfl
            rw [List.map_append, hLx, take_snoc e9]
            rfl
          · rcases List.mem_append.mp hx with hx | hx
            · have h9 := hT8 x hx
              rw [upd_ne (ne_of h9 hD8 (by intro z; cases z))]
              exact h9
            · rw [List.mem_singleton.mp hx]
              rw [upd_ne (ne_of hq hD8 (by intro z; cases z))]
              exact hq
        rintro G7 ⟨sG, Lx, hD, hLx, hT⟩
        rw [List.length_map, List.take_of_length_le (by rw [List.length_map, List.length_map]; exact Nat.le_refl _)] at hLx
        have P7 := P6.same sG
        have h27 := h26.same (ExtN.same sG)
        have hps : SqL K G7 D ((Lx.map (·.1)).map V.ref) := by
          rw [List.map_map]
          exact SqL.here hD
        cases h27 with
        | conf p kk x y hp hC =>
          have m1 := (al2 _).mpr hC.1
          have m2 := (al2 _).mpr hC.2.1
          have w1 := map_val asA m1
          have w2 := map_val asA m2
          rw [w1] at w2
          have w3 : (x : Int) = (y : Int) := V.int.inj (Option.some.inj w2)
          have := hC.2.2.1
          exact absurd this (by omega)
        | map p2 d2 L2 hp2 hd2 _ hl2 fn2 as2 mm2 =>
        obtain rfl := asc_uniq as2 asA fun z => (mm2 z).trans (al2 z).symm
        have em := merge_cI (L0.map fun z => (z.1, fval L1 z.2)) [] asA (fun _ z => nomatch z)
        refine ⟨_, rfl, lr, _, _, _, rfl, rfl, SqL.here P7.S.l, atI_nat (j := 2) e2, _, rfl, D, _, _, rfl, hps, paired_cI hT, fun dn ndn => ⟨(show 2 ≤ sizeLine by decide), fun tn ntn => ?_⟩⟩
        have em2 : mergeK [] (((Lx.map (·.2)).map cI).map kII) = ((L0.map fun z => (z.1, fval L1 z.2)).map cI).map kII := by
          rw [hLx]
          exact em
        rw [em2] at ntn ⊢
        have u1 := Same.new ndn (.dK (((L0.map fun z => (z.1, fval L1 z.2)).map cI).map kII))
        have u2 := Same.new ntn (.tup [.str "map", .ref dn])
        have nd : (((L0.map fun z => (z.1, fval L1 z.2)).map cI).map (·.1)).Nodup := by
          rw [List.map_map]
          refine List.pairwise_map.mpr (asA.imp fun {x y} h e => ?_)
          have e : (x.1 : Int) = (y.1 : Int) := e
          omega
        refine ⟨p2, tn, d2, dn, "map", (L0.map fun z => (z.1, fval L1 z.2)).map cI, rfl, rfl, (u1.trans u2) _ _ hp2, upd_same, (u1.trans u2) _ _ hd2, u2 _ _ upd_same, nd, _, rfl, iteF ⟨_, rfl, P7.same (u1.trans u2)⟩⟩
      clear P5
      rintro σ G6 ⟨x12, rfl, P⟩
      obtain ⟨sa, oka, la, ea1, ea2⟩ := spMd_ok P.F (show 0 < M.length by omega) hM
      obtain ⟨sb, okb, lb, eb1, eb2⟩ := spMd_ok P.F (show 1 < M.length by omega) hM
      generalize (M.getD 0 (0, [], 0)).1 = p0 at *
      generalize (M.getD 1 (0, [], 0)).1 = p1 at *
      generalize (M.getD 0 (0, [], 0)).2.1 = r0 at *
      generalize (M.getD 1 (0, [], 0)).2.1 = r1 at *
      generalize (M.getD 0 (0, [], 0)).2.2 = s0 at *
      generalize (M.getD 1 (0, [], 0)).2.2 = s1 at *
      obtain ⟨qa, MA⟩ := sa.1.n oka
      obtain ⟨qb, MB⟩ := sb.1.n okb
      have n1 := MA.n1
      have n2 := MA.n2
      have m1 := MB.n1
      have m2 := MB.n2
      have em : ((r0.length : Int) * (r1.length : Int)) = ((r0.length * r1.length : Nat) : Int) := (Int.natCast_mul _ _).symm
      refine ⟨_, rfl, lm, _, _, _, rfl, rfl, SqL.here P.F.m, atI_nat (j := 0) ea1, p0, _, rfl, .inr MA.S, ?_⟩
      rw [List.length_map, MA.len]
      refine ⟨_, rfl, lm, _, _, _, rfl, rfl, SqL.here P.F.m, atI_nat (j := 1) eb1, p1, _, rfl, .inr MB.S, ?_⟩
      rw [List.length_map, MB.len]
      refine ⟨_, _, rfl, rfl, .inl ⟨by omega, by omega⟩, ?_⟩
      refine ⟨_, _, rfl, rfl, _, rfl, ite2 (fun c1 => ?_) (fun c1 => ⟨_, _, _, _, _, _, _, _, _, _, _, _, _, _, rfl, P.F.R, P.F.t⟩)⟩
      have c1 : ((r0.length : Int) * (r1.length : Int)) < 13 := of_decide_eq_true c1
      rw [em] at c1
      have small : r0.length * r1.length ≤ 12 := by omega
      refine ⟨_, rfl, lm, _, _, _, rfl, rfl, SqL.here P.F.m, atI_nat (j := 0) ea1, _, rfl, lm, _, _, _, rfl, rfl, SqL.here P.F.m, atI_nat (j := 1) eb1, p0, p1, r0, r1, rfl, sa, sb, P.F.t, fun bad => by rcases bad with z | z <;> simp_all, fun _ _ big => absurd big (by omega), fun _ _ _ pp G7 e7 t7 M7 => ?_⟩
      have P7 := P.extN e7 t7
      have MA7 := MA.tp (Tp.extN e7)
      have MB7 := MB.tp (Tp.extN e7)
      have SB7 := sb.1.tp (Tp.extN e7)
      clear P MA MB sa sb
      refine ⟨_, rfl, lm, _, _, _, rfl, rfl, SqL.here P7.F.m, atI_nat (j := 1) eb1, p1, _, rfl, .inr MB7.S, ?_⟩
      rw [List.length_map, MB7.len]
      refine ⟨two_le, fun pt npt => ⟨pt, _, rfl, SqT.here upd_same, rfl, _, _, rfl, _, _, rfl, rfl, ?_⟩⟩
      have st := Same.new npt (.tup [.ref pp, .int (r1.length : Int)])
      have P8 := P7.same st
      have MA8 := MA7.tp (Tp.same st)
      have MB8 := MB7.tp (Tp.same st)
      have M8 := M7.tp (Tp.same st)
      have SB8 := SB7.tp (Tp.same st)
      clear P7 MA7 MB7 M7 st npt
      generalize (upd G7 pt (.tup [.ref pp, .int (r1.length : Int)])) = G8 at *
      have okp := okM_rowsOf (n := r0.length * r1.length) (op := jo r0 r1 r1.length) (Nat.mul_pos n1 m1) small fun a b ha hb => jo_lt MA8 MB8 ha hb
      have lN : s0 * r1.length + s1 < r0.length * r1.length := by
        have := Nat.mul_le_mul_right r1.length (show s0 + 1 ≤ r0.length from la)
        rw [Nat.add_mul, Nat.one_mul] at this
        omega
      have eN : ((s0 : Int) * (r1.length : Int) + (s1 : Int)) = ((s0 * r1.length + s1 : Nat) : Int) := by
        rw [Int.natCast_add, Int.natCast_mul]
      have lenP : (rowsOf (r0.length * r1.length) (jo r0 r1 r1.length)).length = r0.length * r1.length := rowsOf_len _ _
      refine ⟨_, rfl, _, rfl, ls, _, _, _, rfl, rfl, SqL.here P8.F.s, atI_nat (j := 0) ea2, _, rfl, _, _, rfl, rfl, .inl ⟨by omega, by omega⟩, _, rfl, ls, _, _, _, rfl, rfl, SqL.here P8.F.s, atI_nat (j := 1) eb2, _, _, rfl, rfl, _, rfl, lm, _, _, _, rfl, rfl, SqL.here P8.F.m, atI_nat (j := 1) eb1, _, rfl, ls, _, _, _, rfl, rfl, SqL.here P8.F.s, atI_nat (j := 1) eb2, ?_⟩
      refine ⟨pp, p1, rowsOf (r0.length * r1.length) (jo r0 r1 r1.length), r1, _, _, rfl, MdS.of M8 okp, MdS.of SB8 okb, P8.F.t, fun bad => absurd (okp.symm.trans bad) (by decide), fun _ bad => absurd (by rw [lenP]; omega) bad, fun _ _ _ bad => absurd (okb.symm.trans bad) (by decide), fun _ _ _ _ bad => absurd ⟨by omega, by omega⟩ bad, fun _ _ a' b' ea eb _ _ v G9 e9 t9 hv => ?_⟩
      obtain rfl : s1 = b' := Int.ofNat.inj eb
      have ea2' : a' = s0 * r1.length + s1 := by
        have ea : ((s0 : Int) * (r1.length : Int) + (s1 : Int)) = (a' : Int) := ea
        rw [eN] at ea
        omega
      subst ea2'
      have key : ∀ k y, Gen (pop2 (ev (rowsOf (r0.length * r1.length) (jo r0 r1 r1.length))) (ev r1)) (s0 * r1.length + s1, s1) (k, y) → y = k % r1.length := fun k y hS => by
        obtain ⟨u, e⟩ := mv_gen2 hS
        have a1 : k = _ := congrArg Prod.fst e
        have a2 : y = _ := congrArg Prod.snd e
        have a3 := jo_mv MA8 MB8 la lb u
        have a4 := mv_lt MB8 lb u
        rw [a1, a2]
        show u.mv r1 s1 = (u.mv (rowsOf (r0.length * r1.length) (jo r0 r1 r1.length)) (s0 * r1.length + s1)) % r1.length
        rw [a3, Nat.mul_comm, Nat.mul_add_mod, Nat.mod_eq_of_lt a4]
      have P9 := P8.extN e9 t9
      clear P8 MA8 MB8 M8 SB8 e9 t9
      cases hv with
      | conf p kk x y hp hC =>
        have b1 := key _ _ hC.1
        have b2 := key _ _ hC.2.1
        have b3 := hC.2.2.1
        exact absurd b3 (by omega)
      | map p dd L hp hd _ hl fn as mm =>
      refine ⟨_, rfl, p, _, _, V.str "map", rfl, rfl, SqT.here hp, atI_nat (j := 0) rfl, rfl, _, rfl, ite2 (fun c => ?_) (fun _ => ?_)⟩
      · have dz : ∀ v : V, (!decide (v = v)) = false := fun v => by
          rw [decide_eq_true rfl]
          rfl
        exact absurd ((dz _).symm.trans c) (by decide)
      refine ⟨dd, _, hd, trivial, fun od => ?_⟩
      have hfz : (upd G9 dd (.frz od (.dK ((L.map cI).map kII)))) dd = some (.frz od (.dK ((L.map cI).map kII))) := upd_same
      have fat : ∀ {b : Addr} {o : HO}, b ≠ dd → G9 b = some o → (upd G9 dd (.frz od (.dK ((L.map cI).map kII)))) b = some o := fun {b o} n e => by rw [upd_ne n]; exact e
      have hpF := fat (ne_of hp hd (by intro z; cases z)) hp
      have und : ∀ G', Same (upd G9 dd (.frz od (.dK ((L.map cI).map kII)))) G' → Same G9 (upd G' dd (.dK ((L.map cI).map kII))) := fun G' s b o e => by
        by_cases n : b = dd
        · rw [n, upd_same, ← hd, ← n]
          exact e
        · rw [upd_ne n]
          exact s _ _ (fat n e)
      generalize (upd G9 dd (.frz od (.dK ((L.map cI).map kII)))) = GF at *
      refine ⟨_, rfl, p, _, _, V.ref dd, rfl, rfl, SqT.here hpF, atI_nat (j := 1) rfl, dd, od, rfl, .inl ⟨_, hfz, fun D nD => lc_it walk_keys (fun n G' => Same GF G' ∧ G' D = some (.lst (List.replicate n (V.bl true)))) ⟨Same.new nD _, upd_same⟩ (fun n G' _ h => h.1 _ _ hfz) ?_ ?_⟩⟩
      · rintro n x G4 G5 hn ⟨sG, hD⟩ ⟨rfl, k, v, hkv, rfl⟩
        rw [List.getElem?_map, List.getElem?_map] at hkv
        obtain ⟨y, hy, ey⟩ := Option.map_eq_some_iff.mp hkv
        obtain ⟨z, hz, rfl⟩ := Option.map_eq_some_iff.mp hy
        have hzm := List.mem_of_getElem? hz
        have ek : (Sum.inl (z.1 : Int) : Key) = k := congrArg Prod.fst ey
        subst ek
        have hzz : z.2 = z.1 % r1.length := key _ _ ((mm z).mp hzm)
        have hget : ∃ kvs k', Rd G5 dd (.dK kvs) ∧ L2.kV (Sum.inl (z.1 : Int)) = L2.kV k' ∧ some (V.int (z.2 : Int)) = valV kvs k' := ⟨_, Sum.inl (z.1 : Int), .inr ⟨_, sG _ _ hfz⟩, rfl, (map_val as hzm).symm⟩
        have hn2 : n < L.length := (List.getElem?_eq_some_iff.mp hz).1
        refine ⟨rfl, ?_⟩
        delta tYes
        simp only [if_true]
        refine ⟨_, rfl, p, _, _, V.ref dd, rfl, rfl, SqT.here (sG _ _ hpF), atI_nat (j := 1) rfl, _, rfl, dd, V.int (z.2 : Int), rfl, .inl hget, _, rfl, _, rfl, _, _, rfl, rfl, (by show (0 : Int) < (r1.length : Int); omega), rfl, _, hD, by rw [List.length_replicate]; exact small1000 (by omega), fun b o e => ?_, ?_⟩
        · rw [upd_ne (ne_of_none e nD)]
          exact sG _ _ e
        · rw [upd_same, List.replicate_succ']
          have : decide (V.int (z.2 : Int) = V.int ((z.1 : Int) % (r1.length : Int))) = true := by
            rw [hzz, Int.natCast_emod]
            exact decide_eq_true rfl
          rw [this]
      rintro G4 ⟨sG, hD⟩
      have sU := und _ sG
      have nDd : D ≠ dd := fun e => by rw [e, hfz] at nD; cases nD
      refine ⟨sG _ _ hfz, D, List.replicate _ true, rfl, SqL.here (by rw [upd_ne nDd, hD, List.map_replicate]), ?_⟩
      rw [all_rep]
      have P5 := P9.same sU
      exact ⟨_, rfl, iteF ⟨_, _, _, _, _, _, _, _, _, _, _, _, _, _, rfl, P5.F.R, P5.F.t⟩⟩
  · rintro σ H2 ⟨x2, x3, x4, x5, x6, x7, x8, x9, x10, x11, x12, x13, x14, x15, rfl, R2, T2⟩
    exact q _

end
theorem kit_own {K : PySem.W.Frag} {C c : Addr} {b : Bool} (ne : (Value.ref C == Value.ref c) = false) (h1 : PySem.W.isClsIn K c = true) (h2 : PySem.W.typeIn K (.ref c) = some (.type "type")) (h3 : PySem.W.subIn K (.ref C) (.ref c) = some b) : PySem.W.kitOne K (.ref C) (.ref c) = some b := by
  have e2 : ((PySem.W.clsIn K c).isSome && PySem.W.typeIn K (.ref c) == some (.type "type")) = true := by
    have h1' : (PySem.W.clsIn K c).isSome = true := h1
    rw [h1', h2] <;> rfl
  unfold PySem.W.kitOne
  rw [ne, if_neg (by decide)]
  show (if ((PySem.W.clsIn K c).isSome && PySem.W.typeIn K (.ref c) == some (.type "type")) = true then PySem.W.subIn K (.ref C) (.ref c) else none) = some b
  rw [if_pos e2]
  exact h3
theorem codeHd_mk {K : PySem.W.Frag} {cL Pt : Addr} {edL : Option Addr} {vsL : Array Value} {slL : Array (Option Value)} {f18 : Str} {t18 t7 t10 : Tok} {i7 i10 : Int} {b9 : Bool} (lC : K.lookup cL = some ⟨.type "code", edL, .fields vsL, slL⟩) (h11 : vsL[11]? = some (.ref Pt)) (h18 : vsL.getD 18 .none = .str f18 t18)
    (h7 : vsL.getD 7 .none = .int i7 t7) (h9 : vsL.getD 9 .none = .bool b9) (h10 : vsL.getD 10 .none = .int i10 t10) (ne : (cL != Pt) = true) : PySem.W.codeHdIn K cL Pt = true := by
  unfold PySem.W.codeHdIn
  rw [lC]
  simp only [h11, h18, h7, h9, h10, ne, beq_self_eq_true, Bool.and_true, Bool.and_self]
theorem all_mk {l : PySem.W.OpenLaw} {w : World} {K : PySem.W.Frag} {h : Heap} {mg : Str → Option Value} {fa : Addr} (X : K.In h) (G : h.Ns mainGlobals mg) (hfa : mg "law" = some (.ref fa)) 
    {g0 g1 g2 g3 g4 g5 g6 g7 g8 g9 g10 g11 g12 g13 g14 g15 g16 g17 g18 g19 g20 : Addr}
    {od0 an0 od1 an1 od2 an2 od3 an3 od4 an4 od5 an5 od6 an6 od7 an7 od8 an8 od9 an9 od10 an10 od11 an11 od12 an12 od13 an13 od14 an14 od15 an15 od16 an16 od17 an17 od18 an18 od19 an19 od20 an20 : Option Addr}
    {sl0 sl1 sl2 sl3 sl4 sl5 sl6 sl7 sl8 sl9 sl10 sl11 sl12 sl13 sl14 sl15 sl16 sl17 sl18 sl19 sl20 : Array (Option Value)}
    {oc0 kV0 dc0 pm0 cd0 ct0 oc1 kV1 dc1 pm1 cd1 ct1 oc2 kV2 dc2 pm2 cd2 ct2 oc3 kV3 dc3 pm3 cd3 ct3 oc4 kV4 dc4 pm4 cd4 ct4 oc5 kV5 dc5 pm5 cd5 ct5 oc6 kV6 dc6 pm6 cd6 ct6 oc7 kV7 dc7 pm7 cd7 ct7 oc8 kV8 dc8 pm8 cd8 ct8 oc9 kV9 dc9 pm9 cd9 ct9 oc10 kV10 dc10 pm10 ct10 oc11 kV11 dc11 pm11 cd11 ct11 oc12 kV12 dc12 pm12 ct12 oc13 kV13 dc13 pm13 cd13 ct13 oc14 kV14 dc14 pm14 cd14 ct14 oc15 kV15 dc15 pm15 cd15 ct15 oc16 kV16 dc16 pm16 cd16 ct16 oc17 kV17 dc17 pm17 cd17 ct17 oc18 kV18 dc18 pm18 cd18 ct18 oc19 kV19 dc19 pm19 cd19 ct19 oc20 kV20 dc20 pm20 cd20 ct20 : Value}
    {cL Pt : Addr} {f18 : Str} {t18 t7 t10 : Tok} {i7 i10 : Int} {b9 : Bool} {edL : Option Addr} {vsL : Array Value} {slL : Array (Option Value)}
    {tc_MAX_SIZE : Tok}
    {tc_MAX_DEPTH : Tok}
    {tc_MAX_ROWS : Tok}
    {cA12 PA12 : Addr} {fA18_12 : Str} {tA18_12 tA7_12 tA10_12 : Tok} {iA7_12 iA10_12 : Int} {bA9_12 : Bool} {edA12 : Option Addr} {vsA12 : Array Value} {slA12 : Array (Option Value)}
     {ex0 : Addr} {ex1 : Addr} {ex2 : Addr} {ex3 : Addr}
    (a0 : PySem.W.nsIn K mainGlobals "is_pair" = some (some (.ref g0)))
    (l0 : K.lookup g0 = some ⟨oc0, od0, .func (PySem.W.fnOf "is_pair" "is_pair" (defArgs s_is_pair) (defBody s_is_pair) (defScope s_is_pair) .none kV0 dc0 pm0 an0 cd0 ct0), sl0⟩)
    (c0 : PySem.W.codeIn K cd0 "is_pair" = true)
    (k0 : PySem.W.keepIn K (.ref g0) = true)
    (a1 : PySem.W.nsIn K mainGlobals "is_term" = some (some (.ref g1)))
    (l1 : K.lookup g1 = some ⟨oc1, od1, .func (PySem.W.fnOf "is_term" "is_term" (defArgs s_is_term) (defBody s_is_term) (defScope s_is_term) .none kV1 dc1 pm1 an1 cd1 ct1), sl1⟩)
    (c1 : PySem.W.codeIn K cd1 "is_term" = true)
    (k1 : PySem.W.keepIn K (.ref g1) = true)
    (a2 : PySem.W.nsIn K mainGlobals "check_term" = some (some (.ref g2)))
    (l2 : K.lookup g2 = some ⟨oc2, od2, .func (PySem.W.fnOf "check_term" "check_term" (defArgs s_check_term) (defBody s_check_term) (defScope s_check_term) .none kV2 dc2 pm2 an2 cd2 ct2), sl2⟩)
    (c2 : PySem.W.codeIn K cd2 "check_term" = true)
    (k2 : PySem.W.keepIn K (.ref g2) = true)
    (a3 : PySem.W.nsIn K mainGlobals "is_row" = some (some (.ref g3)))
    (l3 : K.lookup g3 = some ⟨oc3, od3, .func (PySem.W.fnOf "is_row" "is_row" (defArgs s_is_row) (defBody s_is_row) (defScope s_is_row) .none kV3 dc3 pm3 an3 cd3 ct3), sl3⟩)
    (c3 : PySem.W.codeIn K cd3 "is_row" = true)
    (k3 : PySem.W.keepIn K (.ref g3) = true)
    (a4 : PySem.W.nsIn K mainGlobals "check_model" = some (some (.ref g4)))
    (l4 : K.lookup g4 = some ⟨oc4, od4, .func (PySem.W.fnOf "check_model" "check_model" (defArgs s_check_model) (defBody s_check_model) (defScope s_check_model) .none kV4 dc4 pm4 an4 cd4 ct4), sl4⟩)
    (c4 : PySem.W.codeIn K cd4 "check_model" = true)
    (k4 : PySem.W.keepIn K (.ref g4) = true)
    (a5 : PySem.W.nsIn K mainGlobals "check_start" = some (some (.ref g5)))
    (l5 : K.lookup g5 = some ⟨oc5, od5, .func (PySem.W.fnOf "check_start" "check_start" (defArgs s_check_start) (defBody s_check_start) (defScope s_check_start) .none kV5 dc5 pm5 an5 cd5 ct5), sl5⟩)
    (c5 : PySem.W.codeIn K cd5 "check_start" = true)
    (k5 : PySem.W.keepIn K (.ref g5) = true)
    (a6 : PySem.W.nsIn K mainGlobals "value_below" = some (some (.ref g6)))
    (l6 : K.lookup g6 = some ⟨oc6, od6, .func (PySem.W.fnOf "value_below" "value_below" (defArgs s_value_below) (defBody s_value_below) (defScope s_value_below) .none kV6 dc6 pm6 an6 cd6 ct6), sl6⟩)
    (c6 : PySem.W.codeIn K cd6 "value_below" = true)
    (k6 : PySem.W.keepIn K (.ref g6) = true)
    (a7 : PySem.W.nsIn K mainGlobals "value_of" = some (some (.ref g7)))
    (l7 : K.lookup g7 = some ⟨oc7, od7, .func (PySem.W.fnOf "value_of" "value_of" (defArgs s_value_of) (defBody s_value_of) (defScope s_value_of) .none kV7 dc7 pm7 an7 cd7 ct7), sl7⟩)
    (c7 : PySem.W.codeIn K cd7 "value_of" = true)
    (k7 : PySem.W.keepIn K (.ref g7) = true)
    (a8 : PySem.W.nsIn K mainGlobals "model_of" = some (some (.ref g8)))
    (l8 : K.lookup g8 = some ⟨oc8, od8, .func (PySem.W.fnOf "model_of" "model_of" (defArgs s_model_of) (defBody s_model_of) (defScope s_model_of) .none kV8 dc8 pm8 an8 cd8 ct8), sl8⟩)
    (c8 : PySem.W.codeIn K cd8 "model_of" = true)
    (k8 : PySem.W.keepIn K (.ref g8) = true)
    (a9 : PySem.W.nsIn K mainGlobals "joined_entry" = some (some (.ref g9)))
    (l9 : K.lookup g9 = some ⟨oc9, od9, .func (PySem.W.fnOf "joined_entry" "joined_entry" (defArgs s_joined_entry) (defBody s_joined_entry) (defScope s_joined_entry) .none kV9 dc9 pm9 an9 cd9 ct9), sl9⟩)
    (c9 : PySem.W.codeIn K cd9 "joined_entry" = true)
    (k9 : PySem.W.keepIn K (.ref g9) = true)
    (a10 : PySem.W.nsIn K mainGlobals "product_model" = some (some (.ref g10)))
    (l10 : K.lookup g10 = some ⟨oc10, od10, .func (PySem.W.fnOf "product_model" "product_model" (defArgs s_product_model) (defBody s_product_model) (defScope s_product_model) .none kV10 dc10 pm10 an10 (.ref cL) ct10), sl10⟩)
    (c10 : PySem.W.codeIn K (.ref cL) "product_model" = true)
    (k10 : PySem.W.keepIn K (.ref g10) = true)
    (a11 : PySem.W.nsIn K mainGlobals "generated" = some (some (.ref g11)))
    (l11 : K.lookup g11 = some ⟨oc11, od11, .func (PySem.W.fnOf "generated" "generated" (defArgs s_generated) (defBody s_generated) (defScope s_generated) .none kV11 dc11 pm11 an11 cd11 ct11), sl11⟩)
    (c11 : PySem.W.codeIn K cd11 "generated" = true)
    (k11 : PySem.W.keepIn K (.ref g11) = true)
    (a12 : PySem.W.nsIn K mainGlobals "homomorphism" = some (some (.ref g12)))
    (l12 : K.lookup g12 = some ⟨oc12, od12, .func (PySem.W.fnOf "homomorphism" "homomorphism" (defArgs s_homomorphism) (defBody s_homomorphism) (defScope s_homomorphism) .none kV12 dc12 pm12 an12 (.ref cA12) ct12), sl12⟩)
    (c12 : PySem.W.codeIn K (.ref cA12) "homomorphism" = true)
    (k12 : PySem.W.keepIn K (.ref g12) = true)
    (a13 : PySem.W.nsIn K mainGlobals "_law_draws" = some (some (.ref g13)))
    (l13 : K.lookup g13 = some ⟨oc13, od13, .func (PySem.W.fnOf "_law_draws" "_law_draws" (defArgs s__law_draws) (defBody s__law_draws) (defScope s__law_draws) .none kV13 dc13 pm13 an13 cd13 ct13), sl13⟩)
    (c13 : PySem.W.codeIn K cd13 "_law_draws" = true)
    (k13 : PySem.W.keepIn K (.ref g13) = true)
    (a14 : PySem.W.nsIn K mainGlobals "_law_draw" = some (some (.ref g14)))
    (l14 : K.lookup g14 = some ⟨oc14, od14, .func (PySem.W.fnOf "_law_draw" "_law_draw" (defArgs s__law_draw) (defBody s__law_draw) (defScope s__law_draw) .none kV14 dc14 pm14 an14 cd14 ct14), sl14⟩)
    (c14 : PySem.W.codeIn K cd14 "_law_draw" = true)
    (k14 : PySem.W.keepIn K (.ref g14) = true)
    (a15 : PySem.W.nsIn K mainGlobals "_law_comb" = some (some (.ref g15)))
    (l15 : K.lookup g15 = some ⟨oc15, od15, .func (PySem.W.fnOf "_law_comb" "_law_comb" (defArgs s__law_comb) (defBody s__law_comb) (defScope s__law_comb) .none kV15 dc15 pm15 an15 cd15 ct15), sl15⟩)
    (c15 : PySem.W.codeIn K cd15 "_law_comb" = true)
    (k15 : PySem.W.keepIn K (.ref g15) = true)
    (a16 : PySem.W.nsIn K mainGlobals "_law_term" = some (some (.ref g16)))
    (l16 : K.lookup g16 = some ⟨oc16, od16, .func (PySem.W.fnOf "_law_term" "_law_term" (defArgs s__law_term) (defBody s__law_term) (defScope s__law_term) .none kV16 dc16 pm16 an16 cd16 ct16), sl16⟩)
    (c16 : PySem.W.codeIn K cd16 "_law_term" = true)
    (k16 : PySem.W.keepIn K (.ref g16) = true)
    (a17 : PySem.W.nsIn K mainGlobals "_law_any_term" = some (some (.ref g17)))
    (l17 : K.lookup g17 = some ⟨oc17, od17, .func (PySem.W.fnOf "_law_any_term" "_law_any_term" (defArgs s__law_any_term) (defBody s__law_any_term) (defScope s__law_any_term) .none kV17 dc17 pm17 an17 cd17 ct17), sl17⟩)
    (c17 : PySem.W.codeIn K cd17 "_law_any_term" = true)
    (k17 : PySem.W.keepIn K (.ref g17) = true)
    (a18 : PySem.W.nsIn K mainGlobals "_law_table" = some (some (.ref g18)))
    (l18 : K.lookup g18 = some ⟨oc18, od18, .func (PySem.W.fnOf "_law_table" "_law_table" (defArgs s__law_table) (defBody s__law_table) (defScope s__law_table) .none kV18 dc18 pm18 an18 cd18 ct18), sl18⟩)
    (c18 : PySem.W.codeIn K cd18 "_law_table" = true)
    (k18 : PySem.W.keepIn K (.ref g18) = true)
    (a19 : PySem.W.nsIn K mainGlobals "_law_any_model" = some (some (.ref g19)))
    (l19 : K.lookup g19 = some ⟨oc19, od19, .func (PySem.W.fnOf "_law_any_model" "_law_any_model" (defArgs s__law_any_model) (defBody s__law_any_model) (defScope s__law_any_model) .none kV19 dc19 pm19 an19 cd19 ct19), sl19⟩)
    (c19 : PySem.W.codeIn K cd19 "_law_any_model" = true)
    (k19 : PySem.W.keepIn K (.ref g19) = true)
    (a20 : PySem.W.nsIn K mainGlobals "law" = some (some (.ref g20)))
    (l20 : K.lookup g20 = some ⟨oc20, od20, .func (PySem.W.fnOf "law" "law" (defArgs s_law) (defBody s_law) (defScope s_law) .none kV20 dc20 pm20 an20 cd20 ct20), sl20⟩)
    (c20 : PySem.W.codeIn K cd20 "law" = true)
    (k20 : PySem.W.keepIn K (.ref g20) = true)
    (z_len : PySem.W.nsIn K mainGlobals "len" = some none)
    (z_list : PySem.W.nsIn K mainGlobals "list" = some none)
    (z_tuple : PySem.W.nsIn K mainGlobals "tuple" = some none)
    (z_dict : PySem.W.nsIn K mainGlobals "dict" = some none)
    (z_bool : PySem.W.nsIn K mainGlobals "bool" = some none)
    (z_isinstance : PySem.W.nsIn K mainGlobals "isinstance" = some none)
    (z_max : PySem.W.nsIn K mainGlobals "max" = some none)
    (z_min : PySem.W.nsIn K mainGlobals "min" = some none)
    (z_range : PySem.W.nsIn K mainGlobals "range" = some none)
    (z_all : PySem.W.nsIn K mainGlobals "all" = some none)
    (z_sorted : PySem.W.nsIn K mainGlobals "sorted" = some none)
    (z_enumerate : PySem.W.nsIn K mainGlobals "enumerate" = some none)
    (z_sum : PySem.W.nsIn K mainGlobals "sum" = some none)
    (z_str : PySem.W.nsIn K mainGlobals "str" = some none)
    (z_int : PySem.W.nsIn K mainGlobals "int" = some none)
    (q_MAX_SIZE : PySem.W.nsIn K mainGlobals "MAX_SIZE" = some (some (.int 12 tc_MAX_SIZE)))
    (q_MAX_DEPTH : PySem.W.nsIn K mainGlobals "MAX_DEPTH" = some (some (.int 6 tc_MAX_DEPTH)))
    (q_MAX_ROWS : PySem.W.nsIn K mainGlobals "MAX_ROWS" = some (some (.int 12 tc_MAX_ROWS)))
    (lC : K.lookup cL = some ⟨.type "code", edL, .fields vsL, slL⟩)
    (lP11 : vsL[11]? = some (.ref Pt))
    (nP : K.lookup Pt = none)
    (v18 : vsL.getD 18 .none = .str f18 t18)
    (v7 : vsL.getD 7 .none = .int i7 t7)
    (v9 : vsL.getD 9 .none = .bool b9)
    (v10 : vsL.getD 10 .none = .int i10 t10)
    (vne : (cL != Pt) = true)
    (lC_12 : K.lookup cA12 = some ⟨.type "code", edA12, .fields vsA12, slA12⟩)
    (lP11_12 : vsA12[11]? = some (.ref PA12))
    (nP_12 : K.lookup PA12 = none)
    (v18_12 : vsA12.getD 18 .none = .str fA18_12 tA18_12)
    (v7_12 : vsA12.getD 7 .none = .int iA7_12 tA7_12)
    (v9_12 : vsA12.getD 9 .none = .bool bA9_12)
    (v10_12 : vsA12.getD 10 .none = .int iA10_12 tA10_12)
    (vne_12 : (cA12 != PA12) = true)
    (pne_12 : (Pt != PA12) = true)
    (ea0 : PySem.W.nsIn K mainGlobals "InvalidTerm" = some (some (.ref ex0)))
    (eq0 : PySem.W.excIn K ex0 [.type "ValueError", .type "Exception", .type "BaseException", .type "object"] "ValueError.__new__" = true)
    (ek0 : PySem.W.keepIn K (.ref ex0) = true)
    (eb0 : PySem.W.subIn K (.ref ex0) (.type "BaseException") = some true)
    (et0 : PySem.W.typeIn K (.ref ex0) = some (.type "type"))
    (ea1 : PySem.W.nsIn K mainGlobals "InvalidSize" = some (some (.ref ex1)))
    (eq1 : PySem.W.excIn K ex1 [.type "ValueError", .type "Exception", .type "BaseException", .type "object"] "ValueError.__new__" = true)
    (ek1 : PySem.W.keepIn K (.ref ex1) = true)
    (eb1 : PySem.W.subIn K (.ref ex1) (.type "BaseException") = some true)
    (et1 : PySem.W.typeIn K (.ref ex1) = some (.type "type"))
    (ea2 : PySem.W.nsIn K mainGlobals "InvalidIndex" = some (some (.ref ex2)))
    (eq2 : PySem.W.excIn K ex2 [.type "ValueError", .type "Exception", .type "BaseException", .type "object"] "ValueError.__new__" = true)
    (ek2 : PySem.W.keepIn K (.ref ex2) = true)
    (eb2 : PySem.W.subIn K (.ref ex2) (.type "BaseException") = some true)
    (et2 : PySem.W.typeIn K (.ref ex2) = some (.type "type"))
    (ea3 : PySem.W.nsIn K mainGlobals "InvalidModel" = some (some (.ref ex3)))
    (eq3 : PySem.W.excIn K ex3 [.type "ValueError", .type "Exception", .type "BaseException", .type "object"] "ValueError.__new__" = true)
    (ek3 : PySem.W.keepIn K (.ref ex3) = true)
    (eb3 : PySem.W.subIn K (.ref ex3) (.type "BaseException") = some true)
    (et3 : PySem.W.typeIn K (.ref ex3) = some (.type "type")) (tT_L : h.get? Pt = some { cls := .none, data := .fields #[] }) (tT_12 : h.get? PA12 = some { cls := .none, data := .fields #[] }) :
    LamX.LawAtS l w K CX0 64 63 "_law_script" mg fa h := by
  have e := hfa.symm.trans (PySem.W.mg_of X G a20)
  cases e
  have F0 := fun_mk (st := s_is_pair) l0 c0 k0
  have d_is_pair : D K mg "is_pair" s_is_pair ["part"] _ _ := ⟨F0, F0.binds (ps := ["part"]) fun _ _ _ _ _ _ us hl => match us, hl with | [_], _ => rfl, PySem.W.mg_of X G a0⟩
  have F1 := fun_mk (st := s_is_term) l1 c1 k1
  have d_is_term : D K mg "is_term" s_is_term ["term"] _ _ := ⟨F1, F1.binds (ps := ["term"]) fun _ _ _ _ _ _ us hl => match us, hl with | [_], _ => rfl, PySem.W.mg_of X G a1⟩
  have F2 := fun_mk (st := s_check_term) l2 c2 k2
  have d_check_term : D K mg "check_term" s_check_term ["term"] _ _ := ⟨F2, F2.binds (ps := ["term"]) fun _ _ _ _ _ _ us hl => match us, hl with | [_], _ => rfl, PySem.W.mg_of X G a2⟩
  have F3 := fun_mk (st := s_is_row) l3 c3 k3
  have d_is_row : D K mg "is_row" s_is_row ["row", "many"] _ _ := ⟨F3, F3.binds (ps := ["row", "many"]) fun _ _ _ _ _ _ us hl => match us, hl with | [_, _], _ => rfl, PySem.W.mg_of X G a3⟩
  have F4 := fun_mk (st := s_check_model) l4 c4 k4
  have d_check_model : D K mg "check_model" s_check_model ["model"] _ _ := ⟨F4, F4.binds (ps := ["model"]) fun _ _ _ _ _ _ us hl => match us, hl with | [_], _ => rfl, PySem.W.mg_of X G a4⟩
  have F5 := fun_mk (st := s_check_start) l5 c5 k5
  have d_check_start : D K mg "check_start" s_check_start ["model", "start"] _ _ := ⟨F5, F5.binds (ps := ["model", "start"]) fun _ _ _ _ _ _ us hl => match us, hl with | [_, _], _ => rfl, PySem.W.mg_of X G a5⟩
  have F6 := fun_mk (st := s_value_below) l6 c6 k6
  have d_value_below : D K mg "value_below" s_value_below ["model", "start", "term"] _ _ := ⟨F6, F6.binds (ps := ["model", "start", "term"]) fun _ _ _ _ _ _ us hl => match us, hl with | [_, _, _], _ => rfl, PySem.W.mg_of X G a6⟩
  have F7 := fun_mk (st := s_value_of) l7 c7 k7
  have d_value_of : D K mg "value_of" s_value_of ["model", "start", "term"] _ _ := ⟨F7, F7.binds (ps := ["model", "start", "term"]) fun _ _ _ _ _ _ us hl => match us, hl with | [_, _, _], _ => rfl, PySem.W.mg_of X G a7⟩
  have F8 := fun_mk (st := s_model_of) l8 c8 k8
  have d_model_of : D K mg "model_of" s_model_of ["many", "operation"] _ _ := ⟨F8, F8.binds (ps := ["many", "operation"]) fun _ _ _ _ _ _ us hl => match us, hl with | [_, _], _ => rfl, PySem.W.mg_of X G a8⟩
  have F9 := fun_mk (st := s_joined_entry) l9 c9 k9
  have d_joined_entry : D K mg "joined_entry" s_joined_entry ["one", "other", "a", "b"] _ _ := ⟨F9, F9.binds (ps := ["one", "other", "a", "b"]) fun _ _ _ _ _ _ us hl => match us, hl with | [_, _, _, _], _ => rfl, PySem.W.mg_of X G a9⟩
  have F10 := fun_mk (st := s_product_model) l10 c10 k10
  have d_product_model : D K mg "product_model" s_product_model ["one", "other"] _ _ := ⟨F10, F10.binds (ps := ["one", "other"]) fun _ _ _ _ _ _ us hl => match us, hl with | [_, _], _ => rfl, PySem.W.mg_of X G a10⟩
  have F11 := fun_mk (st := s_generated) l11 c11 k11
  have d_generated : D K mg "generated" s_generated ["start", "operation"] _ _ := ⟨F11, F11.binds (ps := ["start", "operation"]) fun _ _ _ _ _ _ us hl => match us, hl with | [_, _], _ => rfl, PySem.W.mg_of X G a11⟩
  have F12 := fun_mk (st := s_homomorphism) l12 c12 k12
  have d_homomorphism : D K mg "homomorphism" s_homomorphism ["one", "start", "other", "goal"] _ _ := ⟨F12, F12.binds (ps := ["one", "start", "other", "goal"]) fun _ _ _ _ _ _ us hl => match us, hl with | [_, _, _, _], _ => rfl, PySem.W.mg_of X G a12⟩
  have F13 := fun_mk (st := s__law_draws) l13 c13 k13
  have d__law_draws : D K mg "_law_draws" s__law_draws ["_law_script"] _ _ := ⟨F13, F13.binds (ps := ["_law_script"]) fun _ _ _ _ _ _ us hl => match us, hl with | [_], _ => rfl, PySem.W.mg_of X G a13⟩
  have F14 := fun_mk (st := s__law_draw) l14 c14 k14
  have d__law_draw : D K mg "_law_draw" s__law_draw ["_law_rng", "_law_amount"] _ _ := ⟨F14, F14.binds (ps := ["_law_rng", "_law_amount"]) fun _ _ _ _ _ _ us hl => match us, hl with | [_, _], _ => rfl, PySem.W.mg_of X G a14⟩
  have F15 := fun_mk (st := s__law_comb) l15 c15 k15
  have d__law_comb : D K mg "_law_comb" s__law_comb ["_law_many", "_law_onleft"] _ _ := ⟨F15, F15.binds (ps := ["_law_many", "_law_onleft"]) fun _ _ _ _ _ _ us hl => match us, hl with | [_, _], _ => rfl, PySem.W.mg_of X G a15⟩
  have F16 := fun_mk (st := s__law_term) l16 c16 k16
  have d__law_term : D K mg "_law_term" s__law_term ["_law_rng", "_law_many", "_law_cap"] _ _ := ⟨F16, F16.binds (ps := ["_law_rng", "_law_many", "_law_cap"]) fun _ _ _ _ _ _ us hl => match us, hl with | [_, _, _], _ => rfl, PySem.W.mg_of X G a16⟩
  have F17 := fun_mk (st := s__law_any_term) l17 c17 k17
  have d__law_any_term : D K mg "_law_any_term" s__law_any_term ["_law_rng", "_law_top"] _ _ := ⟨F17, F17.binds (ps := ["_law_rng", "_law_top"]) fun _ _ _ _ _ _ us hl => match us, hl with | [_, _], _ => rfl, PySem.W.mg_of X G a17⟩
  have F18 := fun_mk (st := s__law_table) l18 c18 k18
  have d__law_table : D K mg "_law_table" s__law_table ["_law_big"] _ _ := ⟨F18, F18.binds (ps := ["_law_big"]) fun _ _ _ _ _ _ us hl => match us, hl with | [_], _ => rfl, PySem.W.mg_of X G a18⟩
  have F19 := fun_mk (st := s__law_any_model) l19 c19 k19
  have d__law_any_model : D K mg "_law_any_model" s__law_any_model ["_law_rng", "_law_top"] _ _ := ⟨F19, F19.binds (ps := ["_law_rng", "_law_top"]) fun _ _ _ _ _ _ us hl => match us, hl with | [_, _], _ => rfl, PySem.W.mg_of X G a19⟩
  have F20 := fun_mk (st := s_law) l20 c20 k20
  have d_law : D K mg "law" s_law ["_law_script"] _ _ := ⟨F20, F20.binds (ps := ["_law_script"]) fun _ _ _ _ _ _ us hl => match us, hl with | [_], _ => rfl, PySem.W.mg_of X G a20⟩
  have B : Blt mg := ⟨PySem.W.mg_none_of X G z_len, PySem.W.mg_none_of X G z_list, PySem.W.mg_none_of X G z_tuple, PySem.W.mg_none_of X G z_dict, PySem.W.mg_none_of X G z_bool, PySem.W.mg_none_of X G z_isinstance, PySem.W.mg_none_of X G z_max, PySem.W.mg_none_of X G z_min, PySem.W.mg_none_of X G z_range, PySem.W.mg_none_of X G z_all, PySem.W.mg_none_of X G z_sorted, PySem.W.mg_none_of X G z_enumerate, PySem.W.mg_none_of X G z_sum, PySem.W.mg_none_of X G z_str, PySem.W.mg_none_of X G z_int⟩
  have EC0 : ErrC K mg "InvalidTerm" ex0 := ⟨eq0, PySem.W.mg_of X G ea0, ek0, eb0, et0⟩
  have EC1 : ErrC K mg "InvalidSize" ex1 := ⟨eq1, PySem.W.mg_of X G ea1, ek1, eb1, et1⟩
  have EC2 : ErrC K mg "InvalidIndex" ex2 := ⟨eq2, PySem.W.mg_of X G ea2, ek2, eb2, et2⟩
  have EC3 : ErrC K mg "InvalidModel" ex3 := ⟨eq3, PySem.W.mg_of X G ea3, ek3, eb3, et3⟩
  have hne_12 : Pt ≠ PA12 := fun z => by
    rw [z] at pne_12
    simp at pne_12
  refine ⟨PySem.W.fnOf "law" "law" (defArgs s_law) (defBody s_law) (defScope s_law) .none kV20 dc20 pm20 an20 cd20 ct20, [(cL, Pt), (cA12, PA12)], spLawTs K [Pt, PA12], ?_, ?_, ?_, fun s v => .of_eq rfl, fun H a ns hl hb hH hS => ⟨a, ns, rfl, hS, ?_, fun _ => rfl⟩, fun base _ _ hTB => ?_⟩
  · intro p hp
    rcases List.mem_cons.mp hp with e | hp
    · rw [e]
      exact tT_L
    rw [List.mem_singleton.mp hp]
    exact tT_12
  · intro p hp
    rcases List.mem_cons.mp hp with e | hp
    · rw [e]
      exact nP
    rw [List.mem_singleton.mp hp]
    exact nP_12
  · intro p hp
    rcases List.mem_cons.mp hp with e | hp
    · rw [e]
      exact PySem.W.codeHd_of_K X (codeHd_mk lC lP11 v18 v7 v9 v10 vne)
    rw [List.mem_singleton.mp hp]
    exact PySem.W.codeHd_of_K X (codeHd_mk lC_12 lP11_12 v18_12 v7_12 v9_12 v10_12 vne_12)
  · intro p hp
    rcases List.mem_cons.mp hp with e | hp
    · rw [e]
      exact hH (cL, Pt) List.mem_cons_self
    rw [List.mem_singleton.mp hp]
    exact hH (cA12, PA12) (List.mem_cons_of_mem _ List.mem_cons_self)
  · exact ok_law l10 c10 (hTB (cL, Pt) List.mem_cons_self) l12 c12 (hTB (cA12, PA12) (List.mem_cons_of_mem _ List.mem_cons_self)) hne_12 d_law B ⟨⟨_, PySem.W.mg_of X G q_MAX_SIZE⟩, ⟨_, PySem.W.mg_of X G q_MAX_DEPTH⟩⟩ EC0 EC1 EC2 EC3 (PySem.W.mg_of X G q_MAX_ROWS) d_product_model d_homomorphism d__law_draws d__law_draw d__law_term d__law_comb d__law_any_term d__law_table d__law_any_model d_is_row d_check_model d_check_start d_value_below d_value_of d_model_of d_joined_entry d_generated d_is_pair d_is_term d_check_term
theorem walk {l : PySem.W.OpenLaw} {q : Program} {loose : List Str} {XP : (Str → Option Value) → Heap → Prop} {YP : World → Heap → Prop} {d : DefRec} {K : Params → PySem.W.Frag} (hn : l.most = some 63) (hdf : d.params.defaults = [])
    (hY : ∀ (w : World) (h : Heap), YP w h → (K w.params).In h)
    (F : ∀ (w : World) (mg : Str → Option Value) (fa : Addr) (h : Heap), YP w h → (K w.params).In h → h.Ns mainGlobals mg → mg d.name = some (.ref fa) → LamX.LawAtS l w (K w.params) CX0 64 63 "_law_script" mg fa h) :
    PySem.W.WalkO q loose XP YP l.row.toRowW d [] (fun f vs => PySem.call f vs) :=
  LamX.walk_ofTs (n := 63) (k := 64) (x := "_law_script") (CX := fun _ => CX0) hn (by decide) hdf ⟨rfl, by decide, by decide⟩ hY F fun _ _ _ _ _ z => z
end U
open PySem PySem.W PyProof.Rows
set_option maxRecDepth 100000 in
set_option maxHeartbeats 0 in
theorem PySem.Challenge.cw_uponboth_k82_whole_composed_homomorphism_holds : PySem.Challenge.rw_uponboth_k82_whole_composed_homomorphism.Holds := by
  w_on; o_law; k_head; (case hw => w_witness2)
  k_fill
  refine U.walk (l := PySem.Challenge.rw_uponboth_k82_whole_composed_homomorphism) rfl rfl (fun w h Y => PySem.W.km_in_of Y) ?F
  case F =>
    intro w mg fa h Y KX G hmg
    refine' U.all_mk KX G hmg ?a0 ?l0 ?c0 ?k0 ?a1 ?l1 ?c1 ?k1 ?a2 ?l2 ?c2 ?k2 ?a3 ?l3 ?c3 ?k3 ?a4 ?l4 ?c4 ?k4 ?a5 ?l5 ?c5 ?k5 ?a6 ?l6 ?c6 ?k6 ?a7 ?l7 ?c7 ?k7 ?a8 ?l8 ?c8 ?k8 ?a9 ?l9 ?c9 ?k9 ?a10 ?l10 ?c10 ?k10 ?a11 ?l11 ?c11 ?k11 ?a12 ?l12 ?c12 ?k12 ?a13 ?l13 ?c13 ?k13 ?a14 ?l14 ?c14 ?k14 ?a15 ?l15 ?c15 ?k15 ?a16 ?l16 ?c16 ?k16 ?a17 ?l17 ?c17 ?k17 ?a18 ?l18 ?c18 ?k18 ?a19 ?l19 ?c19 ?k19 ?a20 ?l20 ?c20 ?k20 ?z_len ?z_list ?z_tuple ?z_dict ?z_bool ?z_isinstance ?z_max ?z_min ?z_range ?z_all ?z_sorted ?z_enumerate ?z_sum ?z_str ?z_int ?q_MAX_SIZE ?q_MAX_DEPTH ?q_MAX_ROWS ?lC ?lP11 ?nP ?v18 ?v7 ?v9 ?v10 ?vne ?lC_12 ?lP11_12 ?nP_12 ?v18_12 ?v7_12 ?v9_12 ?v10_12 ?vne_12 ?pne_12 ?ea0 ?eq0 ?ek0 ?eb0 ?et0 ?ea1 ?eq1 ?ek1 ?eb1 ?et1 ?ea2 ?eq2 ?ek2 ?eb2 ?et2 ?ea3 ?eq3 ?ek3 ?eb3 ?et3 ?tT_L ?tT_12
    (case a0 => k_is)
    (case l0 => k_is)
    (case c0 => k_is)
    (case k0 => k_is)
    (case a1 => k_is)
    (case l1 => k_is)
    (case c1 => k_is)
    (case k1 => k_is)
    (case a2 => k_is)
    (case l2 => k_is)
    (case c2 => k_is)
    (case k2 => k_is)
    (case a3 => k_is)
    (case l3 => k_is)
    (case c3 => k_is)
    (case k3 => k_is)
    (case a4 => k_is)
    (case l4 => k_is)
    (case c4 => k_is)
    (case k4 => k_is)
    (case a5 => k_is)
    (case l5 => k_is)
    (case c5 => k_is)
    (case k5 => k_is)
    (case a6 => k_is)
    (case l6 => k_is)
    (case c6 => k_is)
    (case k6 => k_is)
    (case a7 => k_is)
    (case l7 => k_is)
    (case c7 => k_is)
    (case k7 => k_is)
    (case a8 => k_is)
    (case l8 => k_is)
    (case c8 => k_is)
    (case k8 => k_is)
    (case a9 => k_is)
    (case l9 => k_is)
    (case c9 => k_is)
    (case k9 => k_is)
    (case a10 => k_is)
    (case l10 => k_is)
    (case c10 => k_is)
    (case k10 => k_is)
    (case a11 => k_is)
    (case l11 => k_is)
    (case c11 => k_is)
    (case k11 => k_is)
    (case a12 => k_is)
    (case l12 => k_is)
    (case c12 => k_is)
    (case k12 => k_is)
    (case a13 => k_is)
    (case l13 => k_is)
    (case c13 => k_is)
    (case k13 => k_is)
    (case a14 => k_is)
    (case l14 => k_is)
    (case c14 => k_is)
    (case k14 => k_is)
    (case a15 => k_is)
    (case l15 => k_is)
    (case c15 => k_is)
    (case k15 => k_is)
    (case a16 => k_is)
    (case l16 => k_is)
    (case c16 => k_is)
    (case k16 => k_is)
    (case a17 => k_is)
    (case l17 => k_is)
    (case c17 => k_is)
    (case k17 => k_is)
    (case a18 => k_is)
    (case l18 => k_is)
    (case c18 => k_is)
    (case k18 => k_is)
    (case a19 => k_is)
    (case l19 => k_is)
    (case c19 => k_is)
    (case k19 => k_is)
    (case a20 => k_is)
    (case l20 => k_is)
    (case c20 => k_is)
    (case k20 => k_is)
    (case z_len => k_is)
    (case z_list => k_is)
    (case z_tuple => k_is)
    (case z_dict => k_is)
    (case z_bool => k_is)
    (case z_isinstance => k_is)
    (case z_max => k_is)
    (case z_min => k_is)
    (case z_range => k_is)
    (case z_all => k_is)
    (case z_sorted => k_is)
    (case z_enumerate => k_is)
    (case z_sum => k_is)
    (case z_str => k_is)
    (case z_int => k_is)
    (case q_MAX_SIZE => k_is)
    (case q_MAX_DEPTH => k_is)
    (case q_MAX_ROWS => k_is)
    (case lC => k_is)
    (case lP11 => rfl)
    (case nP => (first | rfl | with_unfolding_all rfl | decide +revert))
    (case v18 => rfl)
    (case v7 => rfl)
    (case v9 => rfl)
    (case v10 => rfl)
    (case vne => rfl)
    (case lC_12 => k_is)
    (case lP11_12 => rfl)
    (case nP_12 => (first | rfl | with_unfolding_all rfl | decide +revert))
    (case v18_12 => rfl)
    (case v7_12 => rfl)
    (case v9_12 => rfl)
    (case v10_12 => rfl)
    (case vne_12 => rfl)
    (case pne_12 => rfl)
    (case ea0 => k_is)
    (case eq0 => k_exc)
    (case ek0 => k_is)
    (case eb0 => k_is)
    (case et0 => k_is)
    (case ea1 => k_is)
    (case eq1 => k_exc)
    (case ek1 => k_is)
    (case eb1 => k_is)
    (case et1 => k_is)
    (case ea2 => k_is)
    (case eq2 => k_exc)
    (case ek2 => k_is)
    (case eb2 => k_is)
    (case et2 => k_is)
    (case ea3 => k_is)
    (case eq3 => k_exc)
    (case ek3 => k_is)
    (case eb3 => k_is)
    (case et3 => k_is)
    (case tT_L => exact PySem.W.km_tabs_of Y _ (by decide))
    (case tT_12 => exact PySem.W.km_tabs_of Y _ (by decide))
