import PyProof.Rows.All
import Wide.All
import OpenK.AllK
import Wide.FinOn
import HandS.Base
import HandS.Call
import HandS.List
import HandS.Comp
import HandS.Ends
import HandS.Words
import HandS.WordsList
import HandS.IsInst
import HandS.Codes
import HandS.ForMost
import HandS.ForExc
import HandS.FStr
import HandS.Style
import HandS.Hot
import HandS.HotCalls
import HandS.Lambda
import HandS.ExcIs
import HandS.Rev
import HandS.More
import HandS.StrMore
import PyProof.StrBlock2
import PyProof.FactsAll.list_3
import HandS.TupAny
import HandS.TupMul
import HandS.Defaults
import KE.KRevSl
import KE.KDflt
import KE.GoesMore
import HandS.ExcOwn
import HandS.ExcInit
import HandS.ExcField
import KE.KExcSuper
import KE.KExcIs
import KE.RegKSuper
import HandS.Dict
import HandS.More
import HandS.Conv
import HandS.DictComp
import HandS.Walk
import HandS.Keys
import KE.KDictOf
import HandS.EndTab
import HandS.EndOwn
import KE.KNestM
import HandS.Star
import HandS.IterVal
import KE.KEqDict
import KE.KEqNest
import HandS.Text
import KE.KStateDown
import HandS.Head0
import HandS.Head1
import HandS.Head2
import PySem.Challenge.RW_uponboth_k71_snapshots
set_option Elab.async false
set_option linter.all false
set_option maxRecDepth 100000
set_option maxHeartbeats 4000000
namespace U
open PySem L2
/-! ### what stands behind the top: a def by its name; the built-in names -/
structure D (K : PySem.W.Frag) (mg : Str → Option Value) (x : Str) (st : Stmt) (ps : List Str) (f : Addr) (fd : FuncData) : Prop where
  F : Fun K x x st f fd
  b : Binds K fd ps []
  m : mg x = some (.ref f)

/-! ### trees -/
inductive Tree where
  | L
  | N (l r : Tree)
namespace Tree
def sz : Tree → Nat
  | L => 1
  | N l r => sz l + sz r
def dp : Tree → Nat
  | L => 0
  | N l r => max (dp l) (dp r) + 1
def d : Tree → PyData
  | L => .tuple []
  | N l r => .tuple [d l, d r]
theorem sz_pos : ∀ t : Tree, 0 < t.sz
  | L => Nat.zero_lt_one
  | N l r => by
    have h := sz_pos l
    show 0 < l.sz + r.sz
    omega
theorem d_lay : ∀ t : Tree, t.d.canLay0 = true
  | L => rfl
  | N l r => by
    show ((PyData.canLay0 l.d) && ((PyData.canLay0 r.d) && true)) = true
    rw [d_lay l, d_lay r]
    rfl
theorem d_depth : ∀ t : Tree, t.d.depth = t.dp + 1
  | L => rfl
  | N l r => by
    show max l.d.depth (max r.d.depth 0) + 1 = max l.dp r.dp + 1 + 1
    rw [d_depth l, d_depth r]
    omega
theorem shaped {t : Tree} (h : t.dp ≤ 63) : SeqAt.shaped t.d = true := by
  unfold SeqAt.shaped
  rw [d_lay, d_depth, decide_eq_true (by omega)]
  rfl
def isL : Tree → Bool
  | L => true
  | N _ _ => false
theorem eqvL (t : Tree) : PyData.eqv t.d (.tuple []) = t.isL := by cases t <;> rfl
end Tree
abbrev TA (K : PySem.W.Frag) (H : Hp) (v : V) (t : Tree) : Prop := Dp K H v t.d
theorem shapedE : SeqAt.shaped (.tuple []) = true := by decide +kernel

/-! ### heaps: what is a tuple stays one -/
def Tp (H H' : Hp) : Prop := ∀ b xs, Rd H b (.tup xs) → Rd H' b (.tup xs)
theorem Tp.refl (H : Hp) : Tp H H := fun _ _ h => h
theorem Tp.trans {H H1 H2 : Hp} (a : Tp H H1) (b : Tp H1 H2) : Tp H H2 := fun c o h => b c o (a c o h)
theorem Tp.same {H H' : Hp} (e : Same H H') : Tp H H' := fun b xs h => by
  rcases h with h | ⟨o, h⟩
  · exact .inl (e _ _ h)
  · exact .inr ⟨o, e _ _ h⟩
def But (r : Addr) (H H' : Hp) : Prop := ∀ b o, b ≠ r → H b = some o → H' b = some o
theorem But.trans {r : Addr} {H H1 H2 : Hp} (a : But r H H1) (b : But r H1 H2) : But r H H2 := fun c o n h => b c o n (a c o n h)
theorem But.same {r : Addr} {H H' : Hp} (e : Same H H') : But r H H' := fun b o _ h => e b o h
theorem But.set {r : Addr} {H : Hp} {o : HO} : But r H (upd H r o) := fun b z n h => by rw [upd_ne n]; exact h
theorem Tp.but {r : Addr} {H H' : Hp} {ys : List V} (hr : H r = some (.lst ys)) (e : But r H H') : Tp H H' := fun b xs h => by
  rcases h with h | ⟨o, h⟩
  · exact .inl (e _ _ (ne_of h hr (by intro z; cases z)) h)
  · exact .inr ⟨o, e _ _ (ne_of h hr (by intro z; cases z)) h⟩
theorem Same.new {H : Hp} {p : Addr} (h : H p = none) (o : HO) : Same H (upd H p o) := fun b u q => by rw [upd_ne (ne_of_none q h)]; exact q
theorem Tp.sqT {K : PySem.W.Frag} {H H' : Hp} {a : Addr} {xs : List V} (e : Tp H H') (h : SqT K H a xs) : SqT K H' a xs := by
  rcases h with h | h
  · exact .inl (e _ _ h)
  · exact .inr h
theorem SqT.here {K : PySem.W.Frag} {H : Hp} {a : Addr} {xs : List V} (h : H a = some (.tup xs)) : SqT K H a xs := .inl (.inl h)
theorem SqL.here {K : PySem.W.Frag} {H : Hp} {a : Addr} {xs : List V} (h : H a = some (.lst xs)) : SqL K H a xs := .inl (.inl h)

section
variable {K : PySem.W.Frag} {H H' : Hp}
theorem ta_leaf {a : Addr} (h : SqT K H a []) : TA K H (.ref a) .L := Dp.tup h .nil
theorem ta_node {a : Addr} {x y : V} {l r : Tree} (h : SqT K H a [x, y]) (hl : TA K H x l) (hr : TA K H y r) : TA K H (.ref a) (.N l r) := Dp.tup h (.cons hl (.cons hr .nil))
theorem ta_invL {v : V} (h : TA K H v .L) : ∃ a, v = .ref a ∧ SqT K H a [] := by
  cases h with
  | tup hs ha =>
    cases ha
    exact ⟨_, rfl, hs⟩
theorem ta_invN {v : V} {l r : Tree} (h : TA K H v (.N l r)) : ∃ a x y, v = .ref a ∧ SqT K H a [x, y] ∧ TA K H x l ∧ TA K H y r := by
  cases h with
  | tup hs ha =>
    cases ha with
    | cons h1 h2 =>
      cases h2 with
      | cons h3 h4 =>
        cases h4
        exact ⟨_, _, _, rfl, hs, h1, h3⟩
theorem ta_inv : ∀ {v : V} {t : Tree}, TA K H v t → ∃ a xs, v = .ref a ∧ SqT K H a xs
  | _, .L, h => by
    obtain ⟨a, e, q⟩ := ta_invL h
    exact ⟨a, _, e, q⟩
  | _, .N _ _, h => by
    obtain ⟨a, x, y, e, q, _⟩ := ta_invN h
    exact ⟨a, _, e, q⟩
theorem ta_mono (e : Tp H H') : ∀ {t : Tree} {v : V}, TA K H v t → TA K H' v t
  | .L, v, h => by
    obtain ⟨a, rfl, q⟩ := ta_invL h
    exact ta_leaf (e.sqT q)
  | .N l r, v, h => by
    obtain ⟨a, x, y, rfl, q, h1, h2⟩ := ta_invN h
    exact ta_node (e.sqT q) (ta_mono e h1) (ta_mono e h2)
mutual
theorem dp_same (e : Same H H') : ∀ (d : PyData) {v : V}, Dp K H v d → Dp K H' v d
  | .none, _, h => by
    cases h
    exact .non
  | .bool b, _, h => by
    cases h
    exact .bl b
  | .int i, _, h => by
    cases h
    exact .int i
  | .str x, _, h => by
    cases h
    exact .str x
  | .list ds, _, h => by
    cases h with
    | lst hs ha => exact .lst (e.seq hs) (dp_sameAll e ds ha)
  | .tuple ds, _, h => by
    cases h with
    | tup hs ha => exact .tup ((Tp.same e).sqT hs) (dp_sameAll e ds ha)
  | .dict _, _, h => by cases h
theorem dp_sameAll (e : Same H H') : ∀ (ds : List PyData) {vs : List V}, DpAll K H vs ds → DpAll K H' vs ds
  | [], _, h => by
    cases h
    exact .nil
  | d :: ds, _, h => by
    cases h with
    | cons h1 h2 => exact .cons (dp_same e d h1) (dp_sameAll e ds h2)
end
end
theorem one_le : 1 ≤ sizeLine := by decide
theorem two_le : 2 ≤ sizeLine := by decide
theorem zero_le' : 0 ≤ sizeLine := by decide
theorem four_le : 4 ≤ sizeLine := by decide
theorem ite_eq {b c : Bool} {A B : Prop} (e : b = c) (h : if c = true then A else B) : if b = true then A else B := e ▸ h
theorem ite_yes {b : Bool} {A B : Prop} (e : b = true) (h : A) : if b = true then A else B := by rw [if_pos e]; exact h
theorem ite_no {b : Bool} {A B : Prop} (e : b = false) (h : B) : if b = true then A else B := by rw [e]; exact iteF h
theorem tyx_tup {K : PySem.W.Frag} {H : Hp} {a : Addr} {xs : List V} (h : SqT K H a xs) : TyX K H (.ref a) (.type "tuple") := by
  rcases h with (h | ⟨o, h⟩) | ⟨o, its, n, h, c, _⟩
  · exact .base (.tup h)
  · exact .fTuple h
  · exact .kTuple h c
theorem tyx_lst {K : PySem.W.Frag} {H : Hp} {a : Addr} {xs : List V} (h : SqL K H a xs) : TyX K H (.ref a) (.type "list") := by
  rcases h with (h | ⟨o, h⟩) | ⟨o, its, n, h, c, _⟩
  · exact .base (.lst h)
  · exact .base (.frz h)
  · exact .kList h c
def Tree.nodes : Tree → Nat
  | .L => 1
  | .N l r => l.nodes + r.nodes + 1
/-! ### enumerate(a text): each sign in a new pair -/
def ItES (z : Str) : It :=
  ⟨fun j _ => j < z.cps.size, fun j G v G' => ∃ q c, v = .ref q ∧ G q = none ∧ G' = upd G q (.tup [.int (j : Nat), .str ⟨#[c]⟩]) ∧ z.cps[j]? = some c, fun j _ => z.cps.size ≤ j⟩
theorem draws_text {Pr : Program} {wo : World} {Ar : Around} (calm : Ar.handled = none) (it : Addr) (z : Str) (tk : Tok) :
    PySem.Draws Pr wo Ar it [it] z.cps.size (fun j v => ∃ c u, z.cps[j]? = some c ∧ v = .str ⟨#[c]⟩ u) (fun j g => g.IsStrIter it (PySem.strIterType z) z tk j) := by
  unfold PySem.strIterType
  cases z.cps.all (· < 128)
  · exact PySem.Draws.strWide calm it z tk
  · exact PySem.Draws.strAscii calm it z tk
theorem turn_ES {Pr : Program} {wo : World} {Kf : PySem.W.Frag} {ts : List Expr} {nn : Nat} {tp : Pos} (en it : Addr) (z : Str) (tk : Tok) :
    Turn Pr wo Kf (.Tuple ts nn tp) (ItES z) [en, it] en (fun j g => (∃ old, PySem.IsEnum g en it ((j : Nat) : Int) old) ∧ g.IsStrIter it (PySem.strIterType z) z tk j ∧ en ≠ it ∧ j ≤ z.cps.size) where
  mem := List.mem_cons_self
  obj := fun j g st b hb => by
    obtain ⟨⟨old, h1⟩, ⟨ob, h2, h3, h4⟩, _⟩ := st
    rcases List.mem_cons.mp hb with rfl | hb
    · exact ⟨_, h1, fun v q => nomatch q⟩
    · cases List.mem_singleton.mp hb
      refine ⟨ob, h2, fun v q => ?_⟩
      rw [h4] at q
      cases q
  keep := fun j g g' st kk => by
    obtain ⟨⟨old, h1⟩, ⟨ob, h2, h3⟩, h5⟩ := st
    exact ⟨⟨old, kk en List.mem_cons_self _ h1⟩, ⟨ob, kk it (List.mem_cons_of_mem _ List.mem_cons_self) _ h2, h3⟩, h5⟩
  item := by
    intro X e1 e2 e3 calm j pins s σ G Ex inv fp st lt
    cases e1
    cases e2
    cases e3
    obtain ⟨⟨old, h1⟩, h2, ne, le⟩ := st
    have l1 : en < s.heap.objs.size := Heap.lt_size h1
    have l2 : it < s.heap.objs.size := by
      obtain ⟨_, y, _⟩ := h2
      exact Heap.lt_size y
    refine PySem.wpAny_pyNext_enum_itemD (draws_text (show X.A.in1.handled = none from inv.ok.hd calm) it z tk) h1 h2 lt ne (fun y => ne (List.mem_singleton.mp y)) fun u g' t2 hu out h2' hT sz kp => ?_
    obtain ⟨c, u', hc, rfl⟩ := hu
    refine ⟨_, rfl, PySem.wpAny_letOwnedTupleGo_enum (s := { s with heap := g', toks := t2 + 1 }) out fun g'' h1' sb => ?_⟩
    have hT' : g''.get? s.heap.objs.size = some { cls := .type "tuple", data := .seq #[.int j t2, .str ⟨#[c]⟩ u'] } := (sb.2 _ (Nat.ne_of_gt l1)).trans hT
    have made : ObjOk X.prog X.w (upd G s.heap.objs.size (.tup [.int (j : Nat), .str ⟨#[c]⟩])) g'' s.heap.objs.size (.tup [.int (j : Nat), .str ⟨#[c]⟩]) :=
      ⟨two_le, [.int j t2, .str ⟨#[c]⟩ u'], .cons ⟨_, rfl⟩ (.cons ⟨_, rfl⟩ .nil), ⟨_, hT', rfl, _, rfl⟩⟩
    have inv' : Inv X pins σ (upd G s.heap.objs.size (.tup [.int (j : Nat), .str ⟨#[c]⟩])) { s with heap := g'', toks := t2 + 1 } := by
      refine Inv.turnedNew (ch := [en, it]) inv (fun b ob nb y => ?_) fp (Nat.le_refl _) made
      have n1 : b ≠ en := fun y => nb (by rw [y]; exact List.mem_cons_self)
      have n2 : b ≠ it := fun y => nb (by rw [y]; exact List.mem_cons_of_mem _ List.mem_cons_self)
      exact (sb.2 b n1).trans (kp b ob n1 n2 y)
    refine ⟨.ref s.heap.objs.size, _, inv', rfl, ⟨_, c, rfl, inv.hok.fresh (Nat.le_refl _), rfl, hc⟩, ⟨⟨.str ⟨#[c]⟩ u', ?_⟩, ?_, ne, lt⟩, fun b hb => ?_⟩
    · rw [show (((j + 1 : Nat) : Nat) : Int) = (j : Int) + 1 by omega]
      exact h1'
    · obtain ⟨ob, y1, y2⟩ := h2'
      exact ⟨ob, (sb.2 it (Ne.symm ne)).trans y1, y2⟩
    · have lb : b < s.heap.objs.size := by
        rcases List.mem_cons.mp hb with rfl | hb
        · exact l1
        · cases List.mem_singleton.mp hb
          exact l2
      rw [upd_ne (Nat.ne_of_lt lb)]
      exact (fp b hb).1
  done := by
    intro X e1 e2 e3 calm j pins s σ G Ex inv fp st ge
    cases e1
    cases e2
    cases e3
    obtain ⟨⟨old, h1⟩, h2, ne, le⟩ := st
    have ej : j = z.cps.size := Nat.le_antisymm le ge
    subst ej
    obtain ⟨f0, f1, f2, f3, f4, f5⟩ := fp it (List.mem_cons_of_mem _ List.mem_cons_self)
    exact PySem.wpAny_pyNext_enum_endD (draws_text (show X.A.in1.handled = none from inv.ok.hd calm) it z tk) h1 h2 fun g' eb => ⟨rfl, inv.turned (t' := s.toks) (fun b o nb y => eb b o nb y) f0 f1 f3 f4 f5⟩
  self := fun Ar j s Q Ex st y => by
    obtain ⟨⟨_, h1⟩, _⟩ := st
    exact PySem.wpAny_pyIter_enum h1 y
def iES (ta : L2.TA) : TI := fun σ G R => ta σ G fun vs G1 => ∃ z : Str, vs = [.str z] ∧ R (ItES z) G1
theorem pi_ES {X : Cx} {ex : Expr} {ta : L2.TA} {p pos tp : Pos} {ts : List Expr} {nn : Nat} (gl : Gl X "enumerate") (mm : X.mg "enumerate" = none) (ha : PA X [ex] ta) (hs : starEach [ex] X.env = [(false, eval ex X.env)] := by rfl) :
    PI X (.Tuple ts nn tp) (.Call (.Name "enumerate" p) [ex] [] pos) (iES ta) := by
  refine ⟨fun pins s σ G R inv y => ?_⟩
  refine PyProof.Rows.Call_ (ld_blt inv gl mm PyProof.Rows.boot_enumerate (PyProof.Rows.callWith_type1 (thn (ha.run pos pins s σ G _ inv y) fun us s1 ⟨vs, G1, inv1, r1, q1⟩ => ?_) hs rfl))
  obtain ⟨z, rfl, q⟩ := q1
  cases r1 with
  | cons r rr =>
    cases rr
    obtain ⟨tk, rfl⟩ := r
    refine PySem.call_enumerate_str fun g' h1 h2 sz kp => PySem.wpAny_pyIter_enum h1 ?_
    refine ⟨s1.heap.objs.size + 1, [s1.heap.objs.size + 1, s1.heap.objs.size], _, _, G1, rfl, inv1.kept (t' := s1.toks) kp, turn_ES (s1.heap.objs.size + 1) s1.heap.objs.size z tk, ⟨⟨.none, h1⟩, h2, Nat.succ_ne_self _, Nat.zero_le _⟩, fun b hb => ?_, q⟩
    have ge : s1.heap.objs.size ≤ b := by
      rcases List.mem_cons.mp hb with rfl | hb
      · exact Nat.le_succ _
      · cases List.mem_singleton.mp hb
        exact Nat.le_refl _
    exact inv1.fpOk ge (inv1.hok.fresh ge)
theorem for_ES {z : Str} {g : TG} {tb : TS} {D : Ends} {σ : L2.St} {G : Hp} (Pv : Nat → L2.St → Hp → Prop) (h0 : Pv 0 σ G)
    (hs : ∀ j c σ G, z.cps[j]? = some c → Pv j σ G → ∀ q, G q = none → g (.ref q) σ (upd G q (.tup [.int (j : Nat), .str ⟨#[c]⟩])) fun σ2 G2 => tb { D with nx := Pv (j + 1), ct := Pv (j + 1), bk := D.nx } σ2 G2) (hd : ∀ σ G, Pv z.cps.size σ G → D.nx σ G) :
    ∃ Wd : Nat → Nat → L2.St → Hp → Prop, (∃ m, Wd 0 m σ G) ∧ ∀ j m σ G, Wd j m σ G →
      ((ItES z).stop j G ∧ D.nx σ G) ∨ ((ItES z).go j G ∧ ∃ Nn : L2.St → Hp → Prop, (∀ σ' G', Nn σ' G' → ∃ m', m' < m ∧ Wd (j + 1) m' σ' G') ∧ ∀ v G', (ItES z).yld j G v G' → g v σ G' fun σ2 G2 => tb { D with nx := Nn, ct := Nn, bk := D.nx } σ2 G2) := by
  refine ⟨fun j m σ G => m = z.cps.size - j ∧ j ≤ z.cps.size ∧ Pv j σ G, ⟨_, rfl, Nat.zero_le _, h0⟩, ?_⟩
  rintro j m σ G ⟨rfl, le, pv⟩
  rcases Nat.lt_or_ge j z.cps.size with lt | ge
  · refine .inr ⟨lt, Pv (j + 1), fun σ' G' y => ⟨z.cps.size - (j + 1), by omega, rfl, lt, y⟩, fun v G' y => ?_⟩
    obtain ⟨q, c, rfl, nq, rfl, hc⟩ := y
    exact hs j c σ G hc pv q nq
  · have ej : j = z.cps.size := Nat.le_antisymm le ge
    subst ej
    exact .inl ⟨Nat.le_refl _, hd σ G pv⟩
/-! ### iterators at their end while an exception is handled -/
section
variable {Pr : Program} {wo : World} {Ar : Around} {Ex : Value → Shared → Prop} {st : Shared}
open HotX
/-- a StopIteration, made and raised there: all that stood stands -/
theorem stop_hot {α : Type} {xh : Addr} {Qa : α → Shared → Prop} (hot : HotAt Ar xh st.heap) (k : ∀ g (a : Addr), (∀ b o, st.heap.get? b = some o → g.get? b = some o) → (∃ o, g.get? a = some o ∧ o.cls = .type "StopIteration") → Ex (.ref a) { st with heap := g }) :
    wpAny (model Pr wo) Ar (newExc (.type "StopIteration") [] >>= fun e => (raiseNew e : Sem α)) Qa Ex st := by
  obtain ⟨hh, oe, ve, e1, e2, e3⟩ := hot
  simp only [newExc, newTuple]
  refine wpAny_bind (wpAny_bind (wpAny_newObj_type (wpAny_bind (m := firstArgMember _ _) (wpAny_of_eq (a := Value.none) (by first | rfl | (simp only [firstArgMember]; rfl)) (wpAny_newObj_type ?_ (by size_fits)))) (by size_fits)))
  refine raiseNew_hot (x1 := xh) ⟨hh, oe, ve, Heap.get?_push_of_some _ (Heap.get?_push_of_some _ e1), e2, e3⟩ (Nat.ne_of_lt (Heap.lt_size (Heap.get?_push_of_some _ e1))) (Heap.get?_push_size _ rfl) rfl (by first | (simp; done) | (simp; omega)) ?_
  refine k _ _ (fun b o y => ?_) ⟨_, Heap.get?_update_self _ (Heap.get?_push_size _ rfl) rfl, rfl⟩
  rw [Heap.get?_update_other _ _ (Nat.ne_of_gt (Heap.lt_size (Heap.get?_push_of_some _ y)))]
  exact Heap.get?_push_of_some _ (Heap.get?_push_of_some _ y)
theorem list_end_hot {ite lis xh : Addr} {j : Nat} {its : Array Value} {Qn : Option Value → Shared → Prop} (hot : HotAt Ar xh st.heap) (nxi : xh ≠ ite) (hi : st.heap.IsListIter ite lis j) (hL : st.heap.IsList lis its) (out : its[j]? = none)
    (k : ∀ g, Heap.ExtBut ite st.heap g → Qn none { st with heap := g }) : wpAny (model Pr wo) Ar (pyNext (.ref ite)) Qn Ex st := by
  obtain ⟨oi, h1, h2, h3⟩ := id hi
  obtain ⟨ol, h4, _, nl, h5⟩ := hL
  obtain ⟨hh, oe, ve, e1, e2, e3⟩ := hot
  unfold pyNext
  refine wpAny_bind (wpAny_attempt (wpAny_callSpecial?_slot (name := Str.ofString "__next__") hi.typeIs PySem.slot_listiter_next (wpAny_call_entry PySem.slot_listiter_next hi.typeIs PySem.entry_listiter_next ?_ (PySem.args_listiter_next _))))
  show wpAny _ _ (field (.ref ite) 0 >>= _) _ _ st
  refine wpAny_bind (wpAny_field h1 h3 (x := .ref lis) rfl ?_)
  show wpAny _ _ (if (Value.ref lis == Value.none) = true then _ else _) _ _ st
  rw [if_neg (show ¬ ((Value.ref lis == Value.none) = true) from Bool.false_ne_true)]
  show wpAny _ _ (field (.ref ite) 1 >>= _) _ _ st
  refine wpAny_bind (wpAny_field h1 h3 (x := .int j 0) rfl ?_)
  show wpAny _ _ (seqItems? (.ref lis) >>= _) _ _ st
  refine wpAny_bind (wpAny_seqItems h4 h5 ?_)
  simp only [Int.toNat_natCast, out]
  refine wpAny_bind (wpAny_rule (wpAny_bind (wpAny_setField h1 h3 (by simp) ?_)))
  have hot' : HotAt Ar.in1 xh (st.heap.update ite (Obj.mapFields (·.setIfInBounds 0 Value.none))) := ⟨hh, oe, ve, by rw [Heap.get?_update_other _ _ nxi.symm]; exact e1, e2, e3⟩
  refine stop_hot hot' fun g a kp ha => ?_
  obtain ⟨oa, y1, y2⟩ := ha
  refine wpAny_bind (wpAny_isInstance (T := "StopIteration") (b := true) ⟨oa, y1, y2⟩ PySem.isSubtype_stop (wpAny_pure (k _ fun b o nb y => kp b o ?_)))
  rw [Heap.get?_update_other _ _ (Ne.symm nb)]
  exact y
theorem tuple_end_hot {ite tup xh : Addr} {j : Nat} {its : Array Value} {Qn : Option Value → Shared → Prop} (hot : HotAt Ar xh st.heap) (nxi : xh ≠ ite) (hi : PyProof.Rows.IsTupIter st.heap ite tup j) (hT : PyProof.Rows.IsTup st.heap tup its) (out : its[j]? = none)
    (k : ∀ g, Heap.ExtBut ite st.heap g → Qn none { st with heap := g }) : wpAny (model Pr wo) Ar (pyNext (.ref ite)) Qn Ex st := by
  obtain ⟨oi, h1, h2, h3⟩ := id hi
  obtain ⟨ol, h4, _, nl, h5⟩ := hT
  obtain ⟨hh, oe, ve, e1, e2, e3⟩ := hot
  unfold pyNext
  refine wpAny_bind (wpAny_attempt (wpAny_callSpecial?_slot (name := Str.ofString "__next__") hi.typeIs PySem.F.slot_tuple_iterator_next (wpAny_call_entry PySem.F.slot_tuple_iterator_next hi.typeIs PySem.F.entry_tuple_iterator_next ?_ (PySem.F.args_tuple_iterator_next_1 _))))
  show wpAny _ _ (field (.ref ite) 0 >>= _) _ _ st
  refine wpAny_bind (wpAny_field h1 h3 (x := .ref tup) rfl ?_)
  show wpAny _ _ (if (Value.ref tup == Value.none) = true then _ else _) _ _ st
  rw [if_neg (show ¬ ((Value.ref tup == Value.none) = true) from Bool.false_ne_true)]
  show wpAny _ _ (field (.ref ite) 1 >>= _) _ _ st
  refine wpAny_bind (wpAny_field h1 h3 (x := .int j 0) rfl ?_)
  show wpAny _ _ (seqItems? (.ref tup) >>= _) _ _ st
  refine wpAny_bind (wpAny_seqItems h4 h5 ?_)
  simp only [Int.toNat_natCast, out]
  refine wpAny_bind (wpAny_rule (wpAny_bind (wpAny_setField h1 h3 (by simp) ?_)))
  have hot' : HotAt Ar.in1 xh (st.heap.update ite (Obj.mapFields (·.setIfInBounds 0 Value.none))) := ⟨hh, oe, ve, by rw [Heap.get?_update_other _ _ nxi.symm]; exact e1, e2, e3⟩
  refine stop_hot hot' fun g a kp ha => ?_
  obtain ⟨oa, y1, y2⟩ := ha
  refine wpAny_bind (wpAny_isInstance (T := "StopIteration") (b := true) ⟨oa, y1, y2⟩ PySem.isSubtype_stop (wpAny_pure (k _ fun b o nb y => kp b o ?_)))
  rw [Heap.get?_update_other _ _ (Ne.symm nb)]
  exact y
/-- a, b = a tuple, there -/
theorem unpack_hot {tup xh : Addr} {its : Array Value} {Ql : List Value → Shared → Prop} (hot : HotAt Ar xh st.heap) (hT : PyProof.Rows.IsTup st.heap tup its)
    (k : ∀ g, Heap.ExtBut st.heap.objs.size st.heap g → Ql its.toList { st with heap := g }) : wpAny (model Pr wo) Ar (unpackItems (.ref tup) its.size none) Ql Ex st := by
  have nt : tup ≠ st.heap.objs.size := by
    obtain ⟨o, y, _⟩ := hT
    exact Nat.ne_of_lt (Heap.lt_size y)
  obtain ⟨hh, oe, ve, e1, e2, e3⟩ := hot
  have nx : xh ≠ st.heap.objs.size := Nat.ne_of_lt (Heap.lt_size e1)
  unfold unpackItems
  refine wpAny_bind ?_
  unfold notIterableAtAll
  refine wpAny_bind (wpAny_specialOf hT.typeIs PyProof.Rows.slot_tuple_iter.lookup (wpAny_pure ?_))
  simp only [Bool.false_eq_true, if_false]
  refine wpAny_bind (wpAny_holding (PyProof.Rows.iter_tuple hT (wpAny_bind (wpAny_holding (PyProof.Rows.draw_tuple nt its.size 0 _ _ ⟨_, Heap.get?_push_size _ rfl, rfl, rfl⟩ (hT.push _) (by omega) fun g1 hi1 sb1 => ?_)))))
  rw [show List.take its.size (List.drop 0 its.toList) = its.toList by rw [List.drop_zero]; exact List.take_of_length_le (by simp), if_neg (by simp)]
  have hT1 : PyProof.Rows.IsTup g1 tup its := (hT.push _).extBut sb1.extBut nt
  have hot1 : HotAt Ar xh g1 := ⟨hh, oe, ve, sb1.extBut _ _ nx (Heap.get?_push_of_some _ e1), e2, e3⟩
  refine wpAny_bind (wpAny_holding (tuple_end_hot (st := { st with heap := g1 }) hot1 nx hi1 hT1 (by simp) fun g2 eb2 => ?_))
  simp only [Option.isSome_none, Bool.false_eq_true, if_false]
  exact wpAny_pure (k g2 fun b o nb y => eb2 b o nb (sb1.extBut b o nb (Heap.get?_push_of_some _ y)))
end
/-! ### a context in which an exception is handled that stood when it began -/
structure HotB (X : Cx) (xh : Addr) (oh : Obj) : Prop where
  hnd : X.A.handled = some (.ref xh)
  obj : X.s_0.heap.get? xh = some oh
  dat : ∃ vs : Array Value, oh.data = .fields vs ∧ vs[2]? = some .none
  unt : X.H_0 xh = none
  nfs : xh ∉ X.fs
  nex : xh ∉ X.ex
section
variable {X : Cx} {pins : List (Addr × Obj)} {σ : L2.St} {H : Hp} {s : Shared} {xh : Addr} {oh : Obj}
theorem HotB.get (h : HotB X xh oh) (I : Inv X pins σ H s) : s.heap.get? xh = some oh := I.base.keep xh oh h.obj h.unt h.nfs h.nex
theorem HotB.hot (h : HotB X xh oh) (I : Inv X pins σ H s) : HotX.HotAt X.A xh s.heap := by
  obtain ⟨vs, d1, d2⟩ := h.dat
  exact ⟨h.hnd, oh, vs, h.get I, d1, d2⟩
theorem HotB.none (h : HotB X xh oh) (I : Inv X pins σ H s) : H xh = Option.none := I.base.free xh oh h.obj h.unt h.nex
theorem HotB.nloc (h : HotB X xh oh) (I : Inv X pins σ H s) : xh ≠ X.env.locals := fun z => by
  obtain ⟨m, ⟨o, es, ep, e1, e2, _⟩, _⟩ := I.loc
  obtain ⟨vs, d1, _⟩ := h.dat
  have g := h.get I
  rw [z, e1] at g
  cases g
  rw [d1] at e2
  cases e2
theorem HotB.blk (h : HotB X xh oh) (I : Inv X pins σ H s) (scope : Scope) (ce : Env) {fp : List Addr} (hf : xh ∉ fp) : HotB (X.blk s H scope ce fp) xh oh :=
  ⟨h.hnd, h.get I, h.dat, h.none I, fun z => (List.mem_cons.mp (I.stkSub xh z)).elim (h.nloc I) h.nfs, hf⟩
/-- (a, b) = a tuple, there -/
theorem pg_tupB {es : List Expr} {k : Nat} {t : TGs} {n : Nat} {pos : Pos} (hb : HotB X xh oh) (h : PGs X es t)
    (hn : (assignEach es X.env).length = n := by rfl) (hst : (assignEach es X.env).findIdx? (·.1) = Option.none := by rfl) : PG X (.Tuple es k pos) (gTup X.K n t) := by
  refine ⟨fun pins s σ H v u Q I r y => ?_⟩
  obtain ⟨a, xs, rfl, hq, hl, y⟩ := y
  cases r
  obtain ⟨its, rv, hT, hz⟩ := I.tuple hq
  have e1 : (assignEach es X.env).length = its.toArray.size := by
    rw [List.size_toArray, hn, ← hl, rv.length]
  rw [PyProof.Rows.assign_Tuple]
  refine wpAny_bind (wpAny_standAt ?_)
  unfold unpack
  rw [e1, hst]
  refine wpAny_bind (wpAny_holding (unpack_hot (hb.hot I) hT fun g eb => ?_))
  have I1 : Inv X pins σ H { s with heap := g } := I.kept (t' := s.toks) fun b o e => eb b o (Nat.ne_of_lt (Heap.lt_size e)) e
  exact h.run pins _ σ H xs _ Q I1 (by simpa using rv) y
/-- [elt for tg in a list if ..], there -/
def tLcB (K : PySem.W.Frag) (tl : TE) (g : TG) (tt : TT) (te : TE) (vs : List Nat) : TE := fun σ H Q => tl σ H fun x H1 => ∃ a xs, x = .ref a ∧ SqL K H1 a xs ∧ ∀ D, H1 D = Option.none → ∃ Pv : Nat → Hp → Prop, Pv 0 (upd H1 D (.lst [])) ∧ (∀ i G, i ≤ xs.length → Pv i G → SqL K G a xs) ∧
  (∀ i v G, xs[i]? = some v → Pv i G → g v (wipe σ vs) G fun σ2 G2 => wipe σ2 vs = wipe σ vs ∧ tt σ2 G2 fun b G3 => if b = true then te σ2 G3 fun y G4 => ∃ acc, G4 D = some (.lst acc) ∧ acc.length < sizeLine ∧ Pv (i + 1) (upd G4 D (.lst (acc ++ [y]))) else Pv (i + 1) G3) ∧ ∀ G, Pv xs.length G → Q (.ref D) G
theorem pe_lcB {elt tg iter : Expr} {ifs : List Expr} {scope : Scope} {own : List (Str × Nat)} {pos : Pos} {tl : TE} {g : TG} {tt : TT} {te : TE} (hb : HotB X xh oh) (hN : X.N.Nodup) (hi : PE X iter tl) (ok : BlkOk X.N X.env.scope scope own)
    (hg : ∀ (s : Shared) (H : Hp) (C : Addr) (cl : List (Str × Addr)) (fp : List Addr), HotB (X.blk s H scope (compEnvC scope cl C X.env) fp) xh oh → PG (X.blk s H scope (compEnvC scope cl C X.env) fp) tg g)
    (ht : ∀ (s : Shared) (H : Hp) (C : Addr) (cl : List (Str × Addr)) (fp : List Addr), PTs (X.blk s H scope (compEnvC scope cl C X.env) fp) ifs tt)
    (he : ∀ (s : Shared) (H : Hp) (C : Addr) (cl : List (Str × Addr)) (fp : List Addr), PE (X.blk s H scope (compEnvC scope cl C X.env) fp) elt te) (hs : ∀ x, foldedSetIterable iter X.env x = pure x := by intro _; rfl) :
    PE X (.ListComp elt [⟨tg, iter, ifs, 0⟩] scope pos) (tLcB X.K tl g tt te (own.map (·.2))) := by
  refine ⟨fun pins s σ H Q I h => ?_⟩
  rw [eval_ListComp]
  have hfree : ∀ y ∈ scope.names, y.2 = .free → ∃ c, X.env.cells.lookup y.1 = some c := fun y hy e => (ok.free y hy e).elim (fun k => I.ok.has _ (.inl k)) (fun k => I.ok.has _ (.inr k))
  refine wpAny_comprehension_free (use := Option.none) rfl hs (closure_ok hfree) ok.kind (fun y hy e => by rw [ok.uniq y hy, e]) (thn (hi.run pins s σ H _ I h) fun xv s1 ⟨x, H1, I1, r1, a, xs, ex, hL, k⟩ => ?_)
  subst ex
  cases r1
  obtain ⟨its, rv, hl, hz⟩ := I1.list hL
  refine PySem.wpAny_pyIter_list hl.isList ?_
  -- the iterator's object, the new list, the block's frame
  have I2 : Inv X pins σ H1 { s1 with heap := s1.heap.push { cls := .type "list_iterator", data := .fields #[.ref a, .int 0 0] } } := I1.kept (t' := s1.toks) fun b o e => Heap.get?_push_of_some _ e
  have hit2 : ({ s1 with heap := s1.heap.push { cls := .type "list_iterator", data := .fields #[.ref a, .int 0 0] } } : Shared).heap.IsListIter s1.heap.objs.size a 0 := ⟨_, Heap.get?_push_size _ rfl, rfl, rfl⟩
  have it0 : H1 s1.heap.objs.size = Option.none := I1.hok.fresh (Nat.le_refl _)
  have fit : FpOk X pins H1 s1.heap.objs.size := I1.fpOk (Nat.le_refl _) it0
  have nxi : xh ≠ s1.heap.objs.size := Nat.ne_of_lt (Heap.lt_size (hb.get I1))
  have ltit : s1.heap.objs.size < ({ s1 with heap := s1.heap.push { cls := .type "list_iterator", data := .fields #[.ref a, .int 0 0] } } : Shared).heap.objs.size := by
    show _ < (s1.heap.push _).objs.size
    rw [Heap.size_push]
    exact Nat.lt_succ_self _
  generalize ({ s1 with heap := s1.heap.push { cls := .type "list_iterator", data := .fields #[.ref a, .int 0 0] } } : Shared) = s2 at *
  generalize s1.heap.objs.size = it at *
  refine wpAny_newObj_type (newEnv_comp ?_) (by show 0 ≤ sizeLine; decide)
  obtain ⟨Pv, p0, pl, pt, pd⟩ := k s2.heap.objs.size (I2.hok.fresh (Nat.le_refl _))
  have I3 : Inv X pins σ (upd H1 s2.heap.objs.size (.lst [])) { s2 with heap := s2.heap.push { cls := .type "list", data := .seq ([] : List Value).toArray } } :=
    I2.laid (t' := s2.toks) (fun b o e => Heap.get?_push_of_some _ e) (Nat.le_refl _) ⟨Nat.zero_le _, [], 0, .nil, Heap.get?_push_size _ rfl⟩
  have hit3 : ({ s2 with heap := s2.heap.push { cls := .type "list", data := .seq ([] : List Value).toArray } } : Shared).heap.IsListIter it a 0 := by
    obtain ⟨o, y1, y2⟩ := hit2
    exact ⟨o, Heap.get?_push_of_some _ y1, y2⟩
  have lt3 : it < ({ s2 with heap := s2.heap.push { cls := .type "list", data := .seq ([] : List Value).toArray } } : Shared).heap.objs.size := by
    show _ < (s2.heap.push _).objs.size
    rw [Heap.size_push]
    exact Nat.lt_succ_of_lt ltit
  have fit3 : FpOk X pins (upd H1 s2.heap.objs.size (.lst [])) it := ⟨by rw [upd_ne (Nat.ne_of_lt ltit)]; exact it0, fit.2⟩
  generalize hDD : s2.heap.objs.size = D at *
  generalize ({ s2 with heap := s2.heap.push { cls := .type "list", data := .seq ([] : List Value).toArray } } : Shared) = s3 at *
  generalize upd H1 D (.lst []) = H3 at *
  have I4 := block_start I3 ok hN (fp := [it]) fun b hm => by
    rw [List.mem_singleton.mp hm]
    exact ⟨fit3, lt3⟩
  -- the block's context, by letters
  have hotB := fun ce => hb.blk I3 scope ce (fp := [it]) fun z => nxi (List.mem_singleton.mp z)
  have pg := fun cl => hg s3 H3 s3.heap.objs.size cl [it] (hotB _)
  have pts := fun cl => ht s3 H3 s3.heap.objs.size cl [it]
  have pe := fun cl => he s3 H3 s3.heap.objs.size cl [it]
  have hit4 : ({ s3 with heap := pushCells (s3.heap.push { cls := .type "dict", data := .dict #[] }) scope.names } : Shared).heap.IsListIter it a 0 := by
    obtain ⟨o, y1, y2⟩ := hit3
    exact ⟨o, pushCells_keeps _ _ _ _ (Heap.get?_push_of_some _ y1), y2⟩
  show codeAny _ _ (.compStart (.ListComp elt [⟨tg, iter, ifs, 0⟩] scope pos) 0 (.ref it) (.ref D) (compEnvC scope (cellsFrom (s3.heap.objs.size + 1) scope.names (cloFrom X.env.cells scope.names [])) s3.heap.objs.size X.env)) (compPost (model X.prog X.w) X.A X.xe Option.none (EP X pins σ Q) (.ref D) s3.heap.objs.size) { s3 with heap := pushCells (s3.heap.push { cls := .type "dict", data := .dict #[] }) scope.names }
  specialize pg (cellsFrom (s3.heap.objs.size + 1) scope.names (cloFrom X.env.cells scope.names []))
  specialize pts (cellsFrom (s3.heap.objs.size + 1) scope.names (cloFrom X.env.cells scope.names []))
  specialize pe (cellsFrom (s3.heap.objs.size + 1) scope.names (cloFrom X.env.cells scope.names []))
  have eL : (compEnvC scope (cellsFrom (s3.heap.objs.size + 1) scope.names (cloFrom X.env.cells scope.names [])) s3.heap.objs.size X.env).locals = s3.heap.objs.size := rfl
  generalize compEnvC scope (cellsFrom (s3.heap.objs.size + 1) scope.names (cloFrom X.env.cells scope.names [])) s3.heap.objs.size X.env = ce at *
  generalize ({ s3 with heap := pushCells (s3.heap.push { cls := .type "dict", data := .dict #[] }) scope.names } : Shared) = s4 at *
  have hb4 := hotB ce
  have mem1 : it ∈ [it] := List.mem_singleton.mpr rfl
  have fpk : ∀ {σ' : L2.St} {G : Hp} {s' : Shared}, Inv (X.blk s3 H3 scope ce [it]) [] σ' G s' → G it = Option.none → FpOk (X.blk s3 H3 scope ce [it]) [] G it := fun {σ' G s'} J g0 =>
    ⟨g0, (J.ok.exf it mem1).1, J.ok.exfs it mem1, .inl mem1, fun y c e => (J.ok.exf it mem1).2 y c e, fun p hp => absurd (show p ∈ ([] : List (Addr × Obj)) ++ [] from hp) (by simp)⟩
  have loop : ∀ s4 : Shared, Inv (X.blk s3 H3 scope ce [it]) [] (wipe σ (own.map (·.2))) H3 s4 → s4.heap.IsListIter it a 0 → codeAny (model X.prog X.w) X.A (.compLoop (.ListComp elt [⟨tg, iter, ifs, 0⟩] scope pos) 0 (.ref it) (.ref D) ce) (compPost (model X.prog X.w) X.A X.xe Option.none (EP X pins σ Q) (.ref D) s3.heap.objs.size) s4 := by
    intro s4 I4 hit4
    refine compLoop_any (fun n s' => ∃ j G, n = xs.length - j ∧ j ≤ xs.length ∧ Inv (X.blk s3 H3 scope ce [it]) [] (wipe σ (own.map (·.2))) G s' ∧ s'.heap.IsListIter it a j ∧ G it = Option.none ∧ Pv j G) ?_ _ ⟨0, H3, rfl, Nat.zero_le _, I4, hit4, fit3.1, p0⟩
    rintro n s5 ⟨j, G, rfl, le, I5, hi5, g5, pv⟩
    have hL5 : SqL (X.blk s3 H3 scope ce [it]).K G a xs := pl j G le pv
    obtain ⟨its5, rv5, hl5, hz5⟩ := I5.list hL5
    obtain ⟨f0, f1, f2, f3, f4, f5⟩ := fpk I5 g5
    rcases Nat.lt_or_ge j xs.length with lt | ge
    · obtain ⟨u, hu, ru⟩ := rv5.get (List.getElem?_eq_getElem lt)
      refine PySem.wpAny_pyNext_list_item hi5 hl5.isList (x := u) (by simpa using hu) fun g6 hi6 sb6 => ?_
      have I6 : Inv (X.blk s3 H3 scope ce [it]) [] (wipe σ (own.map (·.2))) G { s5 with heap := g6 } := I5.turned (t' := s5.toks) (fun b o nb e => (sb6.2 b nb).trans e) f0 f1 f3 f4 f5
      obtain ⟨o6, y1, y2, y3⟩ := id hi6
      refine go_of (s := { s5 with heap := g6 }) y1 y2 y3 (by decide) ?_
      have I6p := I6.pinned (fp := [it]) (fun b hm => by rw [List.mem_singleton.mp hm]; exact fpk I6 g5) (fun b hm => by rw [List.mem_singleton.mp hm]; exact ⟨o6, y1, fun v z => by rw [y3] at z; cases z⟩)
      refine thnF (pg.run _ _ _ G _ u _ I6p ru (pt j _ G (List.getElem?_eq_getElem lt) pv)) fun _ s8 ⟨σ8, H8, I8, hw8, q8⟩ => ?_
      refine thnF (pts.run _ s8 σ8 H8 _ I8 q8) fun b s9 ⟨H9, I9, q9⟩ => ?_
      have fin : ∀ {s' : Shared} {G' : Hp}, Inv (X.blk s3 H3 scope ce [it]) ([] ++ pinsAt [it] g6) σ8 G' s' → Pv (j + 1) G' → ∃ m, m < xs.length - j ∧ ∃ j' G', m = xs.length - j' ∧ j' ≤ xs.length ∧ Inv (X.blk s3 H3 scope ce [it]) [] (wipe σ (own.map (·.2))) G' s' ∧ s'.heap.IsListIter it a j' ∧ G' it = Option.none ∧ Pv j' G' := fun {s' G'} J nx => by
        have pin := J.pin (it, o6) (List.mem_append_right _ (List.mem_append_right _ (mem_pinsAt mem1 y1)))
        have hln : (wipe σ (own.map (·.2))).length = σ8.length := by rw [← hw8, wipe_length]
        refine ⟨xs.length - (j + 1), by omega, j + 1, G', rfl, lt, (J.unpinned (pins := [])).weak hln (fun i v e => ?_), ⟨o6, pin.1, y2, y3⟩, pin.2.1, nx⟩
        rw [← hw8] at e
        exact (wipe_some e).1
      cases b with
      | false =>
        simp only [Bool.false_eq_true, if_false] at q9 ⊢
        exact fin I9 q9
      | true =>
        simp only [if_true] at q9 ⊢
        refine thnF (pe.run _ s9 σ8 H9 _ I9 q9) fun z s10 ⟨yv, H10, I10, r10, acc, hD10, hz10, nx⟩ => ?_
        exact app_ok (X := X.blk s3 H3 scope ce [it]) I10 hD10 hz10 r10 fun s11 I11 => fin I11 nx
    · have ej : j = xs.length := Nat.le_antisymm le ge
      subst ej
      refine list_end_hot (hb4.hot I5) nxi hi5 hl5.isList (by have := rv5.length; simp; omega) fun g6 eb => ?_
      have I6 : Inv (X.blk s3 H3 scope ce [it]) [] (wipe σ (own.map (·.2))) G { s5 with heap := g6 } := I5.turned (t' := s5.toks) (fun b o nb e => eb b o nb e) f0 f1 f3 f4 f5
      have I7 : Inv X pins σ G { s5 with heap := g6 } := I3.call' (ch := [it]) I6.os I6.base I6.hok I6.bare fun b hm => by
        rw [List.mem_singleton.mp hm]
        exact ⟨fit3.2.2.2.1, fit3.2.1, fit3.2.2.2.2.1, fit3.2.2.2.2.2⟩
      have nC : G s3.heap.objs.size = Option.none := by
        have z : G ce.locals = Option.none := I6.free
        rw [eL] at z
        exact z
      obtain ⟨m, hn, _⟩ := I6.loc
      have hn : g6.Ns ce.locals m := hn
      rw [eL] at hn
      obtain ⟨k0, k1, k2, k3, k4, k5⟩ := I3.fpOk (Nat.le_refl _) nC
      exact ⟨m, hn, fun g7 sb => ⟨.ref D, G, I7.turned (t' := s5.toks) (fun b o nb e => (sb.2 b nb).trans e) k0 k1 k3 k4 k5, rfl, pd G pv⟩⟩
  refine codeAny_compStart_list (loop s4 I4 hit4) ?_
  exact PySem.wpAny_pyIter_listiter hit4 (loop s4 I4 hit4)
end
open PySem.Spec PyProof.Rows
/-! ### isinstance of the handled exception, wherever it was handed -/
def rIsB (K : PySem.W.Frag) (D xh : Addr) : List V → Hp → VK → Prop := fun vs H Q => ∃ (c : V) (u : Value) (b : Bool), vs = [.ref xh, c] ∧ ClsV c u ∧ PySem.W.kitOne K (.ref D) u = some b ∧ Q (.bl b) H
theorem call_isB {X : Cx} {xh D : Addr} {oh : Obj} (hb : HotB X xh oh) (C : ExcC X.K D) (hc : oh.cls = .ref D) (hd : oh.dict = none) : CallR X (.builtin "isinstance") (rIsB X.K D xh) := by
  intro pins s σ H vs us Q I r y
  obtain ⟨c, u, b, rfl, kc, e, q⟩ := y
  obtain ⟨u1, u2, rfl, r1, r2⟩ := vals2 r
  cases (show u1 = Value.ref xh from r1)
  have e2 := kc.eq r2
  subst e2
  obtain ⟨ws, d1, _⟩ := hb.dat
  have J : PySem.W.InstAt s.heap xh oh D none := by
    have g := hb.get I
    obtain ⟨oc, od, oda, osl⟩ := oh
    dsimp only at hc hd d1
    subst hc hd d1
    exact ⟨g, rfl, rfl, trivial⟩
  exact PySem.W.kia_one (PySem.W.handS_kitx_exc C.hg C.hk C.hs C.hd C.ha C.hn C.ht C.hm) I.kIn J e (fun z => nomatch z) fun tk => ⟨.bl b, H, I.tok tk, rfl, q⟩
/-! ### a def called while an exception is handled, that exception told -/
structure HotP (A : Around) (outer : List Env) (H : Hp) (s : Shared) (xh : Addr) (oh : Obj) : Prop where
  hnd : A.handled = some (.ref xh)
  dat : ∃ vs : Array Value, oh.data = .fields vs ∧ vs[2]? = some .none
  pin : L2H.PinOk outer H s (xh, oh)
theorem HotP.b {CX : CXT} {P : Program} {w : World} {K : PySem.W.Frag} {mg : Str → Option Value} {base : Heap} {N : List Str} {qual : Str} {scope : Scope} {f : Addr} {cd : Value} {A : Around} {outer : List Env} {s : Shared} {H : Hp} {E : XK} {xh : Addr} {oh : Obj} (h : HotP A outer H s xh oh) :
    HotB (L2H.cxH CX P w K mg base N qual scope f cd A outer s H E (xh, oh)) xh oh := ⟨h.hnd, h.pin.get, h.dat, h.pin.free, h.pin.nofs, fun z => nomatch (show xh ∈ ([] : List Addr) from z)⟩
/-- its promise: sp with the exception told -/
def FnB (P : Program) (w : World) (K : PySem.W.Frag) (mg : Str → Option Value) (base : Heap) (k : Nat) (f : Addr) (fd : FuncData) (ps : List Str) (sp : Addr → Value → Option Addr → Sp) : Prop :=
  ∀ (A : Around) (outer : List Env) (s : Shared) (H : Hp) (args : Args) (us : List Value) (vs : List V) (Q : VK) (xh : Addr) (oh : Obj), L2H.RoomH k A → HotP A outer H s xh oh → Env0 P w K mg base A outer s H → BindsTo s fd args (ps.zip us) → Vals vs us → vs.length = ps.length → sp xh oh.cls oh.dict vs H Q E0 →
    codeAny (model P w) A (.call (.ref f) args) (CR CX0 outer P w H s Q E0) s
theorem Fun.okB {P : Program} {w : World} {K : PySem.W.Frag} {mg : Str → Option Value} {base : Heap} {x qual : Str} {st : Stmt} {f : Addr} {fd : FuncData} {N ps : List Str} {k : Nat} {sp : Addr → Value → Option Addr → Sp} (F : L2.Fun K x qual st f fd) (S : FnScope N ps (defScope st))
    (body : ∀ (cdv : Value) (A : Around) (outer : List Env) (s : Shared) (H : Hp) (vs : List V) (Q : VK) (xh : Addr) (oh : Obj), L2H.RoomH k (A.deeper (PyProof.Rows.envOfC qual (defScope st) s.heap.objs.size f cdv)) → HotB (L2H.cxH CX0 P w K mg base N qual (defScope st) f cdv A outer s H E0 (xh, oh)).nox xh oh → sp xh oh.cls oh.dict vs H Q E0 →
      ∃ t, PSs (L2H.cxH CX0 P w K mg base N qual (defScope st) f cdv A outer s H E0 (xh, oh)).nox (defBody st) t ∧ t { nx := fun _ H' => Q .non H', rt := Q } (L2.start N vs) H) : FnB P w K mg base (k + 1) f fd ps sp := by
  obtain ⟨oc, od, kV, doc, pm, an, cdv, ct, osl, rfl, lk, hcd⟩ := F.ex
  intro A outer s H args us vs Q xh oh hr hp e0 hb r hl hsp
  have KX : K.In s.heap := e0.mod.kin.keeps fun b o e => (e0.bs b o e).1
  have hkind : ∀ y ∈ ps.zip us, (defScope st).names.lookup y.1 = some .local ∨ ((defScope st).names.lookup y.1 = some .cell ∧ ((cellsFrom (s.heap.objs.size + 1) (defScope st).names []).lookup y.1).isSome = true) := by
    rintro ⟨n, v⟩ hy
    exact (S.par n (List.of_mem_zip hy).1).imp id fun q => ⟨q, PySem.W.cellsFrom_some _ _ _ (.inl q)⟩
  refine codeAny_call_function hr.depth (KX _ _ lk) rfl S.co S.gen rfl (PySem.W.codeRec_of KX hcd) (hb _ _ _ _ (wpAny_newFunctionEnv_cells S.kind hkind fun env he s1 y => ?_))
  subst he
  refine ⟨(e0.mod.nolimit.keeps fun b o e => (e0.bs b o e).1).keeps y.toInCall.keep, codeAny_func ?_⟩
  have hB := hp.b (CX := CX0) (P := P) (w := w) (K := K) (mg := mg) (base := base) (N := N) (qual := qual) (scope := defScope st) (f := f) (cd := cdv) (E := E0)
  obtain ⟨t, ht, hq⟩ := body cdv A outer s H vs Q xh oh (hr.deeper _) ⟨hB.hnd, hB.obj, hB.dat, hB.unt, hB.nfs, hB.nex⟩ hsp
  have I : Inv (L2H.cxH CX0 P w K mg base N qual (defScope st) f cdv A outer s H E0 (xh, oh)) [] (L2.start N vs) H s1 := L2H.inv_startH S hp.pin e0 hl r y
  refine wpAny_mono (ht.run [] s1 (L2.start N vs) H _ (I.wish _) hq) (fun fl s' z => ?_) fun _ _ z => z.elim
  have z' : SP (L2H.cxH CX0 P w K mg base N qual (defScope st) f cdv A outer s H E0 (xh, oh)) [] { nx := fun _ H' => Q .non H', rt := Q } fl s' := z.unwish
  cases fl with
  | ret u =>
    obtain ⟨v, σ', H', J, rv, q⟩ := z'
    exact ⟨v, H', J.os, J.bare, J.base, J.hok, rv, q⟩
  | next =>
    obtain ⟨σ', H', J, q⟩ := z'
    exact ⟨V.non, H', J.os, J.bare, J.base, J.hok, rfl, q⟩
  | brk => exact z'.elim fun _ y => y.elim fun _ y => y.2.elim
  | cont => exact z'.elim fun _ y => y.elim fun _ y => y.2.elim
/-! ### calls of such defs, out of the suite or out of another such def -/
structure HotG (X : Cx) (xh : Addr) (oh : Obj) : Prop where
  hnd : X.A.handled = some (.ref xh)
  dat : ∃ vs : Array Value, oh.data = .fields vs ∧ vs[2]? = some .none
  at_ : ∀ {pins : List (Addr × Obj)} {σ : L2.St} {H : Hp} {s : Shared}, Inv X pins σ H s → s.heap.get? xh = some oh ∧ H xh = none ∧ xh ≠ X.env.locals ∧ xh ∉ X.fs
theorem HotB.g {X : Cx} {xh : Addr} {oh : Obj} (h : HotB X xh oh) : HotG X xh oh := ⟨h.hnd, h.dat, fun I => ⟨h.get I, h.none I, h.nloc I, h.nfs⟩⟩
theorem hotG_suite {X : Cx} {a : Addr} {oe : Obj} {pn : List (Addr × Obj)} {cls : Value} {d : Option Addr} (hz : L2N.Zn cls d oe) (hf : ∃ vs, oe.data = .fields vs) : HotG (X.suite a ((a, oe) :: pn)) a oe := by
  obtain ⟨vs, e⟩ := hf
  refine ⟨rfl, ⟨vs, e, hz.2.2 vs e⟩, fun I => ?_⟩
  obtain ⟨h1, h2, h3, h4, _⟩ := I.pin (a, oe) (List.mem_append_left _ List.mem_cons_self)
  exact ⟨h1, h2, h3, h4⟩
theorem HotG.p {X : Cx} {xh : Addr} {oh : Obj} (h : HotG X xh oh) {pins : List (Addr × Obj)} {σ : L2.St} {H : Hp} {s : Shared} (I : Inv X pins σ H s) : HotP X.A X.stack H s xh oh := by
  obtain ⟨h1, h2, h3, h4⟩ := h.at_ I
  obtain ⟨vs, d1, d2⟩ := h.dat
  exact ⟨h.hnd, h.dat, h1, h2, fun z => (List.mem_cons.mp (I.stkSub xh z)).elim h3 h4, fun v z => by rw [d1] at z; cases z⟩
def tCallG (sp : Addr → Value → Option Addr → Sp) (xh : Addr) (cls : Value) (dd : Option Addr) (n : Nat) (t : L2.TA) : TE := fun σ H Q => t σ H fun vs H1 => vs.length = n ∧ sp xh cls dd vs H1 Q E0
theorem pe_callG {X : Cx} {k : Nat} {f : Addr} {fd : FuncData} {ps : List Str} {sp : Addr → Value → Option Addr → Sp} {xh : Addr} {oh : Obj} {x : Str} {p pos : Pos} {e : Expr} {es : List Expr} {t : L2.TA} (G : FnB X.prog X.w X.K X.mg X.base k f fd ps sp) (hr : L2H.RoomH k X.A) (hg : HotG X xh oh) {cls : Value} {dd : Option Addr} (hcl : oh.cls = cls) (hdd : oh.dict = dd) (gl : Gl X x) (hm : X.mg x = some (.ref f)) (hk : PySem.W.keepIn X.K (.ref f) = true) (hb : Binds X.K fd ps [])
    (ha : PA X (e :: es) t) (hdb : (x == ("__debug__" : Str)) = false := by decide) (he : starEach (e :: es) X.env = (false, eval e X.env) :: starEach es X.env := by rfl) (hpl : (backTo pos (starEach es X.env)).any (·.1) = false := by rfl) :
    PE X (.Call (.Name x p) (e :: es) [] pos) (tCallG sp xh cls dd ps.length t) := by
  subst hcl hdd
  refine ⟨fun pins s σ H Q I y => ?_⟩
  refine wpAny_Call_Name_kw (ld_glob I gl hm (PySem.W.callWith_K (h₀ := X.base) I.ok.mod.kin hk (thn (ha.run pos pins s σ H _ I y) fun us s1 ⟨vs, H1, I1, r, q⟩ => ⟨I1.kIn, ?_⟩) he hpl) hdb)
  obtain ⟨hl, q⟩ := q
  have hu : us.length = ps.length := by rw [← r.length, hl]
  have hbb : BindsTo s1 fd ⟨us, []⟩ (ps.zip us) := by
    have z := hb s1 us I1.kIn (by rw [List.append_nil]; exact hu)
    rw [List.append_nil] at z
    exact z
  refine wpAny_call (codeAny_mono (G X.A X.stack s1 H1 ⟨us, []⟩ us vs Q xh oh hr (hg.p I1) I1.env0 hbb r hl q) fun rs s' hq => ?_)
  cases rs with
  | error e => exact False.elim hq
  | ok fl =>
    cases fl with
    | ret u => exact I1.after hq
    | next => exact False.elim hq
    | brk => exact False.elim hq
    | cont => exact False.elim hq
/-! ### a lambda without parameters handed to a def, its errors told with their context -/
def lamCxN (X : Cx) (A : Around) (outer : List Env) (s : Shared) (H : Hp) (E : XK) (scope : Scope) (f c : Addr) : Cx :=
  (LamX.lamCx X A outer s H E scope f c).wish fun e s' => wpAny (model X.prog X.w) (A.deeper (LamX.lamEnv X scope s.heap.objs.size f c)) (leaving (LamX.lamEnv X scope s.heap.objs.size f c) e) (fun _ s2 => L2N.CX X.prog X.w outer H s E e s2) (fun e2 s2 => L2N.CX X.prog X.w outer H s E e2 s2) s'
theorem pe_actN {X : Cx} {pins : List (Addr × Obj)} {σ : L2.St} {H : Hp} {s : Shared} {CXg : CXT} {Eg : XK} {Ng : List Str} {qg : Str} {sg : Scope} {g f c : Addr} {cdg pm ctv : Value} {params : Arguments} {body : Expr} {scope : Scope} {k i : Nat} {a : Str} {pn : List (Addr × Obj)} {xe : Value → Shared → Prop} {W : WX} {E : L2.St → XK} {tb : XK → TE} {p1 p2 : Pos}
    (I : Inv X pins σ H s) (L : LamX.LamS X.env.scope scope) (hf : s.heap.get? f = some (PySem.W.kla_obj "<lambda>" (X.env.qual ++ "<lambda>") params body scope (cloFrom X.env.cells scope.names []) pm c ctv)) (hfn : H f = none) (hfr : f ∉ frs X.stack)
    (hbind : bindArgs (PySem.W.kla_fn "<lambda>" (X.env.qual ++ "<lambda>") params body scope (cloFrom X.env.cells scope.names []) pm (.ref c) ctv) ⟨[], []⟩ = pure [])
    (tk : L2N.Takes ((cxOf CXg X.prog X.w X.K X.mg X.base Ng qg sg g cdg X.A X.stack s H Eg).tr pn xe) W) (hW : ∀ cls d σ2 H2, E σ2 cls d H2 → W cls d σ2 H2) (hr : Room (k + 1) (X.A.deeper (envOfC qg sg s.heap.objs.size g cdg)))
    (hbody : ∀ (A : Around) (outer : List Env) (s : Shared) (H : Hp) (E : XK), Room k (A.deeper (LamX.lamEnv X scope s.heap.objs.size f c)) → PE (lamCxN X A outer s H E scope f c) body (tb E))
    (hN : Ng[i]? = some a) (hv : Vis sg a) (hd : (a == ("__debug__" : Str)) = false := by decide) (hcd : (a == ("__classdict__" : Str)) = false := by decide) :
    PE ((cxOf CXg X.prog X.w X.K X.mg X.base Ng qg sg g cdg X.A X.stack s H Eg).tr pn xe) (.Call (.Name a p1) [] [] p2) (fun σZ HZ Q => σZ[i]? = some (some (.ref f)) ∧ HZ c = some (LamX.CodeO c (X.env.qual ++ "<lambda>")) ∧ tb (E σZ) σ HZ Q) := by
  refine ⟨fun pz sz σz Hz Q Iz ⟨hs, hc, y⟩ => ?_⟩
  refine wpAny_Call_Name_kw (thn ((pe_var (pos := p1) (i := i) hN hv hd hcd).run pz sz σz Hz (fun v H1 => v = .ref f ∧ H1 = Hz) Iz ⟨.ref f, hs, rfl, rfl⟩) fun u s1 ⟨v, H1, I1, r1, ev, eH⟩ => ?_)
  subst ev eH
  cases (show u = Value.ref f from r1)
  have of1 := I1.base.keep f _ hf hfn hfr (fun z => nomatch (show f ∈ ([] : List Addr) from z))
  refine PySem.W.callWith_F0 ⟨_, _, _, _, of1⟩ ?_
  obtain ⟨⟨oc, vs, t, hoc, hdc, hvc⟩, _, _⟩ := I1.hok c _ hc
  have run : codeAny (model X.prog X.w) (X.A.deeper (envOfC qg sg s.heap.objs.size g cdg)) (.call (.ref f) ⟨[], []⟩) (CR (L2N.CX X.prog X.w) (envOfC qg sg s.heap.objs.size g cdg :: X.stack) X.prog X.w H1 s1 Q (E σz)) s1 := by
    refine PySem.W.kla_callFunE hr.depth of1 rfl L.co L.gen rfl ⟨c, oc, vs, t, rfl, hoc, hdc, hvc⟩ ?_
    rw [hbind]
    refine wpAny_pure (wpAny_newFunctionEnv (fun y hy => (L.own y hy).2) (fun y hy => absurd hy (by simp)) (fun g1 hns hsb => ⟨I1.nolimit.fresh _ hsb, ?_⟩) L.kind)
    have kp : ∀ b o, s1.heap.get? b = some o → g1.get? b = some o := fun b o e => hsb.extBut b o (Nat.ne_of_lt (Heap.lt_size e)) (Heap.get?_push_of_some _ e)
    have J := LamX.lam_start2 (E := E σz) (f := f) (c' := c) (tk := s1.toks + ([] : List (Str × Value)).length) I L I1.env0 hr.hd I1.base hns kp
    refine PySem.W.kla_codeExpr (wpAny_mono ((hbody _ _ s1 H1 (E σz) (hr.deeper _)).run [] _ _ H1 Q (J.wish _) y) (fun v s3 ⟨w3, H3, J3, rv, q⟩ => ⟨w3, H3, J3.os, J3.bare, J3.base, J3.hok, rv, q⟩) fun e s3 z => z)
  refine wpAny_call (codeAny_mono run fun rs s2 hq => ?_)
  cases rs with
  | error e => exact tk e s2 (L2N.XE.of_call I1 (fun cls d H' h => hW cls d σz H' h) hq)
  | ok fl =>
    cases fl with
    | ret u => exact I1.after hq
    | next => exact False.elim hq
    | brk => exact False.elim hq
    | cont => exact False.elim hq
/-- the def that calls what it got; TT: what it makes of the lambda's reading -/
def GivesN (X : Cx) (Ng : List Str) (x : Str) (sg : Scope) (g : Addr) (cdg : Value) (bg : List Stmt) (a q : Str) (TT : (XK → Hp → VK → Prop) → Hp → VK → Prop) : Prop :=
  ∀ (k : Nat) (f c : Addr) (s : Shared) (H : Hp) (Q : VK) (tl : XK → Hp → VK → Prop), Room k (X.A.deeper (envOfC x sg s.heap.objs.size g cdg)) → 40 ≤ k →
    (∀ (W : WX) (pn : List (Addr × Obj)) (xe : Value → Shared → Prop) (E : L2.St → XK) (p1 p2 : Pos), L2N.Takes ((cxOf CX0 X.prog X.w X.K X.mg X.base Ng x sg g cdg X.A X.stack s H E0).tr pn xe) W → (∀ cls d σ2 H2, E σ2 cls d H2 → W cls d σ2 H2) →
      PE ((cxOf CX0 X.prog X.w X.K X.mg X.base Ng x sg g cdg X.A X.stack s H E0).tr pn xe) (.Call (.Name a p1) [] [] p2) (fun σZ HZ Q => σZ[0]? = some (some (.ref f)) ∧ HZ c = some (LamX.CodeO c q) ∧ tl (E σZ) HZ Q)) →
    H c = some (LamX.CodeO c q) → TT tl H Q →
    ∃ t, PSs (cxOf CX0 X.prog X.w X.K X.mg X.base Ng x sg g cdg X.A X.stack s H E0).nox bg t ∧ t { nx := fun _ H' => Q .non H', rt := Q } (L2.start Ng [.ref f]) H
theorem pe_lamN {X : Cx} {T : List (Addr × Str)} {TT : (XK → Hp → VK → Prop) → Hp → VK → Prop} {x a : Str} {g c P : Addr} {k : Nat} {pg : Arguments} {bg : List Stmt} {sg : Scope} {dV kV doc pm cdv ct oc : Value} {an od : Option Addr} {osl : Array (Option Value)} {Ng : List Str}
    {params : Arguments} {body : Expr} {scope : Scope} {t : XK → TE} {p lpos pos : Pos} (hg : Gl X x) (hm : X.mg x = some (.ref g)) (hk : PySem.W.keepIn X.K (.ref g) = true)
    (lk : X.K.lookup g = some ⟨oc, od, .func (PySem.W.fnOf x x pg bg sg dV kV doc pm an cdv ct), osl⟩) (hcg : PySem.W.codeIn X.K cdv x = true) (hb : Binds X.K (PySem.W.fnOf x x pg bg sg dV kV doc pm an cdv ct) [a] []) (Sg : FnScope Ng [a] sg) (hNg : Ng[0]? = some a) (hva : Vis sg a)
    (hG : GivesN X Ng x sg g cdv bg a (X.env.qual ++ "<lambda>") TT) (TB : LamX.TabB X.base X.mg c P) (hcode : X.env.code = .ref c) (hmT : (P, X.env.qual ++ "<lambda>") ∈ T) (hu : ∀ p ∈ T, p.1 = P → p.2 = X.env.qual ++ "<lambda>") (hr : Room (k + 2) X.A) (k40 : 40 ≤ k + 1) (L : LamX.LamS X.env.scope scope) (hdef : defaultsOf params X.env = ([], []))
    (hbind : ∀ (q : Str) (cl : List (Str × Addr)) (pm cv ctv : Value), bindArgs (PySem.W.kla_fn "<lambda>" q params body scope cl pm cv ctv) ⟨[], []⟩ = pure [])
    (hbody : ∀ (A : Around) (outer : List Env) (s : Shared) (H : Hp) (E : XK) (f c2 : Addr), Room k (A.deeper (LamX.lamEnv X scope s.heap.objs.size f c2)) → PE (lamCxN X A outer s H E scope f c2) body (t E))
    (hdb : (x == ("__debug__" : Str)) = false := by decide) (hd : (a == ("__debug__" : Str)) = false := by decide) (hcd : (a == ("__classdict__" : Str)) = false := by decide) :
    PE X (.Call (.Name x p) [.Lambda params body scope lpos] [] pos) (LamX.tLam T TT t) := by
  refine ⟨fun pins s σ H Q I ⟨hT, y⟩ => ?_⟩
  refine wpAny_Call_Name_kw (ld_glob I hg hm (PySem.W.callWith_K (h₀ := X.base) I.ok.mod.kin hk ?_ (by rfl) (by rfl)) hdb)
  show wpAny _ _ (spliced ((false, eval (.Lambda params body scope lpos) X.env) :: backTo pos (starEach [] X.env))) _ _ s
  refine Calls.spliced_cons (LamX.lam_make2 I TB hcode hmT hu hT hdef (L.has I.ok) fun f c2 pm2 ctv H1 s1 I1 eN T1 hf hfn hfr hco => Calls.spliced_nil ⟨I1.kIn, ?_⟩)
  have run : codeAny (model X.prog X.w) X.A (.call (.ref g) ⟨[.ref f], []⟩) (CR CX0 X.stack X.prog X.w H1 s1 Q E0) s1 := by
    refine LamX.run_ofS (N := Ng) (ps := [a]) (us := [.ref f]) (vs := [.ref f]) lk hcg Sg hr I1.env0 (hb s1 [.ref f] I1.kIn rfl) (.cons rfl .nil) rfl fun hr2 => ?_
    obtain ⟨t2, ht2, hq2⟩ := hG _ f c2 s1 H1 Q (fun E H' Q' => t E σ H' Q') hr2 k40 (fun W pn xe E p1 p2 tk hW => pe_actN (i := 0) I1 L hf hfn hfr (hbind _ _ _ _ _) tk hW hr2 (fun A outer s H E hr3 => hbody A outer s H E f c2 hr3) hNg hva hd hcd) hco (y H1 eN T1)
    exact ⟨t2, ht2.nox, hq2⟩
  refine wpAny_call (codeAny_mono run fun rs s2 hq => ?_)
  cases rs with
  | error e => exact (show False from hq).elim
  | ok fl =>
    cases fl with
    | ret u => exact I1.after hq
    | next => exact False.elim hq
    | brk => exact False.elim hq
    | cont => exact False.elim hq
/-! ### try: return ('value', ask()) / except TermError as e: the error's word and field -/
/-- a class that TermError names -/
structure Wd (K : PySem.W.Frag) (CT D : Addr) (dd : Option Addr) : Prop where
  exc : ExcC K D
  nod : dd = none
  mat : PySem.W.exmOne K (.ref D) (.ref CT) = some true
def spName (K : PySem.W.Frag) (CT : Addr) (word : Addr → Option Str) : Addr → Value → Option Addr → Sp := fun xh cls dd vs H Q _ => ∃ (D : Addr) (nm : Str), cls = .ref D ∧ Wd K CT D dd ∧ word D = some nm ∧ vs = [.ref xh] ∧ ∀ H', Same H H' → Q (.str nm) H'
def spField (word : Addr → Option Str) (fld : Addr → Option Addr → Hp → V → Prop) : Addr → Value → Option Addr → Sp := fun xh cls dd vs H Q _ => ∃ (D : Addr) (nm : Str) (v : V), cls = .ref D ∧ word D = some nm ∧ fld D dd H v ∧ vs = [.ref xh, .str nm] ∧ ∀ H', Same H H' → Q v H'
def tSuite (K : PySem.W.Frag) (CT : Addr) (word : Addr → Option Str) (fld : Addr → Option Addr → Hp → V → Prop) (a : Addr) (cls : Value) (d : Option Addr) : TS :=
  tSeq (tAsg (tCallG (spName K CT word) a cls d 1 (tCons (tVar 1) tNil)) (gName 2)) (tRet (tTup (tCons (tVar 2) (tCons (tCallG (spField word fld) a cls d 2 (tCons (tVar 1) (tCons (tVar 2) tNil))) tNil))))
def TTry (K : PySem.W.Frag) (CT : Addr) (word : Addr → Option Str) (fld : Addr → Option Addr → Hp → V → Prop) : (XK → Hp → VK → Prop) → Hp → VK → Prop := fun tl H Q =>
  ∀ f : Addr, tl (fun cls d H2 => wAs K (.ref CT) 1 (tSuite K CT word fld) (fun _ _ _ _ => False) { nx := fun _ H' => Q .non H', rt := Q } cls d [some (.ref f), none, none] H2) H
    (fun v H' => 2 ≤ sizeLine ∧ ∀ p, H' p = none → Q (.ref p) (upd H' p (.tup [.str ("value" : Str), v])))
theorem wTry {K : PySem.W.Frag} {CT : Addr} {word : Addr → Option Str} {fld : Addr → Option Addr → Hp → V → Prop} {Q : VK} {n : L2.St → Hp → Prop} {cls : Value} {dd : Option Addr} {f D : Addr} {nm : Str} {v : V} {H' : Hp}
    (hst : ∀ D dd H H' v, Same H H' → fld D dd H v → fld D dd H' v) (e : cls = .ref D) (hw : Wd K CT D dd) (ew : word D = some nm) (hf : fld D dd H' v) (h : ∀ (p : Addr) (H2 : Hp), Same H' H2 → H2 p = none → Q (.ref p) (upd H2 p (.tup [.str nm, v]))) :
    wAs K (.ref CT) 1 (tSuite K CT word fld) (fun _ _ _ _ => False) { nx := n, rt := Q } cls dd [some (.ref f), none, none] H' := by
  subst e
  refine ⟨true, hw.mat, fun _ a _ => ?_, fun z => nomatch z⟩
  refine ⟨_, rfl, rfl, D, nm, rfl, hw, ew, rfl, fun H1 k1 => ?_⟩
  refine ⟨_, rfl, _, rfl, _, rfl, rfl, D, nm, v, rfl, ew, hst _ _ _ _ _ k1 hf, rfl, fun H2 k2 => ⟨by show 2 ≤ sizeLine; decide, fun p hp => h p H2 (k1.trans k2) hp⟩⟩
theorem try_gives {X : Cx} {x q : Str} {sg : Scope} {g CT fN fF : Addr} {cdg : Value} {fdN fdF : FuncData} {word : Addr → Option Str} {fld : Addr → Option Addr → Hp → V → Prop} {j1 n1 n2 : Nat} {q1 q2 q3 q4 q5 q6 q7 q8 q9 p1 p2 p3 p4 p5 p6 p7 p8 p9 q10 q11 : Pos}
    (s0 : sg.names.lookup ("_law_ask" : Str) = some .local) (s1 : sg.names.lookup ("_law_e" : Str) = some .local) (s2 : sg.names.lookup ("_law_word" : Str) = some .local) (g1 : sg.names.lookup ("TermError" : Str) = some .globalImplicit) (g2 : sg.names.lookup ("_law_error_name" : Str) = some .globalImplicit) (g3 : sg.names.lookup ("_law_error_field" : Str) = some .globalImplicit)
    (mT : X.mg ("TermError" : Str) = some (.ref CT)) (mN : X.mg ("_law_error_name" : Str) = some (.ref fN)) (mF : X.mg ("_law_error_field" : Str) = some (.ref fF)) (kN : PySem.W.keepIn X.K (.ref fN) = true) (kF : PySem.W.keepIn X.K (.ref fF) = true) (bN : Binds X.K fdN [("_law_e" : Str)] []) (bF : Binds X.K fdF [("_law_e" : Str), "_law_word"] [])
    (GN : FnB X.prog X.w X.K X.mg X.base 3 fN fdN [("_law_e" : Str)] (spName X.K CT word)) (GF : FnB X.prog X.w X.K X.mg X.base 3 fF fdF [("_law_e" : Str), "_law_word"] (spField word fld)) :
    GivesN X [("_law_ask" : Str), "_law_e", "_law_word"] x sg g cdg [.Try [.Return (some (.Tuple [.Constant (.str ("value" : Str)) j1 p1, .Call (.Name ("_law_ask" : Str) p2) [] [] p3] n1 p4)) p5] [.ExceptHandler (some (.Name ("TermError" : Str) p6)) (some ("_law_e" : Str)) [.Assign [.Name ("_law_word" : Str) q1] (.Call (.Name ("_law_error_name" : Str) q2) [.Name ("_law_e" : Str) q3] [] q4) q5, .Return (some (.Tuple [.Name ("_law_word" : Str) q6, .Call (.Name ("_law_error_field" : Str) q7) [.Name ("_law_e" : Str) q8, .Name ("_law_word" : Str) q9] [] p7] n2 p8)) p9] q10] [] [] q11] ("_law_ask" : Str) q (TTry X.K CT word fld) := by
  intro k f c s H Q tl hr k40 act hc y
  have hr3 := hr.mono (show 3 ≤ k by omega)
  have nd : ([("_law_ask" : Str), "_law_e", "_law_word"] : List Str).Nodup := by decide +kernel
  refine ⟨_, pss_one (L2N.ps_try_as (i := 1) (c := .ref CT) (tb := fun W => tRet (tTup (tCons (tC (.str ("value" : Str))) (tCons (fun σZ HZ Q => σZ[0]? = some (some (.ref f)) ∧ HZ c = some (LamX.CodeO c q) ∧ tl (fun cls d H2 => W cls d σZ H2) HZ Q) tNil))))
    (ts := tSuite X.K CT word fld) (Wout := fun _ _ _ _ => False) rfl rfl nd rfl s1 ⟨g1, by decide +kernel, .inl mT⟩ (fun _ _ ⟨_, _, _, _, _, _, _, _, _, _, _, _, _, _, _, _, z⟩ => z.elim)
    (fun W pn xe tk _ => pss_one (ps_ret (pe_tup (pa_cons pe_str (pa_cons (act W pn xe (fun σ2 cls d H2 => W cls d σ2 H2) _ _ tk (fun _ _ _ _ h => h)) pa_nil)))))
    (fun a oe cls d pn hz hf => pss_cons (ps_set (i := 2) nd rfl (.inl s2) (by exact pe_callG (X := Cx.suite (cxOf CX0 X.prog X.w X.K X.mg X.base [("_law_ask" : Str), "_law_e", "_law_word"] x sg g cdg X.A X.stack s H E0).nox a ((a, oe) :: pn)) GN ⟨hr3.dp, hr3.un⟩ (hotG_suite hz hf) hz.1 hz.2.1 g2 mN kN bN (pa_cons (pe_var (i := 1) rfl (.inl s1)) pa_nil)))
      (pss_one (ps_ret (pe_tup (pa_cons (pe_var (i := 2) rfl (.inl s2)) (pa_cons (by exact pe_callG (X := Cx.suite (cxOf CX0 X.prog X.w X.K X.mg X.base [("_law_ask" : Str), "_law_e", "_law_word"] x sg g cdg X.A X.stack s H E0).nox a ((a, oe) :: pn)) GF ⟨hr3.dp, hr3.un⟩ (hotG_suite hz hf) hz.1 hz.2.1 g3 mF kF bF (pa_cons (pe_var (i := 1) rfl (.inl s1)) (pa_cons (pe_var (i := 2) rfl (.inl s2)) pa_nil))) pa_nil))))))), ?_⟩
  exact ⟨rfl, hc, y f⟩
section OPN
open PySem PySem.Spec PyProof.Rows
/-! ### an own exception whose __init__ says super().__init__(text), then self.f = x -/
/-- the context of such a body: its only cell is __class__'s, in the written part -/
def cxS (CX : CXT) (P : Program) (w : World) (K : PySem.W.Frag) (mg : Str → Option Value) (base : Heap) (N : List Str) (qual : Str) (scope : Scope) (f : Addr) (cd : Value) (cc : Addr) (A : Around) (outer : List Env) (s : Shared) (H : Hp) (E : XK) : Cx where
  prog := P
  w := w
  K := K
  mg := mg
  base := base
  A := A.deeper (PySem.W.ksEnv qual scope s.heap.objs.size f cd cc)
  N := N
  s_0 := s
  H_0 := H
  env := PySem.W.ksEnv qual scope s.heap.objs.size f cd cc
  outer := outer
  stack := PySem.W.ksEnv qual scope s.heap.objs.size f cd cc :: outer
  ex := []
  calm := true
  fn := fun _ => false
  pn := []
  xe := fun e s' => wpAny (model P w) (A.deeper (PySem.W.ksEnv qual scope s.heap.objs.size f cd cc)) (leaving (PySem.W.ksEnv qual scope s.heap.objs.size f cd cc) e) (fun _ s'' => CX outer H s E e s'') (fun e' s'' => CX outer H s E e' s'') s'
/-- the scope of such a def -/
structure SupScope (ps : List Str) (sc : Scope) : Prop where
  kind : sc.kind = .function
  co : sc.isCoroutine = false
  gen : sc.isGenerator = false
  nd : ps.Nodup
  par : ∀ x ∈ ps, sc.names.lookup x = some .local
  sup : sc.names.lookup ("super" : Str) = some .globalImplicit
  cls : sc.names.lookup ("__class__" : Str) = some .free
  noc : ∀ y ∈ sc.names, y.2 ≠ .cell
  fre : ∀ x, sc.names.lookup x = some .free → x = ("__class__" : Str)
theorem rev_lookup {ps : List Str} {us : List Value} {i : Nat} {y : Str} {u : Value} (nd : ps.Nodup) (hp : ps[i]? = some y) (hu : us[i]? = some u) : (ps.zip us).reverse.lookup y = some u := by
  have gen : ∀ {l : List (Str × Value)} {n : Str} {c : Value}, (l.map (·.1)).Nodup → (n, c) ∈ l → l.lookup n = some c := fun {l n c} => by
    induction l with
    | nil => intro _ h; cases h
    | cons p r ih =>
      intro hn h
      obtain ⟨k, d⟩ := p
      rw [List.map_cons, List.nodup_cons] at hn
      rw [List.lookup_cons]
      rcases List.mem_cons.mp h with e | h2
      · cases e
        rw [beq_self_eq_true]
      · have ne : (n == k) = false := by
          rw [beq_eq_false_iff_ne]
          rintro rfl
          exact hn.1 (List.mem_map.mpr ⟨_, h2, rfl⟩)
        rw [ne]
        exact ih hn.2 h2
  refine gen ?_ ?_
  · rw [List.map_reverse]
    unfold List.Nodup
    rw [List.pairwise_reverse]
    have e : (ps.zip us).map (·.1) = ps.take us.length := by
      clear hp hu nd
      induction ps generalizing us with
      | nil => simp
      | cons a r ih =>
        cases us with
        | nil => rfl
        | cons b s =>
          rw [List.zip_cons_cons, List.map_cons, ih]
          rfl
    rw [e]
    exact (nd.sublist (List.take_sublist _ _)).imp fun h z => h z.symm
  · rw [List.mem_reverse]
    refine List.mem_of_getElem? (i := i) ?_
    rw [List.getElem?_zip_eq_some]
    exact ⟨hp, hu⟩
theorem inv_startS {CX : CXT} {P : Program} {w : World} {K : PySem.W.Frag} {mg : Str → Option Value} {base : Heap} {ps : List Str} {qual : Str} {scope : Scope} {f cc D : Addr} {cd cl : Value} {cld : Option Addr} {csl : Array (Option Value)} {A : Around} {outer : List Env} {s : Shared} {h1 : Heap} {tk : Nat} {H : Hp} {E : XK} {us : List Value} {vs : List V}
    (S : SupScope ps scope) (hcell : K.lookup cc = some ⟨cl, cld, .cell (some (.ref D)), csl⟩) (hd : A.handled = none) (e0 : Env0 P w K mg base A outer s H) (hl : vs.length = ps.length) (r : Vals vs us)
    (ns : h1.Ns s.heap.objs.size (fun x => (ps.zip us).reverse.lookup x)) (hk : ∀ b o, s.heap.get? b = some o → h1.get? b = some o) :
    Inv (cxS CX P w K mg base ps qual scope f cd cc A outer s H E) [] (vs.map some) H { s with heap := h1, toks := tk } := by
  have KX : K.In s.heap := e0.mod.kin.keeps fun b o e => (e0.bs b o e).1
  have noA : ∀ b : Addr, b ∉ (cxS CX P w K mg base ps qual scope f cd cc A outer s H E).ex := fun b z => absurd (show b ∈ ([] : List Addr) from z) (by simp)
  have look1 : ∀ y c, (cxS CX P w K mg base ps qual scope f cd cc A outer s H E).env.cells.lookup y = some c → y = ("__class__" : Str) ∧ c = cc := fun y c h => by
    have h : List.lookup y [(("__class__" : Str), cc)] = some c := h
    rw [List.lookup_cons] at h
    by_cases q : (y == ("__class__" : Str)) = true
    · rw [q] at h
      exact ⟨eq_of_beq q, (Option.some.inj h).symm⟩
    · rw [Bool.not_eq_true] at q
      rw [q] at h
      cases h
  have base0 : base.get? cc = some ⟨cl, cld, .cell (some (.ref D)), csl⟩ := e0.mod.kin _ _ hcell
  refine ⟨⟨e0.mod, S.kind, rfl, rfl, Nat.le_refl _, fun y z c h1 h2 => ?_, fun y hy => ?_, fun y c h => ?_, fun _ => hd, Around.frames_deeper e0.frames, .inr ⟨rfl, rfl⟩, fun b z => absurd z (noA b), e0.bs, e0.bsz, fun b _ _ => noA b, fun b z => absurd z (noA b), e0.funs, e0.frf⟩,
    rfl, e0.bare, Un.kept hk, ⟨_, ns, fun i y v h1 h2 h3 => ?_⟩, fun y c h => ?_, e0.hok.fresh (Nat.le_refl _), fun y c h => ?_, fun p hp => absurd (show p ∈ ([] : List (Addr × Obj)) from hp) (by simp), e0.hok.kept hk, ?_⟩
  · rw [(look1 _ _ h1).1, (look1 _ _ h2).1]
  · have hy : scope.names.lookup y = some .cell ∨ scope.names.lookup y = some .free := hy
    rcases hy with hy | hy
    · exact absurd rfl (S.noc _ (PySem.mem_of_lookup hy))
    · exact ⟨cc, by rw [S.fre _ hy]; rfl⟩
  · exact nomatch h
  · have ha : vs[i]? = some v := by
      rw [List.getElem?_map] at h2
      cases e : vs[i]? with
      | none => rw [e] at h2; cases h2
      | some a => rw [e] at h2; cases h2; rfl
    obtain ⟨u, hu, rv⟩ := r.get ha
    have hp : ps[i]? = some y := h1
    refine ⟨u, rv, .inl ⟨S.par y (List.mem_of_getElem? hp), ?_⟩⟩
    exact rev_lookup S.nd hp hu
  · obtain ⟨rfl, rfl⟩ := look1 _ _ h
    exact ⟨_, _, hk _ _ (KX _ _ hcell), rfl⟩
  · obtain ⟨rfl, rfl⟩ := look1 _ _ h
    exact (e0.bs _ _ base0).2
  · show (vs.map some).length = ps.length
    rw [List.length_map, hl]
/-- the bound ValueError.__init__, called -/
theorem call_mw {X : Cx} {pins : List (Addr × Obj)} {σ : L2.St} {H : Hp} {s : Shared} {a C u : Addr} {us : List Value} {A : Around} {E : Value → Shared → Prop} {Q : Value → Shared → Prop} (T : OexC X.K C) (I : Inv X pins σ H s) (e : H a = some (exo a C none)) (hu : s.heap.get? u = some (PySem.W.kxs_mw "ValueError.__init__" a)) (hl : us.length ≤ sizeLine) (h : ∀ s', Inv X pins σ H s' → Q .none s') :
    wpAny (model X.prog X.w) A (call (.ref u) us) Q E s := by
  obtain ⟨nm, q, N, bs, bm, sn, sub, ab, col, dd, k0, k1, k2, k3, k5, hC, hbm⟩ := T.cls
  obtain ⟨t1, ho⟩ := exo_at I.hok e
  obtain ⟨hp, g, d, t, os⟩ := s
  refine wpAny_call (codeAny_of_tree ?_)
  show wpAny _ A.in1 (callAny (.ref u) ⟨us, []⟩) _ _ _
  simp only [callAny]
  refine wpAny_bind (wpAny_load hu ?_)
  simp only [PySem.W.kxs_mw, show (Value.type "method-wrapper" == Value.type "method" || Value.type "method-wrapper" == Value.type "builtin_function_or_method" || Value.type "method-wrapper" == Value.type "method-wrapper") = true by decide, if_true]
  refine PySem.W.KFB.if_so (by decide) ?_
  refine wpAny_bind (PySem.W.check_bound_init PySem.F.excBase_ValueError.toExcCallFacts (I.kIn _ _ hC) ho rfl ?_)
  refine wpAny_bind (wpAny_pure (wpAny_pure ?_))
  refine ⟨plainId_quiet PySem.F.excBase_ValueError.init.plain _, codeAny_builtin PySem.F.excBase_ValueError.initEntry ?_⟩
  refine PySem.W.exc_init_tree (cls := .ref C) (t0 := t1) (dv := none) (c2 := .none) (c3 := .none) (b4 := .bool false) ho hl fun h' k hx _ => ?_
  have J := I.write (t' := t) (x := a) (e := a) (o := exo a C none) (by rw [e]; exact True.intro) (.inl rfl) k ⟨_, hx⟩ (exo_ok hx)
  have eu : upd H a (exo a C none) = H := by
    funext b
    by_cases hb : b = a
    · rw [hb, upd_same, e]
    · rw [upd_ne hb]
  rw [eu] at J
  exact h _ J
theorem cw1 {M : Model} {A : Around} {E : Value → Shared → Prop} {s : Shared} {pos : Pos} {u x : Addr} {i : String} {env : Env} {e : Expr} {Q : Value → Shared → Prop} (h : wpAny M A (spliced (backTo pos (starEach [e] env))) (fun vs s₁ => PySem.W.KxsAt i u x s₁.heap ∧ wpAny M A (call (.ref u) vs) Q E s₁) E s)
    (he : starEach [e] env = [(false, eval e env)]) : wpAny M A (callWith pos (.ref u) [] (backTo pos (starEach [e] env)) []) Q E s := by
  rw [he] at h ⊢
  exact PySem.W.kxs_callWith (i := i) (x := x) rfl (PySem.Calls.evalArgs_plain h)
/-- such an __init__: the exception gets its dict, with the one field -/
def spS (C : Addr) (fld : Str) (okv : V → Prop) : Sp := fun vs H Q _ => ∃ (a : Addr) (v : V), vs = [.ref a, v] ∧ H a = some (exo a C none) ∧ okv v ∧ ∀ dx, H dx = none → dx ≠ a → Q .non (upd (upd H dx (exd dx [(fld, v)])) a (exo a C (some dx)))
open PySem.W in
theorem ok_sup {CX : CXT} {P : Program} {w : World} {K : PySem.W.Frag} {mg : Str → Option Value} {base : Heap} {f cda cc C : Addr} {name qual sf xn fld file : Str} {params : Arguments} {scope : Scope} {dV kV doc pm ct oc cl ccl : Value} {an od cld cdd : Option Addr} {osl csl ccs : Array (Option Value)} {cvs : Array Value} {tf : Tok} {ar : Arg} {e : Expr} {okv : V → Prop} {p0 p1 p2 p3 p4 q1 q2 q3 q4 : Pos}
    (lk : K.lookup f = some ⟨oc, od, .func (ksFn name qual params [.Expr (.Call (.Attribute (.Call (.Name ("super" : Str) p0) [] [] p1) ("__init__" : Str) p2) [e] [] p3) p4, .Assign [.Attribute (.Name sf q1) fld q2] (.Name xn q3) q4] scope dV kV doc pm an (.ref cda) ct cc), osl⟩)
    (hcd : codeIn K (.ref cda) qual = true) (S : SupScope [sf, xn] scope) (hp : (params.posonlyargs ++ params.args).head? = some ar) (har : ar.arg = sf)
    (hcode : K.lookup cda = some ⟨ccl, cdd, .fields cvs, ccs⟩) (hvs : cvs[2]? = some (.str file tf)) (hfile : ((P.main.file : Str) == file) = true) (htop : (P.main.scope.names.lookup ("super" : Str)).isSome = false)
    (hcell : K.lookup cc = some ⟨cl, cld, .cell (some (.ref C)), csl⟩) (T : OexC K C) (hsub : mroIn K C (.ref C) = some true) (hsuper : mg ("super" : Str) = none) (ho : nsIn K cStatics "thirdparty.any" = some none)
    (hm : ks_superIn K C C "__init__" = some (some (.builtin "ValueError.__init__"))) (hB : subIn K (.ref C) (.type "ValueError") = some true) (hno : findIn K (.ref C) fld = some none)
    (he : ∀ (A : Around) (outer : List Env) (s : Shared) (H : Hp) (E : XK) (a : Addr) (v : V), okv v → ∃ ta, PA (cxS CX P w K mg base [sf, xn] qual scope f (.ref cda) cc A outer s H E) [e] ta ∧ ta [some (.ref a), some v] H fun ws H2 => ws.length ≤ 1000 ∧ H2 = H)
    (hev : ∀ env : Env, ∃ pl : Sem Bool, eval (.Call (.Attribute (.Call (.Name ("super" : Str) p0) [] [] p1) ("__init__" : Str) p2) [e] [] p3) env = (do
      let ov ← attributeBase (.Call (.Name ("super" : Str) p0) [] [] p1) ("__init__" : Str) env (eval (.Call (.Name ("super" : Str) p0) [] [] p1) env)
      standAt p2.atName
      let (f, first) ← holding [ov] (getMethod ov ("__init__" : Str) pl)
      callWith p3 f first (backTo p3 (starEach [e] env)) []) := by exact fun _ => ⟨_, rfl⟩)
    (hsw : ∀ env : Env, swapsWith (.Call (.Attribute (.Call (.Name ("super" : Str) p0) [] [] p1) ("__init__" : Str) p2) [e] [] p3) none p4.line env = pure false := by exact fun _ => rfl)
    (hstar : ∀ env, starEach [e] env = [(false, eval e env)] := by exact fun _ => rfl) (hsw2 : ∀ env : Env, swapsWith (.Name xn q3) (some (.Attribute (.Name sf q1) fld q2)) q4.line env = pure false := by exact fun _ => rfl)
    (n1 : (sf == ("__debug__" : Str)) = false := by decide) (n2 : (sf == ("__classdict__" : Str)) = false := by decide) (n3 : (xn == ("__debug__" : Str)) = false := by decide) (n4 : (xn == ("__classdict__" : Str)) = false := by decide) :
    FnOk P w K mg base CX 1 f (ksFn name qual params [.Expr (.Call (.Attribute (.Call (.Name ("super" : Str) p0) [] [] p1) ("__init__" : Str) p2) [e] [] p3) p4, .Assign [.Attribute (.Name sf q1) fld q2] (.Name xn q3) q4] scope dV kV doc pm an (.ref cda) ct cc) [sf, xn] (spS C fld okv) := by
  refine ⟨fun vs H Q E h => ?_, fun A outer s H args us vs Q E hr e0 hb r hsp => ?_⟩
  · obtain ⟨_, _, rfl, _⟩ := h
    rfl
  obtain ⟨a, v, rfl, ha, hv, q⟩ := hsp
  have KX : K.In s.heap := e0.mod.kin.keeps fun b o e => (e0.bs b o e).1
  have lim : s.heap.NoLimit := e0.mod.nolimit.keeps fun b o e => (e0.bs b o e).1
  have hloc : ∀ y ∈ [sf, xn].zip us, scope.names.lookup y.1 = some .local := fun ⟨n, v⟩ hy => S.par n (List.of_mem_zip hy).1
  refine ks_codeAny_call_defAt (body := [.Expr (.Call (.Attribute (.Call (.Name ("super" : Str) p0) [] [] p1) ("__init__" : Str) p2) [e] [] p3) p4, .Assign [.Attribute (.Name sf q1) fld q2] (.Name xn q3) q4]) (binds := [sf, xn].zip us) hr.depth (KX _ _ lk) rfl lim (codeRec_of KX hcd) rfl hb S.noc hloc (fun h1 hns hk => ?_) S.co S.gen S.kind
  have I := inv_startS (CX := CX) (qual := qual) (f := f) (cd := .ref cda) (tk := s.toks + ([sf, xn].zip us).length) (E := E) S hcell hr.hd e0 rfl r hns hk
  obtain ⟨ta, hpa, hta⟩ := he A outer s H E a v hv
  obtain ⟨u, rfl, ru⟩ : ∃ u, us = [.ref a, u] ∧ RelV v u := by
    cases r with
    | cons r1 r2 =>
      cases r2 with
      | cons r3 r4 =>
        cases r4
        obtain rfl := (show _ = Value.ref a from r1)
        exact ⟨_, rfl, r3⟩
  have hz : ([sf, xn].zip [Value.ref a, u]).reverse.lookup sf = some (.ref a) := rev_lookup (i := 0) S.nd rfl rfl
  obtain ⟨mb, b1, b2⟩ := I.mod.blt
  obtain ⟨nm, qn, N, bs, bm, sn, sub, ab, col, dd, k0, k1, k2, k3, k5, hC, hbm⟩ := id T.cls
  have hcl : clsIn K C = some { name := nm, bases := bs, mro := .ref C :: bm, ns := N, qualname := qn, hasDict := true, slotNames := sn, subclasses := sub, abstract := ab, collection := col, hasDel := false } := by unfold clsIn; rw [hC] <;> rfl
  have hD1 := I.kIn _ _ hC
  obtain ⟨t1, ho1⟩ := exo_at I.hok ha
  obtain ⟨pl, hev1⟩ := hev (ksEnv qual scope s.heap.objs.size f (.ref cda) cc)
  refine ks_wpAt_execs_cons (ks_wpAt_Expr_any (ks_wpAt_MethodCall (pl := pl) ?_ hev1) (by show (scope.kind == .module && _) = false; rw [S.kind]; rfl) (hsw _))
  refine ks_wpAt_super_base (env := ksEnv qual scope s.heap.objs.size f (.ref cda) cc) S.sup S.cls (by decide) rfl (I.kIn _ _ lk) rfl hp rfl (I.kIn _ _ hcode) rfl hvs hfile htop ?_
  refine ks_loadName_global S.kind S.sup (Calls.loadGlobal_builtin (env := ksEnv qual scope s.heap.objs.size f (.ref cda) cc) (I.mod.glob.keeps I.bk) hsuper (b1.keeps I.bk) ((b2 _ (by decide)).trans PyProof.Rows.Boot.«super») ⟨rfl, ?_⟩)
  refine wpAny_loadName_free S.kind S.cls rfl ⟨_, I.kIn _ _ hcell, rfl⟩ ?_
  refine wpAny_loadName_local S.kind (by rw [har]; exact S.par sf (by simp)) hns (by rw [har]; exact hz) ?_
  refine ks_wpAny_isType_cls hD1 rfl ⟨rfl, ?_⟩
  refine ks_wpAny_call_super hD1 rfl ho1 rfl (fun c z => nomatch z) (looks_mroIn I.kIn hsub) (fun h2 e2 k2 => ?_)
  have I2 := I.kept (t' := s.toks + ([sf, xn].zip [Value.ref a, u]).length) k2
  have inst : InstAt h2 a { cls := .ref C, dict := none, data := .fields #[.ref t1, .none, .none, .none, .bool false, .none] } C none := ⟨k2 _ _ ho1, rfl, rfl, trivial⟩
  have hI : Looks (model P w) h2 (isInstance (.ref a) (.type "ValueError")) true := inst.type.andThen (looks_subIn I2.kIn hB)
  have hm1 : alongIn K "__init__" (((Value.ref C :: bm).dropWhile (· != .ref C)).drop 1) = some (some (.builtin "ValueError.__init__")) := by
    have z := hm
    unfold ks_superIn at z
    rw [hcl] at z
    exact z
  refine kxs_getMethod kxs_ValueError e2 (looks_opaque I2.kIn ho) (l₀ := .ref C :: bm) (fun A Q E s k q => wpAny_bind ((looks_clsIn I2.kIn hcl) A _ E s k (wpAny_pure q))) rfl I2.kIn hm1 hI (ks_ne I2.kIn inst hcl) (by decide) ?_
  have I3 := (I2.kept (t' := s.toks + ([sf, xn].zip [Value.ref a, u]).length + 1) (h' := h2.push (kxs_mw "ValueError.__init__" a)) fun b o z => Heap.get?_push_of_some _ z).pins_of (pins' := [(h2.objs.size, kxs_mw "ValueError.__init__" a)]) fun p hp => by
    obtain rfl : p = (h2.objs.size, kxs_mw "ValueError.__init__" a) := by simpa using hp
    exact ⟨Heap.get?_push_at rfl rfl, I2.hok.fresh (Nat.le_refl _), Nat.ne_of_gt I2.lt, I2.nofs (Nat.le_refl _), fun v z => nomatch z⟩
  refine cw1 (i := "ValueError.__init__") (x := a) (thn (hpa.run p3 _ _ _ _ _ I3 hta) fun us s4 ⟨vs, H1, I4, r4, hlen, hH⟩ => ?_) (hstar _)
  subst hH
  have hu := (I4.pin _ (List.mem_append_right _ (List.mem_singleton.mpr rfl))).1
  refine ⟨hu, call_mw T I4 ha hu (by rw [← Paired.length r4, sizeLine_eq]; omega) fun s5 J => ?_⟩
  have P2 : PS (cxS CX P w K mg base [sf, xn] qual scope f (.ref cda) cc A outer s H1 E) (.Assign [.Attribute (.Name sf q1) fld q2] (.Name xn q3) q4) (tOst K fld (tVar 0) (tVar 1)) := ps_ost (pe_var rfl (.inl (S.par sf (by simp))) n1 n2) (pe_var rfl (.inl (S.par xn (by simp))) n3 n4) (hsw2 _)
  refine ks_wpAt_execs_cons (wpAt_of_wpAny (thn (P2.run _ s5 _ _ { nx := fun _ H' => Q .non H', rt := Q } J ⟨_, rfl, _, rfl, a, C, rfl, T, hno, .inl ⟨ha, q⟩⟩) fun fl s6 hs => ?_))
  cases fl with
  | ret u =>
    obtain ⟨v, σ', H', J, rv, q⟩ := hs
    exact ⟨v, H', J.os, J.bare, J.base, J.hok, rv, q⟩
  | next =>
    obtain ⟨σ', H', J, q⟩ := hs
    exact wpAt_of_wpAny (wpAny_pure ⟨.non, H', J.os, J.bare, J.base, J.hok, rfl, q⟩)
  | brk =>
    obtain ⟨_, _, _, q⟩ := hs
    exact False.elim q
  | cont =>
    obtain ⟨_, _, _, q⟩ := hs
    exact False.elim q
end OPN
section OPN
open PySem PySem.Spec PyProof.Rows
/-! ### the handled exception with a dict: isinstance, its fields -/
def rIsF (K : PySem.W.Frag) (D xh : Addr) (dd : Option Addr) : List V → Hp → VK → Prop := fun vs H Q => (∀ d, dd = some d → ∃ fs, H d = some (.xd fs)) ∧ rIsB K D xh vs H Q
theorem hot_inst {X : Cx} {pins : List (Addr × Obj)} {σ : L2.St} {H : Hp} {s : Shared} {xh D : Addr} {oh : Obj} (hb : HotB X xh oh) (I : Inv X pins σ H s) (hc : oh.cls = .ref D) (hd : ∀ d, oh.dict = some d → ∃ fs, H d = some (.xd fs)) : ∃ od, PySem.W.InstAt s.heap xh oh D od := by
  have g := hb.get I
  obtain ⟨ws, d1, _⟩ := hb.dat
  have nc : PySem.W.notCls oh = true := by unfold PySem.W.notCls; rw [d1] <;> rfl
  cases e : oh.dict with
  | none => exact ⟨none, g, hc, nc, by rw [e]; trivial⟩
  | some d =>
    obtain ⟨fs, hfs⟩ := hd d e
    have hx : ObjOk X.prog X.w H s.heap d (.xd fs) := I.hok d _ hfs
    obtain ⟨mA, hns, _⟩ := hx
    obtain ⟨od, ho, _⟩ := lookIn_ns hns
    exact ⟨some od, g, hc, nc, by rw [e]; exact ho⟩
theorem call_isF {X : Cx} {xh D : Addr} {oh : Obj} (hb : HotB X xh oh) (C : ExcC X.K D) (hc : oh.cls = .ref D) : CallR X (.builtin "isinstance") (rIsF X.K D xh oh.dict) := by
  intro pins s σ H vs us Q I r y
  obtain ⟨hd, c, u, b, rfl, kc, e, q⟩ := y
  obtain ⟨u1, u2, rfl, r1, r2⟩ := vals2 r
  cases (show u1 = Value.ref xh from r1)
  have e2 := kc.eq r2
  subst e2
  obtain ⟨od, J⟩ := hot_inst hb I hc hd
  have hcl : (PySem.W.clsIn X.K D).isSome = true := by
    obtain ⟨cd, h, _⟩ := PySem.W.any_some C.hd
    rw [h]
    rfl
  exact PySem.W.kia_one (PySem.W.kitx_exc hcl C.hg C.hk C.hs C.ha C.hn C.ht C.hm) I.kIn J e (fun z => nomatch z) fun tk => ⟨.bl b, H, I.tok tk, rfl, q⟩
/-- e.f, e the handled exception -/
def tXfB (xh : Addr) (dd : Option Addr) (f : Str) (te : TE) : TE := fun σ H Q => te σ H fun x H1 => x = .ref xh ∧ ∃ (d : Addr) (fs : List (Str × V)) (v : V), dd = some d ∧ H1 d = some (.xd fs) ∧ fs.lookup f = some v ∧ Q v H1
theorem pe_xfB {X : Cx} {xh C : Addr} {oh : Obj} {e : Expr} {te : TE} {pos : Pos} {n : Str} (hb : HotB X xh oh) (T : XfC X.K C) (hno : PySem.W.findIn X.K (.ref C) n = some none) (hc : oh.cls = .ref C) (he : PE X e te) (hab : attributeBase e n X.env (eval e X.env) = eval e X.env := by rfl) :
    PE X (.Attribute e n pos) (tXfB xh oh.dict n te) := by
  refine ⟨fun pins s σ H Q I h => ?_⟩
  refine attr_of hab (thn (he.run pins s σ H _ I h) fun u s1 hh => ?_)
  obtain ⟨x, H1, I1, rx, ex, dd, fs, v, ed, ea, l, q⟩ := hh
  subst ex
  obtain rfl : u = Value.ref xh := rx
  have hx : ObjOk X.prog X.w H1 s1.heap dd (.xd fs) := I1.hok dd _ ea
  obtain ⟨mA, hns, hr⟩ := hx
  obtain ⟨od, ho, hl⟩ := lookIn_ns hns
  obtain ⟨u, hu, ru⟩ := RelO.some_of (v := v) (o := mA n) (by rw [← l]; exact hr n)
  obtain ⟨ws, d1, _⟩ := hb.dat
  have J : PySem.W.InstAt s1.heap xh oh C (some od) := ⟨hb.get I1, hc, by unfold PySem.W.notCls; rw [d1] <;> rfl, by rw [ed]; exact ho⟩
  exact HandSPX.exc_get I1.kIn J T.ga T.gg T.exC (PySem.W.findObj_own T.hdC hno rfl (by rw [hl, hu])) (handed_of ru) ⟨v, H1, I1.tok _, ru, q⟩
end OPN
section OPN
open PySem PySem.Spec PyProof.Rows
/-! ### the handled exception may have a dict: isinstance asks only that the dict is there -/
theorem call_isB2 {X : Cx} {xh D : Addr} {oh : Obj} (hb : HotB X xh oh) (C : ExcC X.K D) (hc : oh.cls = .ref D) (hd : ∀ d, oh.dict = some d → (∃ o, X.s_0.heap.get? d = some o) ∧ d ∉ X.ex) : CallR X (.builtin "isinstance") (rIsB X.K D xh) := by
  intro pins s σ H vs us Q I r y
  obtain ⟨c, u, b, rfl, kc, e, q⟩ := y
  obtain ⟨u1, u2, rfl, r1, r2⟩ := vals2 r
  cases (show u1 = Value.ref xh from r1)
  have e2 := kc.eq r2
  subst e2
  have g := hb.get I
  obtain ⟨ws, d1, _⟩ := hb.dat
  have nc : PySem.W.notCls oh = true := by unfold PySem.W.notCls; rw [d1] <;> rfl
  have J : ∃ od, PySem.W.InstAt s.heap xh oh D od := by
    cases e : oh.dict with
    | none => exact ⟨none, g, hc, nc, by rw [e]; trivial⟩
    | some d =>
      obtain ⟨⟨o, ho⟩, nx⟩ := hd d e
      obtain ⟨o', ho'⟩ := I.base.there d o ho nx
      exact ⟨some o', g, hc, nc, by rw [e]; exact ho'⟩
  obtain ⟨od, J⟩ := J
  have hcl : (PySem.W.clsIn X.K D).isSome = true := by
    obtain ⟨cd, h, _⟩ := PySem.W.any_some C.hd
    rw [h]
    rfl
  exact PySem.W.kia_one (PySem.W.kitx_exc hcl C.hg C.hk C.hs C.ha C.hn C.ht C.hm) I.kIn J e (fun z => nomatch z) fun tk => ⟨.bl b, H, I.tok tk, rfl, q⟩
theorem xd_there {P : Program} {w : World} {H : Hp} {h : Heap} {d : Addr} {fs : List (Str × V)} (k : HOk P w H h) (e : H d = some (.xd fs)) : ∃ o, h.get? d = some o := by
  have hx : ObjOk P w H h d (.xd fs) := k d _ e
  obtain ⟨mA, hns, _⟩ := hx
  obtain ⟨od, ho, _⟩ := lookIn_ns hns
  exact ⟨od, ho⟩
theorem Fun.okB2 {P : Program} {w : World} {K : PySem.W.Frag} {mg : Str → Option Value} {base : Heap} {x qual : Str} {st : Stmt} {f : Addr} {fd : FuncData} {N ps : List Str} {k : Nat} {sp : Addr → Value → Option Addr → Sp} (F : L2.Fun K x qual st f fd) (S : FnScope N ps (defScope st))
    (body : ∀ (cdv : Value) (A : Around) (outer : List Env) (s : Shared) (H : Hp) (vs : List V) (Q : VK) (xh : Addr) (oh : Obj), L2H.RoomH k (A.deeper (PyProof.Rows.envOfC qual (defScope st) s.heap.objs.size f cdv)) → HotB (L2H.cxH CX0 P w K mg base N qual (defScope st) f cdv A outer s H E0 (xh, oh)).nox xh oh → HOk P w H s.heap → sp xh oh.cls oh.dict vs H Q E0 →
      ∃ t, PSs (L2H.cxH CX0 P w K mg base N qual (defScope st) f cdv A outer s H E0 (xh, oh)).nox (defBody st) t ∧ t { nx := fun _ H' => Q .non H', rt := Q } (L2.start N vs) H) : FnB P w K mg base (k + 1) f fd ps sp := by
  obtain ⟨oc, od, kV, doc, pm, an, cdv, ct, osl, rfl, lk, hcd⟩ := F.ex
  intro A outer s H args us vs Q xh oh hr hp e0 hb r hl hsp
  have KX : K.In s.heap := e0.mod.kin.keeps fun b o e => (e0.bs b o e).1
  have hkind : ∀ y ∈ ps.zip us, (defScope st).names.lookup y.1 = some .local ∨ ((defScope st).names.lookup y.1 = some .cell ∧ ((cellsFrom (s.heap.objs.size + 1) (defScope st).names []).lookup y.1).isSome = true) := by
    rintro ⟨n, v⟩ hy
    exact (S.par n (List.of_mem_zip hy).1).imp id fun q => ⟨q, PySem.W.cellsFrom_some _ _ _ (.inl q)⟩
  refine codeAny_call_function hr.depth (KX _ _ lk) rfl S.co S.gen rfl (PySem.W.codeRec_of KX hcd) (hb _ _ _ _ (wpAny_newFunctionEnv_cells S.kind hkind fun env he s1 y => ?_))
  subst he
  refine ⟨(e0.mod.nolimit.keeps fun b o e => (e0.bs b o e).1).keeps y.toInCall.keep, codeAny_func ?_⟩
  have hB := hp.b (CX := CX0) (P := P) (w := w) (K := K) (mg := mg) (base := base) (N := N) (qual := qual) (scope := defScope st) (f := f) (cd := cdv) (E := E0)
  obtain ⟨t, ht, hq⟩ := body cdv A outer s H vs Q xh oh (hr.deeper _) ⟨hB.hnd, hB.obj, hB.dat, hB.unt, hB.nfs, hB.nex⟩ e0.hok hsp
  have I : Inv (L2H.cxH CX0 P w K mg base N qual (defScope st) f cdv A outer s H E0 (xh, oh)) [] (L2.start N vs) H s1 := L2H.inv_startH S hp.pin e0 hl r y
  refine wpAny_mono (ht.run [] s1 (L2.start N vs) H _ (I.wish _) hq) (fun fl s' z => ?_) fun _ _ z => z.elim
  have z' : SP (L2H.cxH CX0 P w K mg base N qual (defScope st) f cdv A outer s H E0 (xh, oh)) [] { nx := fun _ H' => Q .non H', rt := Q } fl s' := z.unwish
  cases fl with
  | ret u =>
    obtain ⟨v, σ', H', J, rv, q⟩ := z'
    exact ⟨v, H', J.os, J.bare, J.base, J.hok, rv, q⟩
  | next =>
    obtain ⟨σ', H', J, q⟩ := z'
    exact ⟨V.non, H', J.os, J.bare, J.base, J.hok, rfl, q⟩
  | brk => exact z'.elim fun _ y => y.elim fun _ y => y.2.elim
  | cont => exact z'.elim fun _ y => y.elim fun _ y => y.2.elim

end OPN
section OPN
open PySem.Spec PyProof.Rows
/-! ### try: return ('value', ask()) / except TermError as e: the error's word and field -/
/-- a class that TermError names -/
structure Wd2 (K : PySem.W.Frag) (CT D : Addr) (dd : Option Addr) (H : Hp) : Prop where
  exc : ExcC K D
  nod : ∀ d, dd = some d → ∃ fs, H d = some (.xd fs)
  mat : PySem.W.exmOne K (.ref D) (.ref CT) = some true
def spName2 (K : PySem.W.Frag) (CT : Addr) (word : Addr → Option Str) : Addr → Value → Option Addr → Sp := fun xh cls dd vs H Q _ => ∃ (D : Addr) (nm : Str), cls = .ref D ∧ Wd2 K CT D dd H ∧ word D = some nm ∧ vs = [.ref xh] ∧ ∀ H', Same H H' → Q (.str nm) H'
def tSuite2 (K : PySem.W.Frag) (CT : Addr) (word : Addr → Option Str) (fld : Addr → Option Addr → Hp → V → Prop) (a : Addr) (cls : Value) (d : Option Addr) : TS :=
  tSeq (tAsg (tCallG (spName2 K CT word) a cls d 1 (tCons (tVar 1) tNil)) (gName 2)) (tRet (tTup (tCons (tVar 2) (tCons (tCallG (spField word fld) a cls d 2 (tCons (tVar 1) (tCons (tVar 2) tNil))) tNil))))
def TTry2 (K : PySem.W.Frag) (CT : Addr) (word : Addr → Option Str) (fld : Addr → Option Addr → Hp → V → Prop) : (XK → Hp → VK → Prop) → Hp → VK → Prop := fun tl H Q =>
  ∀ f : Addr, tl (fun cls d H2 => wAs K (.ref CT) 1 (tSuite2 K CT word fld) (fun _ _ _ _ => False) { nx := fun _ H' => Q .non H', rt := Q } cls d [some (.ref f), none, none] H2) H
    (fun v H' => 2 ≤ sizeLine ∧ ∀ p, H' p = none → Q (.ref p) (upd H' p (.tup [.str ("value" : Str), v])))
theorem wTry2 {K : PySem.W.Frag} {CT : Addr} {word : Addr → Option Str} {fld : Addr → Option Addr → Hp → V → Prop} {Q : VK} {n : L2.St → Hp → Prop} {cls : Value} {dd : Option Addr} {f D : Addr} {nm : Str} {v : V} {H' : Hp}
    (hst : ∀ D dd H H' v, Same H H' → fld D dd H v → fld D dd H' v) (e : cls = .ref D) (hw : Wd2 K CT D dd H') (ew : word D = some nm) (hf : fld D dd H' v) (h : ∀ (p : Addr) (H2 : Hp), Same H' H2 → H2 p = none → Q (.ref p) (upd H2 p (.tup [.str nm, v]))) :
    wAs K (.ref CT) 1 (tSuite2 K CT word fld) (fun _ _ _ _ => False) { nx := n, rt := Q } cls dd [some (.ref f), none, none] H' := by
  subst e
  refine ⟨true, hw.mat, fun _ a _ => ?_, fun z => nomatch z⟩
  refine ⟨_, rfl, rfl, D, nm, rfl, hw, ew, rfl, fun H1 k1 => ?_⟩
  refine ⟨_, rfl, _, rfl, _, rfl, rfl, D, nm, v, rfl, ew, hst _ _ _ _ _ k1 hf, rfl, fun H2 k2 => ⟨by show 2 ≤ sizeLine; decide, fun p hp => h p H2 (k1.trans k2) hp⟩⟩
theorem try_gives2 {X : Cx} {x q : Str} {sg : Scope} {g CT fN fF : Addr} {cdg : Value} {fdN fdF : FuncData} {word : Addr → Option Str} {fld : Addr → Option Addr → Hp → V → Prop} {j1 n1 n2 : Nat} {q1 q2 q3 q4 q5 q6 q7 q8 q9 p1 p2 p3 p4 p5 p6 p7 p8 p9 q10 q11 : Pos}
    (s0 : sg.names.lookup ("_law_ask" : Str) = some .local) (s1 : sg.names.lookup ("_law_e" : Str) = some .local) (s2 : sg.names.lookup ("_law_word" : Str) = some .local) (g1 : sg.names.lookup ("TermError" : Str) = some .globalImplicit) (g2 : sg.names.lookup ("_law_error_name" : Str) = some .globalImplicit) (g3 : sg.names.lookup ("_law_error_field" : Str) = some .globalImplicit)
    (mT : X.mg ("TermError" : Str) = some (.ref CT)) (mN : X.mg ("_law_error_name" : Str) = some (.ref fN)) (mF : X.mg ("_law_error_field" : Str) = some (.ref fF)) (kN : PySem.W.keepIn X.K (.ref fN) = true) (kF : PySem.W.keepIn X.K (.ref fF) = true) (bN : Binds X.K fdN [("_law_e" : Str)] []) (bF : Binds X.K fdF [("_law_e" : Str), "_law_word"] [])
    (GN : FnB X.prog X.w X.K X.mg X.base 3 fN fdN [("_law_e" : Str)] (spName2 X.K CT word)) (GF : FnB X.prog X.w X.K X.mg X.base 3 fF fdF [("_law_e" : Str), "_law_word"] (spField word fld)) :
    GivesN X [("_law_ask" : Str), "_law_e", "_law_word"] x sg g cdg [.Try [.Return (some (.Tuple [.Constant (.str ("value" : Str)) j1 p1, .Call (.Name ("_law_ask" : Str) p2) [] [] p3] n1 p4)) p5] [.ExceptHandler (some (.Name ("TermError" : Str) p6)) (some ("_law_e" : Str)) [.Assign [.Name ("_law_word" : Str) q1] (.Call (.Name ("_law_error_name" : Str) q2) [.Name ("_law_e" : Str) q3] [] q4) q5, .Return (some (.Tuple [.Name ("_law_word" : Str) q6, .Call (.Name ("_law_error_field" : Str) q7) [.Name ("_law_e" : Str) q8, .Name ("_law_word" : Str) q9] [] p7] n2 p8)) p9] q10] [] [] q11] ("_law_ask" : Str) q (TTry2 X.K CT word fld) := by
  intro k f c s H Q tl hr k40 act hc y
  have hr3 := hr.mono (show 3 ≤ k by omega)
  have nd : ([("_law_ask" : Str), "_law_e", "_law_word"] : List Str).Nodup := by decide +kernel
  refine ⟨_, pss_one (L2N.ps_try_as (i := 1) (c := .ref CT) (tb := fun W => tRet (tTup (tCons (tC (.str ("value" : Str))) (tCons (fun σZ HZ Q => σZ[0]? = some (some (.ref f)) ∧ HZ c = some (LamX.CodeO c q) ∧ tl (fun cls d H2 => W cls d σZ H2) HZ Q) tNil))))
    (ts := tSuite2 X.K CT word fld) (Wout := fun _ _ _ _ => False) rfl rfl nd rfl s1 ⟨g1, by decide +kernel, .inl mT⟩ (fun _ _ ⟨_, _, _, _, _, _, _, _, _, _, _, _, _, _, _, _, z⟩ => z.elim)
    (fun W pn xe tk _ => pss_one (ps_ret (pe_tup (pa_cons pe_str (pa_cons (act W pn xe (fun σ2 cls d H2 => W cls d σ2 H2) _ _ tk (fun _ _ _ _ h => h)) pa_nil)))))
    (fun a oe cls d pn hz hf => pss_cons (ps_set (i := 2) nd rfl (.inl s2) (by exact pe_callG (X := Cx.suite (cxOf CX0 X.prog X.w X.K X.mg X.base [("_law_ask" : Str), "_law_e", "_law_word"] x sg g cdg X.A X.stack s H E0).nox a ((a, oe) :: pn)) GN ⟨hr3.dp, hr3.un⟩ (hotG_suite hz hf) hz.1 hz.2.1 g2 mN kN bN (pa_cons (pe_var (i := 1) rfl (.inl s1)) pa_nil)))
      (pss_one (ps_ret (pe_tup (pa_cons (pe_var (i := 2) rfl (.inl s2)) (pa_cons (by exact pe_callG (X := Cx.suite (cxOf CX0 X.prog X.w X.K X.mg X.base [("_law_ask" : Str), "_law_e", "_law_word"] x sg g cdg X.A X.stack s H E0).nox a ((a, oe) :: pn)) GF ⟨hr3.dp, hr3.un⟩ (hotG_suite hz hf) hz.1 hz.2.1 g3 mF kF bF (pa_cons (pe_var (i := 1) rfl (.inl s1)) (pa_cons (pe_var (i := 2) rfl (.inl s2)) pa_nil))) pa_nil))))))), ?_⟩
  exact ⟨rfl, hc, y f⟩
end OPN
section OPT
open PySem.Spec PyProof.Rows
theorem try_givesH2 {X : Cx} {x q : Str} {sg : Scope} {g CT fN fF : Addr} {cdg : Value} {fdN fdF : FuncData} {word : Addr → Option Str} {fld : Addr → Option Addr → Hp → V → Prop} {j1 n1 n2 : Nat} {q1 q2 q3 q4 q5 q6 q7 q8 q9 p1 p2 p3 p4 p5 p6 p7 p8 p9 q10 q11 : Pos}
    (s0 : sg.names.lookup ("_law_ask" : Str) = some .local) (s1 : sg.names.lookup ("_law_e" : Str) = some .local) (s2 : sg.names.lookup ("_law_word_here" : Str) = some .local) (g1 : sg.names.lookup ("TermError" : Str) = some .globalImplicit) (g2 : sg.names.lookup ("_law_error_name" : Str) = some .globalImplicit) (g3 : sg.names.lookup ("_law_error_field" : Str) = some .globalImplicit)
    (mT : X.mg ("TermError" : Str) = some (.ref CT)) (mN : X.mg ("_law_error_name" : Str) = some (.ref fN)) (mF : X.mg ("_law_error_field" : Str) = some (.ref fF)) (kN : PySem.W.keepIn X.K (.ref fN) = true) (kF : PySem.W.keepIn X.K (.ref fF) = true) (bN : Binds X.K fdN [("_law_e" : Str)] []) (bF : Binds X.K fdF [("_law_e" : Str), "_law_word_here"] [])
    (GN : FnB X.prog X.w X.K X.mg X.base 3 fN fdN [("_law_e" : Str)] (spName2 X.K CT word)) (GF : FnB X.prog X.w X.K X.mg X.base 3 fF fdF [("_law_e" : Str), "_law_word_here"] (spField word fld)) :
    GivesN X [("_law_ask" : Str), "_law_e", "_law_word_here"] x sg g cdg [.Try [.Return (some (.Tuple [.Constant (.str ("value" : Str)) j1 p1, .Call (.Name ("_law_ask" : Str) p2) [] [] p3] n1 p4)) p5] [.ExceptHandler (some (.Name ("TermError" : Str) p6)) (some ("_law_e" : Str)) [.Assign [.Name ("_law_word_here" : Str) q1] (.Call (.Name ("_law_error_name" : Str) q2) [.Name ("_law_e" : Str) q3] [] q4) q5, .Return (some (.Tuple [.Name ("_law_word_here" : Str) q6, .Call (.Name ("_law_error_field" : Str) q7) [.Name ("_law_e" : Str) q8, .Name ("_law_word_here" : Str) q9] [] p7] n2 p8)) p9] q10] [] [] q11] ("_law_ask" : Str) q (TTry2 X.K CT word fld) := by
  intro k f c s H Q tl hr k40 act hc y
  have hr3 := hr.mono (show 3 ≤ k by omega)
  have nd : ([("_law_ask" : Str), "_law_e", "_law_word_here"] : List Str).Nodup := by decide +kernel
  refine ⟨_, pss_one (L2N.ps_try_as (i := 1) (c := .ref CT) (tb := fun W => tRet (tTup (tCons (tC (.str ("value" : Str))) (tCons (fun σZ HZ Q => σZ[0]? = some (some (.ref f)) ∧ HZ c = some (LamX.CodeO c q) ∧ tl (fun cls d H2 => W cls d σZ H2) HZ Q) tNil))))
    (ts := tSuite2 X.K CT word fld) (Wout := fun _ _ _ _ => False) rfl rfl nd rfl s1 ⟨g1, by decide +kernel, .inl mT⟩ (fun _ _ ⟨_, _, _, _, _, _, _, _, _, _, _, _, _, _, _, _, z⟩ => z.elim)
    (fun W pn xe tk _ => pss_one (ps_ret (pe_tup (pa_cons pe_str (pa_cons (act W pn xe (fun σ2 cls d H2 => W cls d σ2 H2) _ _ tk (fun _ _ _ _ h => h)) pa_nil)))))
    (fun a oe cls d pn hz hf => pss_cons (ps_set (i := 2) nd rfl (.inl s2) (by exact pe_callG (X := Cx.suite (cxOf CX0 X.prog X.w X.K X.mg X.base [("_law_ask" : Str), "_law_e", "_law_word_here"] x sg g cdg X.A X.stack s H E0).nox a ((a, oe) :: pn)) GN ⟨hr3.dp, hr3.un⟩ (hotG_suite hz hf) hz.1 hz.2.1 g2 mN kN bN (pa_cons (pe_var (i := 1) rfl (.inl s1)) pa_nil)))
      (pss_one (ps_ret (pe_tup (pa_cons (pe_var (i := 2) rfl (.inl s2)) (pa_cons (by exact pe_callG (X := Cx.suite (cxOf CX0 X.prog X.w X.K X.mg X.base [("_law_ask" : Str), "_law_e", "_law_word_here"] x sg g cdg X.A X.stack s H E0).nox a ((a, oe) :: pn)) GF ⟨hr3.dp, hr3.un⟩ (hotG_suite hz hf) hz.1 hz.2.1 g3 mF kF bF (pa_cons (pe_var (i := 1) rfl (.inl s1)) (pa_cons (pe_var (i := 2) rfl (.inl s2)) pa_nil))) pa_nil))))))), ?_⟩
  exact ⟨rfl, hc, y f⟩
end OPT
section OPN
open PySem PySem.Spec PyProof.Rows PySem.W
/-! ### the def __init__ of such a class, and its raise -/
structure FunS (P : Program) (K : PySem.W.Frag) (mg : Str → Option Value) (x qual : Str) (st : Stmt) (ps : List Str) (C f : Addr) (fd : FuncData) : Prop where
  ex : ∃ (oc : Value) (od : Option Addr) (dV kV doc pm : Value) (an : Option Addr) (cda : Addr) (ct : Value) (osl : Array (Option Value)) (cc : Addr) (cl : Value) (cld : Option Addr) (csl : Array (Option Value)) (ccl : Value) (cdd : Option Addr) (cvs : Array Value) (ccs : Array (Option Value)) (file : Str) (tf : Tok),
    fd = ksFn "__init__" qual (defArgs st) (defBody st) (defScope st) dV kV doc pm an (.ref cda) ct cc ∧ K.lookup f = some ⟨oc, od, .func fd, osl⟩ ∧ codeIn K (.ref cda) qual = true ∧ K.lookup cda = some ⟨ccl, cdd, .fields cvs, ccs⟩ ∧ cvs[2]? = some (.str file tf) ∧ ((P.main.file : Str) == file) = true ∧ K.lookup cc = some ⟨cl, cld, .cell (some (.ref C)), csl⟩
  top : (P.main.scope.names.lookup ("super" : Str)).isSome = false
  T : OexC K C
  mro : mroIn K C (.ref C) = some true
  sup : mg ("super" : Str) = none
  any : nsIn K cStatics "thirdparty.any" = some none
  ini : ks_superIn K C C "__init__" = some (some (.builtin "ValueError.__init__"))
  val : subIn K (.ref C) (.type "ValueError") = some true
  iC : findIn K (.ref C) "__init__" = some (some (.ref f))
  tI : typeIn K (.ref f) = some (.type "function")
  b : Binds K fd ps []
  m : mg x = some (.ref C)
def okInt (v : V) : Prop := ∃ n : Int, v = .int n ∧ 0 ≤ n ∧ n < 10 ^ 12
end OPN
section OPN
open PySem PySem.Spec PyProof.Rows
/-- C(e, ..), the context told: the made exception has no context yet -/
theorem pmkN_oex {X : Cx} {CX : CXT} {x : Str} {e : Expr} {es : List Expr} {ta : L2.TA} {p pos : Pos} {C fI : Addr} {k : Nat} {fd : FuncData} {ps : List Str} {sp : Sp} (T : OexC X.K C) (iC : PySem.W.findIn X.K (.ref C) "__init__" = some (some (.ref fI))) (tI : PySem.W.typeIn X.K (.ref fI) = some (.type "function"))
    (F1 : FnOk X.prog X.w X.K X.mg X.base CX k fI fd ps sp) (hr : Room (k + 1) X.A) (hb : Binds X.K fd ps []) (hx : Passes CX X (fun _ _ _ => False)) (hg : Gl X x) (hm : X.mg x = some (.ref C)) (ha : PA X (e :: es) ta)
    (hdb : (x == ("__debug__" : Str)) = false := by decide) (he : starEach (e :: es) X.env = (false, eval e X.env) :: starEach es X.env := by rfl) (hpl : (backTo pos (starEach es X.env)).any (·.1) = false := by rfl) :
    L2N.PMk X (.Call (.Name x p) (e :: es) [] pos) (tMkO C sp [] ta) := by
  intro pins s σ H Q I h
  obtain ⟨nm, q, N, bs, bm, sn, sub, ab, col, dd, k0, k1, k2, k3, k5, hC, hbm⟩ := T.cls
  refine wpAny_Call_Name_kw (ld_glob I hg hm ?_ hdb)
  refine PySem.W.callWith_K (h₀ := X.base) I.ok.mod.kin T.kC (thn (ha.run pos pins s σ H _ I h) fun us s1 ⟨vs, H1, I1, r1, hz, q1⟩ => ⟨I1.kIn, ?_⟩) he hpl
  show wpAny _ _ (call (.ref C) us) _ _ _
  obtain ⟨hp, g, dr, tk, os⟩ := s1
  have hsz : hp.objs.size ≤ hp.objs.size + 1 := Nat.le_succ _
  have hq := q1 (hp.objs.size + 1) (I1.hok.fresh hsz)
  rw [List.append_nil] at hq
  have kk : ∀ b o, hp.get? b = some o → ((hp.push (PySem.W.kdv_tup us)).push (PySem.HandSPX.excO C hp.objs.size)).get? b = some o := fun b o z => Heap.get?_push_of_some _ (Heap.get?_push_of_some _ z)
  have hget : ((hp.push (PySem.W.kdv_tup us)).push (PySem.HandSPX.excO C hp.objs.size)).get? (hp.objs.size + 1) = some (PySem.HandSPX.excO C hp.objs.size) := by heap_get
  have I2 : Inv X pins σ (upd H1 (hp.objs.size + 1) (exo (hp.objs.size + 1) C none)) ⟨(hp.push (PySem.W.kdv_tup us)).push (PySem.HandSPX.excO C hp.objs.size), g, dr, tk, os⟩ :=
    I1.laid (t' := tk) (a := hp.objs.size + 1) (o := exo (hp.objs.size + 1) C none) (h' := (hp.push (PySem.W.kdv_tup us)).push (PySem.HandSPX.excO C hp.objs.size)) kk hsz (exo_ok hget)
  have r2 : Vals (V.ref (hp.objs.size + 1) :: vs) (Value.ref (hp.objs.size + 1) :: us) := .cons rfl r1
  have hl : (Value.ref (hp.objs.size + 1) :: us ++ []).length = ps.length := by
    have z := r2.length
    rw [F1.len _ _ _ _ hq] at z
    rw [List.append_nil]
    exact z.symm
  have hus : us.length ≤ sizeLine := by
    rw [← Paired.length r1, sizeLine_eq]
    omega
  have b2 := hb _ (Value.ref (hp.objs.size + 1) :: us) I2.kIn hl
  rw [List.append_nil] at b2
  refine wpAny_call (PySem.HandSPX.call_own PySem.F.excBase_ValueError (fun Y => PySem.HandSPX.refsVE_contains Y bm hbm) (I1.kIn _ _ hC) (PySem.W.looks_findIn I1.kIn iC) (fun self => PySem.W.bind_fn I1.kIn self tI) hus
    (codeAny_mono (F1.run _ X.stack _ _ ⟨Value.ref (hp.objs.size + 1) :: us, []⟩ (Value.ref (hp.objs.size + 1) :: us) _ _ (fun _ _ _ => False) (hr.make C us []) (I2.env0.make C us []) b2 r2 hq) fun r s' hq' => ?_))
  cases r with
  | error er => exact hx pins σ _ _ er s' I2 hq'
  | ok fl =>
    cases fl with
    | ret u =>
      obtain ⟨v, H2, os2, bare2, un2, hok2, rv, ev, d, fs, ea, ed, hd1, q2⟩ := hq'
      subst ev
      obtain ⟨h2, g2, d2, t2, os'⟩ := s'
      obtain ⟨t0, G, J, kG, ge, hoe, na⟩ := mk_end0 (d2 := d2) (t2 := t2) I1 hsz kk un2 hok2 os2 bare2 ea ed hd1
      refine ⟨rv, hp.objs.size + 1, _, _, ⟨G, g2, d2, t2, os'⟩, _, .ref C, some d, rfl, J, kG, ge, hoe, ⟨rfl, rfl, fun vs hv => ?_⟩, rfl, rfl, na, rfl, bare2, raises_own T.exC T.tyC, q2⟩
      cases hv
      rfl
    | next => exact False.elim hq'
    | brk => exact False.elim hq'
    | cont => exact False.elim hq'
end OPN
/-! ### a dict of the module: x in d, x not in d -/
section KDI
open PySem PySem.Spec PyProof.Rows
def KDin (K : PySem.W.Frag) (w : World) (a : Addr) (x : Str) (r : Option Value) : Prop :=
  ∃ es n, K.lookup a = some ⟨.type "dict", none, .dict es n, #[]⟩ ∧ PySem.W.KeysLit w.params es.toList ∧ PySem.W.nsIn K a x = some r ∧ (a == sysModules) = false
def rNInD (K : PySem.W.Frag) (w : World) : R2 := fun x y H Q => ∃ z p r, x = .str z ∧ y = .ref p ∧ KDin K w p z r ∧ Q (.bl (!r.isSome)) H
theorem op_notInKD {X : Cx} : OpR X (compareOp .NotIn) (rNInD X.K X.w) := by
  intro pins s σ H x y v u Q I rx ry h
  obtain ⟨z, p, r, rfl, rfl, ⟨es, n, hl, hk, e, hd⟩, q⟩ := h
  obtain ⟨t, rfl⟩ := (show ∃ t, v = Value.str z t from rx)
  obtain rfl : u = Value.ref p := ry
  have hm := PySem.W.mapOf_K (prog := X.prog) (w := X.w) I.kIn hl hk
  refine wpAny_notIn_of (strKind_is X.prog X.w z t) hd hm ?_
  rw [PySem.W.find_K hl e]
  exact fin_bl (I.tok _) q rfl
def rInD (K : PySem.W.Frag) (w : World) : R2 := fun x y H Q => ∃ z p r, x = .str z ∧ y = .ref p ∧ KDin K w p z r ∧ Q (.bl r.isSome) H
theorem op_inKD {X : Cx} : OpR X (compareOp .In) (rInD X.K X.w) := by
  intro pins s σ H x y v u Q I rx ry h
  obtain ⟨z, p, r, rfl, rfl, ⟨es, n, hl, hk, e, hd⟩, q⟩ := h
  obtain ⟨t, rfl⟩ := (show ∃ t, v = Value.str z t from rx)
  obtain rfl : u = Value.ref p := ry
  have hm := PySem.W.mapOf_K (prog := X.prog) (w := X.w) I.kIn hl hk
  refine wpAny_in_of (strKind_is X.prog X.w z t) hd hm ?_
  rw [PySem.W.find_K hl e]
  exact fin_bl (I.tok _) q rfl
end KDI
/-! ### xs[a:c] = ys -/
section SLC
open PySem PySem.Spec PyProof.Rows
def gSlc (to ta tc : TE) : TG := fun v σ H Q => to σ H fun o H1 => tPart ta σ H1 fun a H2 => tPart tc σ H2 fun c H3 => ∃ (l b : Addr) (xs ys : List V) (i j : Int), o = .ref l ∧ v = .ref b ∧ a = some i ∧ c = some j ∧ H3 l = some (.lst xs) ∧ H3 b = some (.lst ys) ∧ l ≠ b ∧ 0 ≤ i ∧ i ≤ j ∧ j ≤ xs.length ∧ xs.length + ys.length ≤ sizeLine ∧ Q σ (upd H3 l (.lst (xs.take i.toNat ++ ys ++ xs.drop j.toNat)))
theorem pg_slc {X : Cx} {o i j : Expr} {to ta tc : TE} {p2 pos : Pos} (ho : PE X o to) (hi : PE X i ta) (hj : PE X j tc)
    (ha : ∀ v, assign (.Subscript o (.Slice (some i) (some j) none p2) pos) X.env v = (do
      let ov ← holding [v] (eval o X.env)
      let iv ← holding [v, ov] (eval (.Slice (some i) (some j) none p2) X.env)
      standAt pos
      holding [v, ov, iv] (setItem ov iv v)
      release [iv, v, ov] []) := by intro _; rfl) : PG X (.Subscript o (.Slice (some i) (some j) none p2) pos) (gSlc to ta tc) := by
  refine ⟨fun pins s σ H v u Q I r h => ?_⟩
  rw [ha]
  refine wpAny_bind (wpAny_holding (thn (ho.run pins s σ H _ I h) fun ov s1 ⟨x, H1, I1, r1, q1⟩ => ?_))
  refine wpAny_bind (wpAny_holding ?_)
  refine wpAny_Slice (thn ((po_some hi).run pins s1 σ H1 _ I1 q1) fun vl s2 ⟨lo, H2, I2, pl, q2⟩ => thn ((po_some hj).run pins s2 σ H2 _ I2 q2) fun vu s3 ⟨up, H3, I3, pu, q3⟩ => ?_)
  obtain ⟨l, b, xs, ys, i, j, rfl, rfl, rfl, rfl, hl, hb, hne, h0, h1, h2, h3, q⟩ := q3
  rw [evalPart_none]
  refine wpAny_pure ?_
  have I4 : Inv X pins σ H3 { s3 with heap := s3.heap.push { cls := .type "slice", data := .fields #[vl, vu, .none] } } := I3.kept (t' := s3.toks) fun b ob q => Heap.get?_push_of_some _ q
  cases (show ov = Value.ref l from r1)
  cases (show u = Value.ref b from r)
  cases pl with
  | int _ tl =>
    cases pu with
    | int _ tu =>
      refine wpAny_bind (wpAny_standAt (wpAny_bind (wpAny_holding (set_slice (s := { s3 with heap := s3.heap.push { cls := .type "slice", data := .fields #[.int i tl, .int j tu, .none] } }) (a := i) (c := j) I4 hl hb hne (Heap.IsSliceOf.new ..) ⟨_, rfl⟩ ⟨_, rfl⟩ h0 h1 h2 h3 fun s' I' => ?_))))
      exact wpAny_release ⟨σ, _, I', q⟩
end SLC
/-! ### enumerate(a tuple) -/
theorem enumT_new (q : Addr) (its : Array Value) (m : Nat) (dc : Option Addr) (so : Array (Option Value)) :
    PySem.Meets (Builtin.«enumerate.__new__» ⟨[.type "enumerate", .ref q], []⟩) (fun _ Rr st => st.heap.get? q = some { cls := .type "tuple", dict := dc, data := .seq its m, slots := so } ∧
      Rr (.ok (.ret (.ref (st.heap.push { cls := .type "tuple_iterator", data := .fields #[.ref q, .int 0 0] }).objs.size)))
        { st with heap := (st.heap.push { cls := .type "tuple_iterator", data := .fields #[.ref q, .int 0 0] }).push { cls := .type "enumerate", data := .fields #[.none, .bool false, .ref st.heap.objs.size, rawInt 0, .none, .none] } }) :=
  .of_wp fun prog w A Rr st y => by
    obtain ⟨hp, gg, dd, tk, oo⟩ := st
    obtain ⟨hl, y⟩ := y
    have hsub := PySem.sub_enumerate
    have hT : PySem.Heap.IsTuple (Shared.heap ⟨hp, gg, dd, tk, oo⟩) q its := ⟨_, hl, rfl, m, rfl⟩
    wp_walk using PySem.AutoSeq1.wpAny_loadPart' hl
    refine wpAny_stack_any fun ss => wpAny_pure ?_
    split
    · rename_i cc _ _ _ _ _
      cases (cc == Value.type "enumerate")
      · wp_walk using PySem.AutoSeq1.wpAny_loadPart' hl, PySem.wpAny_pyIter_tuple hT
        exact ⟨_, rfl, y⟩
      · wp_walk using PySem.AutoSeq1.wpAny_loadPart' hl, PySem.wpAny_pyIter_tuple hT
        exact ⟨_, rfl, y⟩
    · wp_walk using PySem.AutoSeq1.wpAny_loadPart' hl, PySem.wpAny_pyIter_tuple hT
      exact ⟨_, rfl, y⟩
theorem enumT_call {prog : Program} {w : World} {A : Around} {Ex : Value → Shared → Prop} {st : Shared} {q : Addr} {its : Array Value} {Qq : Value → Shared → Prop} (hT : st.heap.IsTuple q its)
    (y : ∀ g', PySem.IsEnum g' (st.heap.objs.size + 1) st.heap.objs.size 0 .none → g'.IsTupleIter st.heap.objs.size q 0 → (∀ b o, st.heap.get? b = some o → g'.get? b = some o) → Qq (.ref (st.heap.objs.size + 1)) { st with heap := g' }) :
    wpAny (model prog w) A (call (.type "enumerate") [.ref q]) Qq Ex st := by
  obtain ⟨⟨cc, dc, dt, so⟩, hl, h1, m, h2⟩ := hT
  have h1 : cc = .type "tuple" := h1
  have h2 : dt = .seq its m := h2
  subst h1 h2
  refine PySem.callType_new PySem.F.called_enumerate (by decide) (PySem.F.typeCall_enumerate_1 _) (PySem.F.newCall_enumerate_1 _) (fun ob => PySem.F.args_object_init_2 ob _) PySem.F.entry_enumerate_new (enumT_new q its m dc so) ⟨hl, ?_⟩
  have e1 : (st.heap.push { cls := .type "tuple_iterator", data := .fields #[.ref q, .int 0 0] }).objs.size = st.heap.objs.size + 1 := Heap.size_push ..
  show _ ∧ _
  rw [e1]
  have e2 : PySem.IsEnum ((st.heap.push { cls := .type "tuple_iterator", data := .fields #[.ref q, .int 0 0] }).push { cls := .type "enumerate", data := .fields #[.none, .bool false, .ref st.heap.objs.size, rawInt 0, .none, .none] }) (st.heap.objs.size + 1) st.heap.objs.size 0 .none := by
    have e3 := Heap.get?_push_size (st.heap.push { cls := .type "tuple_iterator", data := .fields #[.ref q, .int 0 0] }) (o := { cls := .type "enumerate", data := .fields #[.none, .bool false, .ref st.heap.objs.size, rawInt 0, .none, .none] }) rfl
    rw [e1] at e3
    exact e3
  exact ⟨⟨_, e2, rfl⟩, y _ e2 ⟨_, Heap.get?_push_of_some _ (Heap.get?_push_size _ rfl), rfl, rfl⟩ fun b o z => Heap.get?_push_of_some _ (Heap.get?_push_of_some _ z)⟩
/-- the tuple at q, each item in a new pair -/
def ItET (Kf : PySem.W.Frag) (q : Addr) : It :=
  ⟨fun j G => ∃ (xs : List V) (v : V), SqT Kf G q xs ∧ xs[j]? = some v, fun j G v G' => ∃ p u, v = .ref p ∧ G p = none ∧ G' = upd G p (.tup [.int (j : Nat), u]) ∧ ∀ xs, SqT Kf G q xs → xs[j]? = some u, fun j G => ∃ xs : List V, SqT Kf G q xs ∧ xs.length = j⟩
theorem turn_ET {Pr : Program} {wo : World} {Kf : PySem.W.Frag} {ts : List Expr} {nn : Nat} {tp : Pos} (q en it : Addr) :
    Turn Pr wo Kf (.Tuple ts nn tp) (ItET Kf q) [en, it] en (fun j g => (∃ old, PySem.IsEnum g en it ((j : Nat) : Int) old) ∧ g.IsTupleIter it q j ∧ en ≠ it) where
  mem := List.mem_cons_self
  obj := fun j g st b hb => by
    obtain ⟨⟨old, h1⟩, ⟨ob, h2, h3, h4⟩, _⟩ := st
    rcases List.mem_cons.mp hb with rfl | hb
    · exact ⟨_, h1, fun v y => nomatch y⟩
    · cases List.mem_singleton.mp hb
      refine ⟨ob, h2, fun v y => ?_⟩
      rw [h4] at y
      cases y
  keep := fun j g g' st kk => by
    obtain ⟨⟨old, h1⟩, ⟨ob, h2, h3⟩, h5⟩ := st
    exact ⟨⟨old, kk en List.mem_cons_self _ h1⟩, ⟨ob, kk it (List.mem_cons_of_mem _ List.mem_cons_self) _ h2, h3⟩, h5⟩
  item := by
    intro X e1 e2 e3 calm j pins s σ G Ex inv fp st lt
    cases e1
    cases e2
    cases e3
    obtain ⟨⟨old, h1⟩, h2, ne⟩ := st
    obtain ⟨xs, v, hq, hv⟩ := lt
    obtain ⟨its, rv, hT, hz⟩ := inv.tuple hq
    obtain ⟨u, hu, ru⟩ := rv.get hv
    have l1 : en < s.heap.objs.size := Heap.lt_size h1
    have l2 : it < s.heap.objs.size := by
      obtain ⟨_, y, _⟩ := h2
      exact Heap.lt_size y
    have nqi : q ≠ it := fun z => by
      obtain ⟨o1, y1, y2, _⟩ := hT
      obtain ⟨o2, y3, y4, _⟩ := h2
      rw [z, y3] at y1
      cases y1
      rw [y4] at y2
      exact absurd y2 (by decide +kernel)
    have nqe : en ≠ q := fun z => by
      obtain ⟨o1, y1, y2, _⟩ := hT
      rw [← z, h1] at y1
      cases y1
      exact absurd (show Value.type "enumerate" = Value.type "tuple" from y2) (by decide +kernel)
    have lt : j < its.toArray.size := by
      have y := (List.getElem?_eq_some_iff.mp hu).1
      simpa using y
    refine PySem.wpAny_pyNext_enum_itemD (PySem.Draws.tuple (show X.A.in1.handled = none from inv.ok.hd calm) it q nqi its.toArray) h1 ⟨h2, hT⟩ lt ne (fun y => ?_) fun u' g' t2 hu' out h2' hT' sz kp => ?_
    · rcases List.mem_cons.mp y with z | z
      · exact ne z
      · exact nqe (List.mem_singleton.mp z)
    have eu : u' = u := by
      have y : its.toArray[j]? = some u' := hu'
      rw [List.getElem?_toArray, hu] at y
      exact (Option.some.inj y).symm
    subst eu
    refine ⟨_, rfl, PySem.wpAny_letOwnedTupleGo_enum (s := { s with heap := g', toks := t2 + 1 }) out fun g'' h1' sb => ?_⟩
    have hT2 : g''.get? s.heap.objs.size = some { cls := .type "tuple", data := .seq #[.int j t2, u'] } := (sb.2 _ (Nat.ne_of_gt l1)).trans hT'
    have made : ObjOk X.prog X.w (upd G s.heap.objs.size (.tup [.int (j : Nat), v])) g'' s.heap.objs.size (.tup [.int (j : Nat), v]) :=
      ⟨two_le, [.int j t2, u'], .cons ⟨_, rfl⟩ (.cons ru .nil), ⟨_, hT2, rfl, _, rfl⟩⟩
    have inv' : Inv X pins σ (upd G s.heap.objs.size (.tup [.int (j : Nat), v])) { s with heap := g'', toks := t2 + 1 } := by
      refine Inv.turnedNew (ch := [en, it]) inv (fun b ob nb y => ?_) fp (Nat.le_refl _) made
      have n1 : b ≠ en := fun y => nb (by rw [y]; exact List.mem_cons_self)
      have n2 : b ≠ it := fun y => nb (by rw [y]; exact List.mem_cons_of_mem _ List.mem_cons_self)
      exact (sb.2 b n1).trans (kp b ob n1 n2 y)
    refine ⟨.ref s.heap.objs.size, _, inv', rfl, ⟨_, v, rfl, inv.hok.fresh (Nat.le_refl _), rfl, fun ys hy => by rw [inv.tuple_inj hy hq]; exact hv⟩, ⟨⟨u', ?_⟩, ?_, ne⟩, fun b hb => ?_⟩
    · rw [show (((j + 1 : Nat) : Nat) : Int) = (j : Int) + 1 by omega]
      exact h1'
    · obtain ⟨ob, y1, y2⟩ := h2'.1
      exact ⟨ob, (sb.2 it (Ne.symm ne)).trans y1, y2⟩
    · have lb : b < s.heap.objs.size := by
        rcases List.mem_cons.mp hb with rfl | hb
        · exact l1
        · cases List.mem_singleton.mp hb
          exact l2
      rw [upd_ne (Nat.ne_of_lt lb)]
      exact (fp b hb).1
  done := by
    intro X e1 e2 e3 calm j pins s σ G Ex inv fp st ge
    cases e1
    cases e2
    cases e3
    obtain ⟨⟨old, h1⟩, h2, ne⟩ := st
    obtain ⟨xs, hq, hl⟩ := ge
    obtain ⟨its, rv, hT, hz⟩ := inv.tuple hq
    have nqi : q ≠ it := fun z => by
      obtain ⟨o1, y1, y2, _⟩ := hT
      obtain ⟨o2, y3, y4, _⟩ := h2
      rw [z, y3] at y1
      cases y1
      rw [y4] at y2
      exact absurd y2 (by decide +kernel)
    have ej : j = its.toArray.size := by
      have := rv.length
      rw [List.size_toArray]
      omega
    subst ej
    obtain ⟨f0, f1, f2, f3, f4, f5⟩ := fp it (List.mem_cons_of_mem _ List.mem_cons_self)
    exact PySem.wpAny_pyNext_enum_endD (PySem.Draws.tuple (show X.A.in1.handled = none from inv.ok.hd calm) it q nqi its.toArray) h1 ⟨h2, hT⟩ fun g' eb => ⟨rfl, inv.turned (t' := s.toks) (fun b o nb y => eb b o nb y) f0 f1 f3 f4 f5⟩
  self := fun Ar j s Q Ex st y => by
    obtain ⟨⟨_, h1⟩, _⟩ := st
    exact PySem.wpAny_pyIter_enum h1 y
def iET (Kf : PySem.W.Frag) (ta : L2.TA) : TI := fun σ G R => ta σ G fun vs G1 => ∃ q xs, vs = [.ref q] ∧ SqT Kf G1 q xs ∧ R (ItET Kf q) G1
theorem pi_ET {X : Cx} {ex : Expr} {ta : L2.TA} {p pos tp : Pos} {ts : List Expr} {nn : Nat} (gl : Gl X "enumerate") (mm : X.mg "enumerate" = none) (ha : PA X [ex] ta) (hs : starEach [ex] X.env = [(false, eval ex X.env)] := by rfl) :
    PI X (.Tuple ts nn tp) (.Call (.Name "enumerate" p) [ex] [] pos) (iET X.K ta) := by
  refine ⟨fun pins s σ G R inv y => ?_⟩
  refine PyProof.Rows.Call_ (ld_blt inv gl mm PyProof.Rows.boot_enumerate (PyProof.Rows.callWith_type1 (thn (ha.run pos pins s σ G _ inv y) fun us s1 ⟨vs, G1, inv1, r1, q1⟩ => ?_) hs rfl))
  obtain ⟨q, xs, rfl, hq, k⟩ := q1
  cases r1 with
  | cons r rr =>
    cases rr
    cases r
    obtain ⟨its, rv, hT, hz⟩ := inv1.tuple hq
    refine enumT_call hT fun g' h1 h2 kp => PySem.wpAny_pyIter_enum h1 ?_
    refine ⟨s1.heap.objs.size + 1, [s1.heap.objs.size + 1, s1.heap.objs.size], _, _, G1, rfl, inv1.kept (t' := s1.toks) kp, turn_ET q (s1.heap.objs.size + 1) s1.heap.objs.size, ⟨⟨.none, h1⟩, h2, Nat.succ_ne_self _⟩, fun b hb => ?_, k⟩
    have ge : s1.heap.objs.size ≤ b := by
      rcases List.mem_cons.mp hb with rfl | hb
      · exact Nat.le_succ _
      · cases List.mem_singleton.mp hb
        exact Nat.le_refl _
    exact inv1.fpOk ge (inv1.hok.fresh ge)
theorem for_ET {Kf : PySem.W.Frag} {q : Addr} {xs : List V} {g : TG} {tb : TS} {D : Ends} {σ : L2.St} {G : Hp} (Pv : Nat → L2.St → Hp → Prop) (h0 : Pv 0 σ G) (hl : ∀ j σ G, Pv j σ G → SqT Kf G q xs)
    (hs : ∀ j v σ G, xs[j]? = some v → Pv j σ G → ∀ p, G p = none → g (.ref p) σ (upd G p (.tup [.int (j : Nat), v])) fun σ2 G2 => tb { D with nx := Pv (j + 1), ct := Pv (j + 1), bk := D.nx } σ2 G2) (hd : ∀ σ G, Pv xs.length σ G → D.nx σ G) :
    ∃ Wd : Nat → Nat → L2.St → Hp → Prop, (∃ m, Wd 0 m σ G) ∧ ∀ j m σ G, Wd j m σ G →
      ((ItET Kf q).stop j G ∧ D.nx σ G) ∨ ((ItET Kf q).go j G ∧ ∃ Nn : L2.St → Hp → Prop, (∀ σ' G', Nn σ' G' → ∃ m', m' < m ∧ Wd (j + 1) m' σ' G') ∧ ∀ v G', (ItET Kf q).yld j G v G' → g v σ G' fun σ2 G2 => tb { D with nx := Nn, ct := Nn, bk := D.nx } σ2 G2) := by
  refine ⟨fun j m σ G => m = xs.length - j ∧ j ≤ xs.length ∧ Pv j σ G, ⟨_, rfl, Nat.zero_le _, h0⟩, ?_⟩
  rintro j m σ G ⟨rfl, le, pv⟩
  have hq := hl j σ G pv
  rcases Nat.lt_or_ge j xs.length with lt | ge
  · refine .inr ⟨⟨xs, xs[j], hq, List.getElem?_eq_getElem lt⟩, Pv (j + 1), fun σ' G' y => ⟨xs.length - (j + 1), by omega, rfl, lt, y⟩, fun v G' y => ?_⟩
    obtain ⟨p, u, rfl, np, rfl, hu⟩ := y
    exact hs j u σ G (hu xs hq) pv p np
  · have ej : j = xs.length := Nat.le_antisymm le ge
    subst ej
    exact .inl ⟨⟨xs, hq, rfl⟩, hd σ G pv⟩
/-! ### for over enumerate(a list) -/
section ENL
open PySem PySem.Spec PyProof.Rows
theorem for_EL {Kf : PySem.W.Frag} {q : Addr} {xs : List V} {g : TG} {tb : TS} {D : Ends} {σ : L2.St} {G : Hp} (Pv : Nat → L2.St → Hp → Prop) (h0 : Pv 0 σ G) (hl : ∀ j σ G, Pv j σ G → SqL Kf G q xs)
    (hs : ∀ j v σ G, xs[j]? = some v → Pv j σ G → ∀ p, G p = none → g (.ref p) σ (upd G p (.tup [.int (j : Nat), v])) fun σ2 G2 => tb { D with nx := Pv (j + 1), ct := Pv (j + 1), bk := D.nx } σ2 G2) (hd : ∀ σ G, Pv xs.length σ G → D.nx σ G) :
    ∃ Wd : Nat → Nat → L2.St → Hp → Prop, (∃ m, Wd 0 m σ G) ∧ ∀ j m σ G, Wd j m σ G →
      ((Ite Kf q).stop j G ∧ D.nx σ G) ∨ ((Ite Kf q).go j G ∧ ∃ Nn : L2.St → Hp → Prop, (∀ σ' G', Nn σ' G' → ∃ m', m' < m ∧ Wd (j + 1) m' σ' G') ∧ ∀ v G', (Ite Kf q).yld j G v G' → g v σ G' fun σ2 G2 => tb { D with nx := Nn, ct := Nn, bk := D.nx } σ2 G2) := by
  refine ⟨fun j m σ G => m = xs.length - j ∧ j ≤ xs.length ∧ Pv j σ G, ⟨_, rfl, Nat.zero_le _, h0⟩, ?_⟩
  rintro j m σ G ⟨rfl, le, pv⟩
  have hq := hl j σ G pv
  rcases Nat.lt_or_ge j xs.length with lt | ge
  · refine .inr ⟨⟨xs, xs[j], hq, List.getElem?_eq_getElem lt⟩, Pv (j + 1), fun σ' G' y => ⟨xs.length - (j + 1), by omega, rfl, lt, y⟩, fun v G' y => ?_⟩
    obtain ⟨p, u, rfl, np, rfl, hu⟩ := y
    exact hs j u σ G (hu xs hq) pv p np
  · have ej : j = xs.length := Nat.le_antisymm le ge
    subst ej
    exact .inl ⟨⟨xs, hq, Nat.le_refl _⟩, hd σ G pv⟩
end ENL
section OPDS
open PySem PySem.Spec PyProof.Rows
/-! ### {**d, k: v} -/
section
variable {prog : Program} {w : World} {K : Type} [DecidableEq K] {knd : KeyKind prog w K} {A : Around} {E : Value → Shared → Prop} {s : Shared}
theorem wpAny_dictPut {d : Addr} {kvs : List (K × Value)} {k : K} {key v : Value} {Q : Unit → Shared → Prop} (hkey : knd.is k key = true) (hm : s.heap.DictOf knd d kvs)
    (hQ : ∀ h', h'.DictOf knd d (stored kvs k v) → Heap.SameBut d s.heap h' → Q () { s with heap := h' }) (hsz : kvs.length ≤ sizeLine) :
    wpAny (model prog w) A (dictPut d (knd.hash k) key v) Q E s := by
  obtain ⟨o, es, ep, ho, hc, hd, hk, hp, hn⟩ := hm
  have hes : es.size ≤ sizeLine := by
    have e1 := hp.length
    have e2 : es.toList.length = es.size := by simp
    omega
  unfold dictPut
  refine wpAny_bind (wpAny_dictFind_of hkey ho hd hk ?_)
  have hidx : (es.findIdx? fun e => knd.is k e.key) = kvs.findIdx? fun kv => decide (kv.1 = k) := by
    rw [← hp.findIdx k]; obtain ⟨l⟩ := es; simp
  cases hi : es.findIdx? fun e => knd.is k e.key with
  | some i =>
    refine wpAny_updateDict ho hd (hQ _ ⟨_, _, ep, Heap.get?_update_self _ ho (Obj.isFreed_of_dict (Obj.data_mapDict hd _)),
      hc.mapDict _, Obj.data_mapDict hd _, hk.modify _ _, ?_, ?_⟩ (Heap.SameBut.update ..))
    · rw [stored, if_pos (any_of_findIdx_some (hidx ▸ hi))]
      have hl : (es.toList.findIdx? fun e => knd.is k e.key) = some i := by rw [← hi]; obtain ⟨l⟩ := es; simp
      have := hp.modify hn hl v
      obtain ⟨l⟩ := es
      simpa using this
    · rw [stored, if_pos (any_of_findIdx_some (hidx ▸ hi)), keys_map_store]; exact hn
  | none =>
    have hnot : k ∉ kvs.map (·.1) := not_mem_of_findIdx_none (hidx ▸ hi)
    have hany : ¬ (kvs.any fun kv => decide (kv.1 = k)) = true := by
      rw [List.any_eq_true]; rintro ⟨kv, hkv, he⟩
      exact hnot (List.mem_map.mpr ⟨kv, hkv, of_decide_eq_true he⟩)
    refine wpAny_updateDictKeys (hz := hes) ho hd (hQ _ ⟨_, _, ep + 1, Heap.get?_update_self _ ho (Obj.isFreed_of_dict (Obj.data_mapDictKeys hd _)),
      hc.mapDictKeys _, Obj.data_mapDictKeys hd _, hk.push hkey _, ?_, ?_⟩ (Heap.SameBut.update ..))
    · rw [stored, if_neg hany]
      have := hp.append hkey (knd.hash k) v
      obtain ⟨l⟩ := es
      simpa using this
    · rw [stored, if_neg hany, List.map_append, List.nodup_append]
      refine ⟨hn, by simp, ?_⟩
      intro a ha b hb
      simp only [List.map_cons, List.map_nil, List.mem_singleton] at hb
      subst hb
      exact fun e => hnot (e ▸ ha)
theorem wpAny_mergeMapping {d o : Addr} {kvs more : List (K × Value)} {Q : Unit → Shared → Prop} (hdo : d ≠ o) (hoS : (o == sysModules) = false)
    (hd : s.heap.DictOf knd d kvs) (ho : s.heap.DictOf knd o more) (nr : ∀ k (key : Value), knd.is k key = true → ∀ a, key ≠ .ref a)
    (hQ : ∀ h', h'.DictOf knd d (merged kvs more) → Heap.SameBut d s.heap h' → Q () { s with heap := h' })
    (hsz : kvs.length + more.length ≤ sizeLine) :
    wpAny (model prog w) A (mergeMapping d (.ref o) false) Q E s := by
  obtain ⟨od, esd, epd, hod, hcd, hdd, hkd, hpd, hnd⟩ := id hd
  obtain ⟨oo, eso, epo, hoo, hco, hdo', hko, hpo, hno⟩ := id ho
  unfold mergeMapping
  refine wpAny_bind (wpAny_isInstance ho.typeIs isSubtype_dict_dict ?_)
  simp only [if_true]
  have hlen : more.length = eso.size := by rw [← hpo.length]; simp
  have loop : wpAny (model prog w) A (do
      let l ← dictEntries o
      let epoch ← dictEpoch o
      forIn (List.range l.size) PUnit.unit fun i (_ : PUnit) => (do
          let l' ← dictEntries o
          match l'[i]? with
            | some e => do
              holding [e.key, e.val] (dictPut d e.hash e.key e.val)
              let ep' ← dictEpoch o
              if (ep' != epoch) = true then do
                  (unsupported "dict.changed-during-merge" : Sem PUnit)
                  pure (ForInStep.yield PUnit.unit)
                else pure (ForInStep.yield PUnit.unit)
            | _ => do
              (unsupported "dict.changed-during-merge" : Sem PUnit)
              pure (ForInStep.yield PUnit.unit) : Sem (ForInStep PUnit))
      pure ()) Q E s := by
    refine wpAny_bind (wpAny_dictEntries hoo hdo' ?_)
    refine wpAny_bind (wpAny_dictEpoch hoo hdo' ?_)
    refine wpAny_bind ?_
    rw [List.range_eq_range']
    refine wpAny_forIn_list _
      (fun rest _ s' => ∃ h' i, s' = { s with heap := h' } ∧ rest = List.range' i (eso.size - i) ∧ i ≤ eso.size ∧ h'.DictOf knd d (merged kvs (more.take i)) ∧ h'.get? o = some oo ∧ Heap.SameBut d s.heap h')
      _ ?_ ?_ _ _ ⟨s.heap, 0, rfl, by simp, Nat.zero_le _, by simpa [merged] using hd, hoo, Heap.SameBut.refl _ _⟩
    · rintro x rest b s' ⟨h', i, rfl, hr, hi, hd', hoo', hs'⟩
      have hlt : i < eso.size := by
        rcases Nat.lt_or_ge i eso.size with h | h
        · exact h
        · rw [Nat.sub_eq_zero_of_le h] at hr; simp at hr
      obtain ⟨rfl, hrest⟩ : x = i ∧ rest = List.range' (i + 1) (eso.size - (i + 1)) := by
        have e : eso.size - i = (eso.size - (i + 1)) + 1 := by omega
        rw [e, List.range'_succ] at hr
        injection hr with h1 h2
        exact ⟨h1, h2⟩
      refine wpAny_bind (wpAny_dictEntries hoo' hdo' ?_)
      rw [Array.getElem?_eq_getElem hlt]
      obtain ⟨kv, hkv⟩ : ∃ kv, more[x]? = some kv := ⟨more[x]'(by rw [hlen]; exact hlt), List.getElem?_eq_getElem _⟩
      obtain ⟨k, v⟩ := kv
      obtain ⟨hkey, hval⟩ := hpo.get? (e := eso[x]) (by simp [hlt]) hkv
      obtain ⟨k', hkey', hhash⟩ := hko eso[x] (Array.getElem_mem hlt)
      obtain rfl : k' = k := knd.inj _ _ _ hkey' hkey
      show wpAny _ _ (holding [eso[x].key, eso[x].val] (dictPut d eso[x].hash eso[x].key eso[x].val) >>= _) _ _ _
      rw [hhash, hval]
      have hmx : (merged kvs (more.take x)).length ≤ sizeLine := by
        have e1 := merged_length_le kvs (more.take x)
        have e2 : (more.take x).length ≤ more.length := by rw [List.length_take]; omega
        omega
      refine wpAny_bind (wpAny_holding (wpAny_dictPut hkey hd' (fun h'' hd'' hs'' => ?_) hmx))
      have hoo'' : h''.get? o = some oo := (hs''.2 o (Ne.symm hdo)).trans hoo'
      refine wpAny_bind (wpAny_dictEpoch hoo'' hdo' ?_)
      rw [if_neg (by simp)]
      exact wpAny_pure ⟨h'', x + 1, rfl, hrest, hlt, by rw [merged_take_succ kvs more x (k', v) hkv]; exact hd'', hoo'', hs'.trans hs''⟩
    · rintro b s' ⟨h', i, rfl, hr, hi, hd', hoo', hs'⟩
      have hin : i = eso.size := by
        rcases Nat.lt_or_ge i eso.size with h | h
        · have e : eso.size - i = (eso.size - (i + 1)) + 1 := by omega
          rw [e, List.range'_succ] at hr; exact nomatch hr
        · exact Nat.le_antisymm hi h
      refine wpAny_pure (hQ h' ?_ hs')
      rw [hin, ← hlen, List.take_length] at hd'; exact hd'
  refine wpAny_bind (wpAny_specialOf ho.typeIs F.slot_dict_iter.lookup (wpAny_bind (wpAny_pure ?_)))
  simp only [beq_self_eq_true, Bool.false_eq_true, if_false, hoS]
  refine wpAny_bind (wpAny_dictEntries hod hdd ?_)
  split
  · refine wpAny_bind (wpAny_dictEntries hoo hdo' ?_)
    refine wpAny_bind ?_
    rw [← Array.forIn_toList]
    refine wpAny_forIn_list _ (fun rest _ s' => s' = s ∧ ∀ e ∈ rest, ∀ a, e.key ≠ .ref a) _ ?_ ?_ _ _ ⟨rfl, fun e he a => ?_⟩
    · rintro x rest b s' ⟨rfl, hr⟩
      have hx := hr x List.mem_cons_self
      have hrest : ∀ e ∈ rest, ∀ a, e.key ≠ .ref a := fun e he => hr e (List.mem_cons_of_mem _ he)
      cases hk : x.key with
      | ref a => exact absurd hk (hx a)
      | _ => exact wpAny_pure ⟨rfl, hrest⟩
    · rintro b s' ⟨rfl, _⟩
      exact loop
    · obtain ⟨k', hkey', _⟩ := hko e (Array.mem_toList_iff.mp he)
      exact nr _ _ hkey' a
  · exact loop
end
def tDispStar (t0 tk tv : TE) : TE := fun σ H Q => ∀ d, H d = none → t0 σ (upd H d (.dK [])) fun x H1 => H1 d = some (.dK []) ∧ ∃ (a : Addr) (kvs : List (L2.Key × V)), x = .ref a ∧ a ≠ d ∧ Rd H1 a (.dK kvs) ∧ kvs.length < sizeLine ∧
  ∀ p, (upd H1 d (.dK kvs)) p = none → tk σ (upd (upd H1 d (.dK kvs)) p (.dK [])) fun y H2 => tv σ H2 fun z H3 => H3 p = some (.dK []) ∧ H3 d = some (.dK kvs) ∧ ∃ key : L2.Key, y = kV key ∧ Q (.ref d) (upd (upd H3 p (.dK [(key, z)])) d (.dK (putK kvs key z)))
theorem pe_dispStar {X : Cx} {pos : Pos} {e0 k v : Expr} {t0 tk tv : TE} (hu : X.A.units + 1 < cLine) (h0 : PE X e0 t0) (hk : PE X k tk) (hv : PE X v tv) : PE X (.Dict [none, some k] [e0, v] pos) (tDispStar t0 tk tv) := by
  refine ⟨fun pins s σ H Q I q => ?_⟩
  have hn := I.hok.fresh (Nat.le_refl s.heap.objs.size)
  have I1 := I.laid (a := s.heap.objs.size) (o := .dK []) (h' := s.heap.push { cls := .type "dict", data := .dict #[] }) (t' := s.toks) (fun _ _ q => Heap.get?_push_of_some _ q) (Nat.le_refl _) (dk_empty s.heap I.big)
  rw [arm_eval_Dict]
  refine wpAny_bind (wpAny_standAt ?_)
  unfold dictDisplay
  show wpAny _ _ (do
    let r ← forIn [((none : Option (Sem Value)), (do let x ← eval e0 X.env; standAt pos; pure x : Sem Value)), (some (eval k X.env), (do let x ← eval v X.env; standAt pos; pure x : Sem Value))] _ _
    _) _ _ _
  rw [List.forIn_cons]
  refine wpAny_bind (wpAny_bind ?_)
  dsimp only
  rw [if_pos (show ([] : List (Sem Value × Sem Value)).isEmpty = true from rfl)]
  refine wpAny_bind (wpAny_pure ?_)
  refine wpAny_bind (wpAny_alloc ?_)
  refine wpAny_bind (wpAny_holding ?_)
  refine wpAny_bind (thn (h0.run pins _ σ _ _ I1 (q _ hn)) fun u s1 ⟨x, H1, I2, rx, ed, a, kvs, ex, nad, ha, hsz, q1⟩ => wpAny_bind (wpAny_standAt (wpAny_pure ?_)))
  subst ex
  obtain rfl : u = Value.ref a := rx
  generalize hd : s.heap.objs.size = d at *
  obtain ⟨zd, hds, vs0, r0, dd0⟩ := dk_of I2.hok ed
  cases r0
  obtain ⟨za, has, vs, ra, da⟩ := dk_rd I2.hok ha
  have nr : ∀ (k : L2.Key) (key : Value), (mixKind X.prog X.w).is k key = true → ∀ a, key ≠ .ref a := fun k key h a z => by
    rw [z] at h
    cases k <;> cases h
  have hnd : (vs.map (·.1)).Nodup := let ⟨_, _, _, _, _, _, _, _, hn⟩ := da; hn
  refine wpAny_bind (wpAny_onRaise (wpAny_tryCatch (wpAny_onRaise (wpAny_holding (wpAny_mergeMapping (knd := mixKind X.prog X.w) (kvs := []) (more := vs) nad.symm has dd0 da nr (fun h' dd' hs => ?_) (by rw [← ra.length]; exact Nat.le_of_lt (by rw [List.length_nil, Nat.zero_add]; exact hsz)))))))
  rw [merged_nil_of_nodup vs hnd] at dd'
  have hcat : kvs.length ≤ sizeLine := Nat.le_of_lt hsz
  have I3 : L2.Inv X pins σ (upd H1 d (.dK kvs)) { s1 with heap := h' } := d_write (t' := s1.toks) I2 (by rw [ed]; exact True.intro) hs (let ⟨q, _, _, hq, _⟩ := dd'; ⟨q, hq⟩) (dk_new hcat hds ra dd')
  refine wpAny_pure ?_
  dsimp only
  rw [List.forIn_cons]
  refine wpAny_bind ?_
  dsimp only [List.nil_append, List.length_cons, List.length_nil]
  rw [if_neg (show ¬ ((0 + 1 == 17) = true) from by decide)]
  refine wpAny_pure ?_
  dsimp only
  rw [List.forIn_nil]
  refine wpAny_pure ?_
  dsimp only [List.isEmpty_cons]
  rw [if_neg (show ¬ (false = true) from by decide)]
  refine wpAny_bind (wpAny_bind (wpAny_holding (wpAny_subDict (knd := mixKind X.prog X.w) (show 1 ≤ 15 from by decide) ?_)))
  have hn3 := I3.hok.fresh (Nat.le_refl h'.objs.size)
  have I4 := I3.laid (a := h'.objs.size) (o := .dK []) (h' := h'.push { cls := .type "dict", data := .dict #[] }) (t' := s1.toks) (fun _ _ q => Heap.get?_push_of_some _ q) (Nat.le_refl _) (dk_empty h' I3.big)
  have q2 := q1 _ hn3
  dsimp only at *
  generalize hp : h'.objs.size = p at *
  refine evalPairs_cons (thn (hk.run pins _ σ _ _ I4 q2) fun y0 s4 ⟨y, H4, I5, ry, q3⟩ => wpAny_bind (thn (hv.run pins _ σ _ _ I5 q3) fun z0 s5 ⟨z, H5, I6, rz, ep, ed5, key, ey, q4⟩ => wpAny_bind (wpAny_standAt (wpAny_pure (evalPairs_nil ?_)))))
  subst ey
  obtain ⟨_, hps, vp, rp, dp⟩ := dk_of I6.hok ep
  cases rp
  refine ⟨[(key, z0)], ⟨kV_is ry, rfl, trivial⟩, dp, fun h6 dd6 hs6 => ?_⟩
  have dd6 : h6.DictOf (mixKind X.prog X.w) p [(key, z0)] := dd6
  have I7 : L2.Inv X pins σ (upd H5 p (.dK [(key, z)])) { s5 with heap := h6, toks := s5.toks + 1 } := d_write (t' := s5.toks + 1) I6 (by rw [ep]; exact True.intro) hs6 (let ⟨q, _, _, hq, _⟩ := dd6; ⟨q, hq⟩) (dk_new (by show 1 ≤ sizeLine; decide) hps (.cons ⟨rfl, rz⟩ .nil) dd6)
  have npd : p ≠ d := fun z => by rw [z, upd_same] at hn3; cases hn3
  have ed7 : (upd H5 p (.dK [(key, z)])) d = some (.dK kvs) := by rw [upd_ne npd.symm]; exact ed5
  obtain ⟨_, _, vs7, r7, dd7⟩ := dk_of I7.hok ed7
  refine wpAny_bind (wpAny_onRaise (wpAny_holding (wpAny_mergeMapping (knd := mixKind X.prog X.w) (kvs := vs7) (more := [(key, z0)]) npd.symm hps dd7 dd6 nr (fun h8 dd8 hs8 => ?_) (by rw [← r7.length]; exact hsz))))
  refine wpAny_pure (wpAny_pure ?_)
  have dd8 : h8.DictOf (mixKind X.prog X.w) d (stored vs7 key z0) := dd8
  have hl8 : (putK kvs key z).length ≤ sizeLine := by
    have := length_putK kvs key z
    omega
  refine ⟨.ref d, _, d_write (t' := s5.toks + 1) I7 (by rw [ed7]; exact True.intro) hs8 (let ⟨q, _, _, hq, _⟩ := dd8; ⟨q, hq⟩) (dk_new hl8 hds (r7.put key rz) dd8), rfl, q4⟩
end OPDS
section OPSV
open PySem PySem.Spec PyProof.Rows
/-! ### v(e, .., *y), v a local name that holds one of some defs -/
def tCallVS (i : Nat) (Fam : Addr → Sp → Prop) (E : XK) (t : L2.TA) : TE := fun σ H Q => ∃ f sp, Fam f sp ∧ σ[i]? = some (some (.ref f)) ∧ t σ H fun vs H1 => sp vs H1 Q E
theorem pe_callVS {X : Cx} {CX : CXT} {k i : Nat} {Fam : Addr → Sp → Prop} {E : XK} {x : Str} {e : Expr} {es : List Expr} {t : L2.TA} {p pos : Pos} (F : ∀ f sp, Fam f sp → FnR X.prog X.w X.K X.mg X.base CX k f sp ∧ PySem.W.keepIn X.K (.ref f) = true)
    (hr : Room k X.A) (hx : Passes CX X E) (hN : X.N[i]? = some x) (hv : Vis X.env.scope x) (ha : PA X (e :: es) t)
    (hd : (x == ("__debug__" : Str)) = false := by decide) (hcd : (x == ("__classdict__" : Str)) = false := by decide)
    (he : starEach (e :: es) X.env = (false, eval e X.env) :: starEach es X.env := by rfl) (hst : (backTo pos (starEach es X.env)).any (·.1) = true := by rfl) : PE X (.Call (.Name x p) (e :: es) [] pos) (tCallVS i Fam E t) := by
  refine ⟨fun pins s σ H Q I h => ?_⟩
  obtain ⟨f, sp, hF, hs, h⟩ := h
  obtain ⟨hf, hk⟩ := F f sp hF
  refine wpAny_Call_Name_kw (thn ((pe_var (pos := p) (i := i) hN hv hd hcd).run pins s σ H (fun v H1 => v = .ref f ∧ H1 = H) I ⟨.ref f, hs, rfl, rfl⟩) fun u s1 ⟨v, H1, I1, r1, ev, eH⟩ => ?_)
  subst ev
  rw [eH] at I1
  cases r1
  refine PySem.W.callWith_S2 (h₀ := X.base) I.ok.mod.kin hk (thn (ha.run pos pins s1 σ H _ I1 h) fun us s2 ⟨vs, H2, I2, r, q⟩ => ⟨I2.kIn, ?_⟩) he hst
  exact wpAny_call (run_fnR hf hr hx I2 r q)
end OPSV
def top (i : Nat) : Stmt := PySem.Challenge.pw_uponboth_k71_snapshots.main.body.getD i (.Pass ⟨0, 0, 0, 0⟩)
structure Blt (mg : Str → Option Value) : Prop where
  len : mg "len" = none
  list : mg "list" = none
  tuple : mg "tuple" = none
  dict : mg "dict" = none
  bool : mg "bool" = none
  isinstance : mg "isinstance" = none
  max : mg "max" = none
  min : mg "min" = none
  range : mg "range" = none
  all : mg "all" = none
  sorted : mg "sorted" = none
  enumerate : mg "enumerate" = none
  sum : mg "sum" = none
  str : mg "str" = none
  int : mg "int" = none
/-- the state of the draws: a list of ints, a place, a rest, a seed -/
def Rng (H : Hp) (r : Addr) : Prop := ∃ (c : Addr) (ns : List Int) (i b s : Int), H r = some (.lst [.ref c, .int i, .int b, .int s]) ∧ H c = some (.lst (ns.map V.int)) ∧ c ≠ r ∧ 0 ≤ i ∧ 0 ≤ b ∧ 0 ≤ s ∧ s < 2147483647
theorem Rng.lst {H : Hp} {r : Addr} (h : Rng H r) : ∃ ys, H r = some (.lst ys) := by
  obtain ⟨c, ns, i, b, s, h, _⟩ := h
  exact ⟨_, h⟩
theorem Rng.same {H H' : Hp} {r : Addr} (e : Same H H') (h : Rng H r) : Rng H' r := by
  obtain ⟨c, ns, i, b, s, h1, h2, h3⟩ := h
  exact ⟨c, ns, i, b, s, e _ _ h1, e _ _ h2, h3⟩
theorem cut63 {ns : List Int} : cutV (ns.map V.int) none (some 63) = (ns.take 63).map V.int := by
  unfold cutV
  rw [HT.sIx_none, show HT.sIx (ns.map V.int).length (ns.map V.int).length (some 63) = min 63 (ns.map V.int).length from HT.sIx_nat _ _ 63]
  rw [List.drop_zero, Nat.sub_zero, List.map_take]
  rcases Nat.le_total 63 (ns.map V.int).length with h | h
  · rw [Nat.min_eq_left h]
  · rw [Nat.min_eq_right h, List.take_of_length_le (Nat.le_refl _), List.take_of_length_le h]
def spDraws (K : PySem.W.Frag) : Sp := fun vs H Q _ => ∃ (a : Addr) (ns : List Int), vs = [.ref a] ∧ SqL K H a (ns.map V.int) ∧ ∀ (r : Addr) (H' : Hp), Same H H' → H r = none → Rng H' r → Q (.ref r) H'
def spDraw : Sp := fun vs H Q _ => ∃ (r : Addr) (n : Int), vs = [.ref r, .int n] ∧ Rng H r ∧ 0 < n ∧ n < 1073741824 ∧ ∀ (v : Int) (H' : Hp), 0 ≤ v → v < n → Rng H' r → But r H H' → Q (.int v) H'
theorem fn_none {P : Program} {w : World} {K : PySem.W.Frag} {mg : Str → Option Value} {base : Heap} {f : Addr} {fd : FuncData} {CX : CXT} {ps : List Str} {sp : Sp} {k : Nat} (no : ∀ vs H Q E, ¬ sp vs H Q E) : FnOk P w K mg base CX k f fd ps sp :=
  ⟨fun vs H Q E h => absurd h (no vs H Q E), fun A outer s H args us vs Q E _ _ _ _ h => absurd h (no vs H Q E)⟩
def spTerm (K : PySem.W.Frag) (n : Nat) : Sp := fun vs H Q _ => ∃ (r : Addr) (many : Int) (k : Nat), k < n ∧ vs = [.ref r, .int many, .int (2 ^ k)] ∧ k ≤ 6 ∧ 1 ≤ many ∧ many ≤ 2 ^ k ∧ Rng H r ∧
  ∀ (v : V) (t : Tree) (H' : Hp), TA K H' v t → (t.sz : Int) = many → t.dp ≤ k → Rng H' r → But r H H' → Q v H'
def spComb (K : PySem.W.Frag) : Sp := fun vs H Q _ => ∃ (m : Int) (b : Bool), vs = [.int m, .bl b] ∧ 1 ≤ m ∧ m ≤ 40 ∧
  ∀ (v : V) (t : Tree) (H' : Hp), TA K H' v t → (t.sz : Int) = m → (t.dp : Int) = m - 1 → Same H H' → Q v H'
def spAny (K : PySem.W.Frag) : Sp := fun vs H Q _ => ∃ (r : Addr) (top : Int), vs = [.ref r, .int top] ∧ 1 ≤ top ∧ top ≤ 64 ∧ Rng H r ∧
  ∀ (v : V) (t : Tree) (H' : Hp), TA K H' v t → (t.sz : Int) ≤ top → t.dp ≤ 6 → Rng H' r → But r H H' → Q v H'
/-- a def over one tree that gives g of it and makes nothing that stays -/
def spTree (K : PySem.W.Frag) (g : Tree → V) (n : Nat) : Sp := fun vs H Q _ => ∃ (v : V) (t : Tree), vs = [v] ∧ TA K H v t ∧ t.dp < n ∧ n ≤ 40 ∧ ∀ H', Same H H' → Q (g t) H'
theorem spTree_no {K : PySem.W.Frag} {g : Tree → V} : ∀ vs H Q E, ¬ spTree K g 0 vs H Q E := fun vs H Q E h => by
  obtain ⟨v, t, _, _, h, _⟩ := h
  omega
def spIsPair (K : PySem.W.Frag) : Sp := fun vs H Q _ => ∃ (v : V) (t : Tree), vs = [v] ∧ TA K H v t ∧ Q (.bl (!t.isL)) H
def spOkTerm (K : PySem.W.Frag) (g : V) : Sp := fun vs H Q _ => ∃ (v : V) (t : Tree), vs = [v] ∧ TA K H v t ∧ t.sz ≤ 12 ∧ t.dp ≤ 6 ∧ ∀ H', Same H H' → Q g H'
/-- an item of the pile: a term and how deep it stands -/
def Item (K : PySem.W.Frag) (H : Hp) (p : V × Tree × Nat) : Prop := ∃ (a : Addr) (u : V), p.1 = .ref a ∧ SqT K H a [u, .int p.2.2] ∧ TA K H u p.2.1 ∧ p.2.2 + p.2.1.dp ≤ 6
theorem Item.mono {K : PySem.W.Frag} {H H' : Hp} (e : Tp H H') {p : V × Tree × Nat} (h : Item K H p) : Item K H' p := by
  obtain ⟨a, u, h1, h2, h3, h4⟩ := h
  exact ⟨a, u, h1, e.sqT h2, ta_mono e h3, h4⟩
def szs (ps : List (V × Tree × Nat)) : Nat := (ps.map fun p => p.2.1.sz).sum
def nds (ps : List (V × Tree × Nat)) : Nat := (ps.map fun p => p.2.1.nodes).sum
theorem szs_snoc (ps : List (V × Tree × Nat)) (p) : szs (ps ++ [p]) = szs ps + p.2.1.sz := by
  unfold szs
  rw [List.map_append, List.sum_append]
  simp
theorem nds_snoc (ps : List (V × Tree × Nat)) (p) : nds (ps ++ [p]) = nds ps + p.2.1.nodes := by
  unfold nds
  rw [List.map_append, List.sum_append]
  simp
theorem szs_len : ∀ ps : List (V × Tree × Nat), ps.length ≤ szs ps
  | [] => Nat.zero_le _
  | p :: ps => by
    have h := szs_len ps
    have h2 := p.2.1.sz_pos
    show ps.length + 1 ≤ (p.2.1.sz :: ps.map fun p => p.2.1.sz).sum
    rw [List.sum_cons]
    unfold szs at h
    omega
structure Cst (mg : Str → Option Value) : Prop where
  MAX_SIZE : ∃ t, mg "MAX_SIZE" = some (.int 12 t)
  MAX_DEPTH : ∃ t, mg "MAX_DEPTH" = some (.int 6 t)
def spOkTree (K : PySem.W.Frag) (g : Tree → V) : Sp := fun vs H Q _ => ∃ (v : V) (t : Tree), vs = [v] ∧ TA K H v t ∧ t.sz ≤ 12 ∧ t.dp ≤ 6 ∧ ∀ H', Same H H' → Q (g t) H'
def Tree.spine : Tree → List Tree
  | .L => [.L]
  | .N l r => .N l r :: l.spine
def spSpine (K : PySem.W.Frag) : Sp := fun vs H Q _ => ∃ (v : V) (t : Tree), vs = [v] ∧ TA K H v t ∧ t.sz ≤ 12 ∧ t.dp ≤ 6 ∧ ∀ (p : Addr) (vs : List V) (H' : Hp), Same H H' → H p = none → H' p = some (.lst vs) → DpAll K H' vs (t.spine.map Tree.d) → Q (.ref p) H'
theorem dpAll_snoc {K : PySem.W.Frag} {H : Hp} : ∀ {vs : List V} {ds : List PyData} {v : V} {d : PyData}, DpAll K H vs ds → Dp K H v d → DpAll K H (vs ++ [v]) (ds ++ [d])
  | _, _, _, _, .nil, h => .cons h .nil
  | _, _, _, _, .cons h1 h2, h => .cons h1 (dpAll_snoc h2 h)
theorem dpAll_len {K : PySem.W.Frag} {H : Hp} : ∀ {vs : List V} {ds : List PyData}, DpAll K H vs ds → vs.length = ds.length
  | _, _, .nil => rfl
  | _, _, .cons _ h2 => congrArg (· + 1) (dpAll_len h2)
theorem dpAll_at {K : PySem.W.Frag} {H : Hp} : ∀ {vs : List V} {ds : List PyData}, DpAll K H vs ds → ∀ (i : Nat) (d : PyData), ds[i]? = some d → ∃ v, vs[i]? = some v ∧ Dp K H v d
  | _, _, .nil, i, d, e => by simp at e
  | _, _, .cons h1 h2, 0, d, e => ⟨_, rfl, by cases e; exact h1⟩
  | _, _, .cons h1 h2, i + 1, d, e => dpAll_at h2 i d e
theorem dpAll_tp {K : PySem.W.Frag} {H H' : Hp} (e : Tp H H') : ∀ {ts : List Tree} {vs : List V}, DpAll K H vs (ts.map Tree.d) → DpAll K H' vs (ts.map Tree.d)
  | [], _, h => by
    cases h
    exact .nil
  | t :: ts, _, h => by
    cases h with
    | cons h1 h2 => exact .cons (ta_mono e h1) (dpAll_tp e h2)
theorem Tree.spine_len : ∀ t : Tree, t.spine.length ≤ t.dp + 1
  | .L => Nat.le_refl _
  | .N l r => by
    have h := spine_len l
    show l.spine.length + 1 ≤ max l.dp r.dp + 1 + 1
    omega
theorem Tree.spine_mem : ∀ {t u : Tree}, u ∈ t.spine → u.dp ≤ t.dp
  | .L, u, h => by
    cases List.mem_singleton.mp h
    exact Nat.le_refl _
  | .N l r, u, h => by
    rcases List.mem_cons.mp h with e | h
    · rw [e]
      exact Nat.le_refl _
    · have h2 := spine_mem h
      show u.dp ≤ max l.dp r.dp + 1
      omega
theorem Tree.spine_self : ∀ t : Tree, t ∈ t.spine
  | .L => List.mem_singleton.mpr rfl
  | .N _ _ => List.mem_cons_self
/-- the walk down the left: at p stands the list of what was met, its last one is still to be looked at -/
def Spn (K : PySem.W.Frag) (H H' : Hp) (p : Addr) (t : Tree) (m : Nat) : Prop := ∃ (vs : List V) (u : V) (ts : List Tree) (t' : Tree), Same H H' ∧ H' p = some (.lst (vs ++ [u])) ∧ DpAll K H' vs (ts.map Tree.d) ∧ TA K H' u t' ∧ ts ++ t'.spine = t.spine ∧ m = t'.nodes
theorem Spn.dp {t t' : Tree} {ts : List Tree} (et : ts ++ t'.spine = t.spine) (hd : t.dp ≤ 6) : t'.dp ≤ 63 := by
  have h : t' ∈ t.spine := by
    rw [← et]
    exact List.mem_append_right _ t'.spine_self
  have := Tree.spine_mem h
  omega
theorem Spn.lt {K : PySem.W.Frag} {H' : Hp} {vs : List V} {u : V} {t t' : Tree} {ts : List Tree} (hA : DpAll K H' vs (ts.map Tree.d)) (et : ts ++ t'.spine = t.spine) (hd : t.dp ≤ 6) : (vs ++ [u]).length < sizeLine := by
  have h1 := dpAll_len hA
  have h2 := congrArg List.length et
  have h3 := t.spine_len
  rw [List.length_map] at h1
  rw [List.length_append] at h2
  rw [List.length_append, List.length_singleton]
  exact small1000 (by omega)
theorem Spn.next {K : PySem.W.Frag} {H H' : Hp} {p p5 b : Addr} {vs : List V} {x1 x2 : V} {t l r : Tree} {ts : List Tree} (hp0 : H p = none) (sm : Same H H') (s5 : Same H' (upd H' p5 (.tup []))) (hl : H' p = some (.lst (vs ++ [.ref b]))) (hA : DpAll K H' vs (ts.map Tree.d)) (hS : SqT K H' b [x1, x2]) (hL : TA K H' x1 l) (hR : TA K H' x2 r)
    (et : ts ++ (Tree.N l r).spine = t.spine) : Spn K H (upd (upd H' p5 (.tup [])) p (.lst ((vs ++ [.ref b]) ++ [x1]))) p t l.nodes := by
  have tp : Tp H' (upd (upd H' p5 (.tup [])) p (.lst ((vs ++ [.ref b]) ++ [x1]))) := (Tp.same s5).trans (Tp.but (s5 _ _ hl) But.set)
  refine ⟨vs ++ [.ref b], x1, ts ++ [.N l r], l, fun c o e => ?_, upd_same, ?_, ta_mono tp hL, ?_, rfl⟩
  · rw [upd_ne (ne_of_none e hp0)]
    exact s5 _ _ (sm _ _ e)
  · rw [List.map_append]
    exact dpAll_snoc (dpAll_tp tp hA) (ta_node (tp.sqT hS) (ta_mono tp hL) (ta_mono tp hR))
  · rw [List.append_assoc]
    exact et
/-! ### data and their built-in types -/
def tn : PyData → String
  | .none => "NoneType"
  | .bool _ => "bool"
  | .int _ => "int"
  | .str _ => "str"
  | .list _ => "list"
  | .tuple _ => "tuple"
  | .dict _ => "dict"
def isT : PyData → Bool
  | .tuple _ => true
  | _ => false
def isLs : PyData → Bool
  | .list _ => true
  | _ => false
def isB : PyData → Bool
  | .bool _ => true
  | _ => false
theorem dp_ty {K : PySem.W.Frag} {H : Hp} {x : V} {d : PyData} (h : Dp K H x d) : TyX K H x (.type (tn d)) := by
  cases h with
  | non => exact .base .non
  | bl b => exact .base (.bl b)
  | int i => exact .base (.int i)
  | str z => exact .base (.str z)
  | lst hs _ => exact tyx_lst hs
  | tup hs _ => exact tyx_tup hs
theorem kit_dict {K : PySem.W.Frag} {H : Hp} {x : V} {d : PyData} (h : Dp K H x d) : PySem.W.kitOne K (.type (tn d)) (.type "dict") = some false := by
  cases h with
  | non => exact kit_ty (show kitB "NoneType" "dict" = some false by decide +kernel)
  | bl _ => exact kit_ty (show kitB "bool" "dict" = some false by decide +kernel)
  | int _ => exact kit_ty (show kitB "int" "dict" = some false by decide +kernel)
  | str _ => exact kit_ty (show kitB "str" "dict" = some false by decide +kernel)
  | lst _ _ => exact kit_ty (show kitB "list" "dict" = some false by decide +kernel)
  | tup _ _ => exact kit_ty (show kitB "tuple" "dict" = some false by decide +kernel)
theorem kit_tuple {K : PySem.W.Frag} {H : Hp} {x : V} {d : PyData} (h : Dp K H x d) : PySem.W.kitOne K (.type (tn d)) (.type "tuple") = some (isT d) := by
  cases h with
  | non => exact kit_ty (show kitB "NoneType" "tuple" = some false by decide +kernel)
  | bl _ => exact kit_ty (show kitB "bool" "tuple" = some false by decide +kernel)
  | int _ => exact kit_ty (show kitB "int" "tuple" = some false by decide +kernel)
  | str _ => exact kit_ty (show kitB "str" "tuple" = some false by decide +kernel)
  | lst _ _ => exact kit_ty (show kitB "list" "tuple" = some false by decide +kernel)
  | tup _ _ => exact kit_ty (show kitB "tuple" "tuple" = some true by decide +kernel)
theorem kit_list {K : PySem.W.Frag} {H : Hp} {x : V} {d : PyData} (h : Dp K H x d) : PySem.W.kitOne K (.type (tn d)) (.type "list") = some (isLs d) := by
  cases h with
  | non => exact kit_ty (show kitB "NoneType" "list" = some false by decide +kernel)
  | bl _ => exact kit_ty (show kitB "bool" "list" = some false by decide +kernel)
  | int _ => exact kit_ty (show kitB "int" "list" = some false by decide +kernel)
  | str _ => exact kit_ty (show kitB "str" "list" = some false by decide +kernel)
  | lst _ _ => exact kit_ty (show kitB "list" "list" = some true by decide +kernel)
  | tup _ _ => exact kit_ty (show kitB "tuple" "list" = some false by decide +kernel)
theorem kit_bool {K : PySem.W.Frag} {H : Hp} {x : V} {d : PyData} (h : Dp K H x d) : PySem.W.kitOne K (.type (tn d)) (.type "bool") = some (isB d) := by
  cases h with
  | non => exact kit_ty (show kitB "NoneType" "bool" = some false by decide +kernel)
  | bl _ => exact kit_ty (show kitB "bool" "bool" = some true by decide +kernel)
  | int _ => exact kit_ty (show kitB "int" "bool" = some false by decide +kernel)
  | str _ => exact kit_ty (show kitB "str" "bool" = some false by decide +kernel)
  | lst _ _ => exact kit_ty (show kitB "list" "bool" = some false by decide +kernel)
  | tup _ _ => exact kit_ty (show kitB "tuple" "bool" = some false by decide +kernel)
theorem kit_seq {K : PySem.W.Frag} {H : Hp} {x : V} {d : PyData} (h : Dp K H x d) : PySem.W.kitAny K (.type (tn d)) [.type "tuple", .type "list"] = some (isT d || isLs d) := by
  refine kitAny_cons (kit_tuple h) (fun e => kitAny_cons (kit_list h) (fun e2 => ?_) (fun e2 => ?_)) (fun e => ?_)
  · rw [e, e2]
    exact kitAny_nil
  · rw [e, e2]
    rfl
  · rw [e]
    rfl
mutual
/-- no list or tuple in it is longer than 1000 -/
def wide : PyData → Bool
  | .list xs | .tuple xs => decide (xs.length ≤ 1000) && wideAll xs
  | .none | .bool _ | .int _ | .str _ | .dict _ => true
def wideAll : List PyData → Bool
  | [] => true
  | x :: xs => wide x && wideAll xs
end
/-- two data that are the same are told to be the same -/
def spSame (K : PySem.W.Frag) (n : Nat) : Sp := fun vs H Q _ => ∃ (x y : V) (d : PyData), vs = [x, y] ∧ Dp K H x d ∧ Dp K H y d ∧ SeqAt.shaped d = true ∧ d.depth < n ∧ wide d = true ∧ ∀ H', Same H H' → Q (.bl true) H'
theorem shaped_at {ds : List PyData} {d : PyData} (hc : PyData.canLayAll0 ds = true) (hm : d ∈ ds) : d.canLay0 = true := by
  induction ds with
  | nil => cases hm
  | cons a r ih =>
    have h' : a.canLay0 = true ∧ PyData.canLayAll0 r = true := by simpa [PyData.canLayAll0] using hc
    rcases List.mem_cons.mp hm with e | hm
    · rw [e]
      exact h'.1
    · exact ih h'.2 hm
theorem depth_at {ds : List PyData} {d : PyData} (hm : d ∈ ds) : d.depth ≤ PyData.depthAll ds := by
  induction ds with
  | nil => cases hm
  | cons a r ih =>
    show d.depth ≤ max a.depth (PyData.depthAll r)
    rcases List.mem_cons.mp hm with e | hm
    · rw [e]
      omega
    · have := ih hm
      omega
theorem wide_at {ds : List PyData} {d : PyData} (hc : wideAll ds = true) (hm : d ∈ ds) : wide d = true := by
  induction ds with
  | nil => cases hm
  | cons a r ih =>
    have h' : wide a = true ∧ wideAll r = true := by simpa [wideAll] using hc
    rcases List.mem_cons.mp hm with e | hm
    · rw [e]
      exact h'.1
    · exact ih h'.2 hm
theorem all_rep : ∀ n : Nat, (List.replicate n true).all id = true
  | 0 => rfl
  | n + 1 => all_rep n
def spLaw (K : PySem.W.Frag) : Sp := fun vs H Q _ => ∃ (a : Addr) (ns : List Int), vs = [.ref a] ∧ SqL K H a (ns.map V.int) ∧ ∀ H', Q (.bl true) H'
/-! ### texts of trees -/
namespace Tree
def cs : Tree → List Nat
  | L => [120]
  | N l r => 40 :: (l.cs ++ (r.cs ++ [41]))
def txt (t : Tree) : Str := ⟨t.cs.toArray⟩
theorem cs_len : ∀ t : Tree, t.cs.length + 2 = 3 * t.sz
  | L => rfl
  | N l r => by
    have h1 := cs_len l
    have h2 := cs_len r
    show (40 :: (l.cs ++ (r.cs ++ [41]))).length + 2 = 3 * (l.sz + r.sz)
    rw [List.length_cons, List.length_append, List.length_append, List.length_singleton]
    omega
theorem txt_len (t : Tree) : t.txt.length = t.cs.length := by
  show t.cs.toArray.size = _
  simp
theorem txtN (l r : Tree) : (((Str.ofString "(" ++ l.txt) ++ r.txt) ++ Str.ofString ")") = (N l r).txt := by
  show (⟨((#[40] ++ l.cs.toArray) ++ r.cs.toArray) ++ #[41]⟩ : Str) = ⟨(40 :: (l.cs ++ (r.cs ++ [41]))).toArray⟩
  congr 1
  apply Array.toList_inj.mp
  simp
theorem txtL : Str.ofString "x" = L.txt := rfl
end Tree
def spText (K : PySem.W.Frag) (n : Nat) : Sp := fun vs H Q _ => ∃ (v : V) (t : Tree), vs = [v] ∧ TA K H v t ∧ t.dp < n ∧ n ≤ 40 ∧ t.sz ≤ 1000 ∧ ∀ H', Same H H' → Q (.str t.txt) H'
theorem spText_no {K : PySem.W.Frag} : ∀ vs H Q E, ¬ spText K 0 vs H Q E := fun vs H Q E h => by
  obtain ⟨v, t, _, _, h, _⟩ := h
  omega
theorem fits {n : Nat} (h : n ≤ 10000) : n ≤ sizeLine := Nat.le_trans h (by decide)
/-- the reader's pile: the lists of operands that are open, the innermost first -/
def room (ts : List Tree) (rest : List (List Tree)) : Nat := if rest.length = 0 then 1 else 2
def stp : List (List Tree) → Nat → Option (List (List Tree))
  | [], _ => none
  | ts :: rest, c => if c = 120 then (if ts.length < room ts rest then some ((ts ++ [.L]) :: rest) else none)
    else if c = 40 then (if ts.length < room ts rest then some ([] :: ts :: rest) else none)
    else if c = 41 then (match ts, rest with
      | [a, b], us :: more => some ((us ++ [.N a b]) :: more)
      | _, _ => none)
    else none
theorem stp_x (ts : List Tree) (rest : List (List Tree)) : stp (ts :: rest) 120 = if ts.length < room ts rest then some ((ts ++ [.L]) :: rest) else none := rfl
theorem stp_o (ts : List Tree) (rest : List (List Tree)) : stp (ts :: rest) 40 = if ts.length < room ts rest then some ([] :: ts :: rest) else none := rfl
theorem stp_c (ts : List Tree) (rest : List (List Tree)) : stp (ts :: rest) 41 = (match ts, rest with
      | [a, b], us :: more => some ((us ++ [.N a b]) :: more)
      | _, _ => none) := rfl
theorem stp_else (ts : List Tree) (rest : List (List Tree)) {c : Nat} (h1 : c ≠ 120) (h2 : c ≠ 40) (h3 : c ≠ 41) : stp (ts :: rest) c = none := by
  show (if c = 120 then _ else if c = 40 then _ else if c = 41 then _ else none) = none
  rw [if_neg h1, if_neg h2, if_neg h3]
def rn : List (List Tree) → List Nat → Option (List (List Tree))
  | st, [] => some st
  | st, c :: cs => (stp st c).bind fun st' => rn st' cs
theorem rn_tree : ∀ (t : Tree) (ts : List Tree) (rest : List (List Tree)) (more : List Nat), ts.length < room ts rest → rn (ts :: rest) (t.cs ++ more) = rn ((ts ++ [t]) :: rest) more
  | .L, ts, rest, more, h => by
    show (stp (ts :: rest) 120).bind (fun st' => rn st' more) = _
    rw [stp_x, if_pos h]
    rfl
  | .N l r, ts, rest, more, h => by
    have e : (Tree.N l r).cs ++ more = 40 :: (l.cs ++ (r.cs ++ (41 :: more))) := by
      show (40 :: (l.cs ++ (r.cs ++ [41]))) ++ more = _
      simp
    rw [e]
    show (stp (ts :: rest) 40).bind (fun st' => rn st' (l.cs ++ (r.cs ++ (41 :: more)))) = _
    have e1 : stp (ts :: rest) 40 = some ([] :: ts :: rest) := by
      rw [stp_o, if_pos h]
    rw [e1]
    show rn ([] :: ts :: rest) (l.cs ++ (r.cs ++ (41 :: more))) = _
    rw [rn_tree l [] (ts :: rest) _ (by show 0 < if (ts :: rest).length = 0 then 1 else 2; rw [if_neg (by simp)]; decide)]
    rw [rn_tree r _ (ts :: rest) _ (by show 1 < if (ts :: rest).length = 0 then 1 else 2; rw [if_neg (by simp)]; decide)]
    rfl
theorem rn_all (t : Tree) : rn [[]] t.cs = some [[t]] := by
  have h := rn_tree t [] [] [] (by decide)
  rw [List.append_nil] at h
  rw [h]
  rfl
theorem tlen {t : Tree} (h : t.sz ≤ 1000) : t.txt.length ≤ 3000 := by
  have h1 := t.cs_len
  have h2 := t.txt_len
  omega
theorem slen (a b : Str) : (a ++ b).length = a.length + b.length := by
  show (a.cps ++ b.cps).size = a.cps.size + b.cps.size
  simp
def spOkText (K : PySem.W.Frag) : Sp := fun vs H Q _ => ∃ (v : V) (t : Tree), vs = [v] ∧ TA K H v t ∧ t.sz ≤ 12 ∧ t.dp ≤ 6 ∧ ∀ H', Same H H' → Q (.str t.txt) H'
def spRoom : Sp := fun vs H Q _ => ∃ (p a : Addr) (as : List Addr) (ws : List V), vs = [.ref p] ∧ H p = some (.lst ((as ++ [a]).map V.ref)) ∧ H a = some (.lst ws) ∧ as.length ≤ 10000 ∧ ws.length ≤ 10000 ∧ Q (.bl (decide ((ws.length : Int) < if as.length = 0 then 1 else 2))) H
/-- reading the text of a tree gives the tree -/
def spRead (K : PySem.W.Frag) : Sp := fun vs H Q _ => ∃ t : Tree, vs = [.str t.txt] ∧ t.sz ≤ 1000 ∧ ∀ (v : V) (H' : Hp), TA K H' v t → Same H H' → Q v H'
def spParse (K : PySem.W.Frag) : Sp := fun vs H Q _ => ∃ t : Tree, vs = [.str t.txt] ∧ t.sz ≤ 12 ∧ t.dp ≤ 6 ∧ ∀ (v : V) (H' : Hp), TA K H' v t → Same H H' → Q v H'
inductive Pile (K : PySem.W.Frag) (G : Hp) : List Addr → List (List Tree) → Prop
  | nil : Pile K G [] []
  | cons {a : Addr} {vs : List V} {ts : List Tree} {as : List Addr} {st : List (List Tree)} : G a = some (.lst vs) → DpAll K G vs (ts.map Tree.d) → Pile K G as st → Pile K G (a :: as) (ts :: st)
theorem Pile.mono {K : PySem.W.Frag} {G G' : Hp} (tp : Tp G G') : ∀ {as : List Addr} {st : List (List Tree)}, (∀ a ∈ as, ∀ o, G a = some o → G' a = some o) → Pile K G as st → Pile K G' as st
  | _, _, _, .nil => .nil
  | _, _, k, .cons h1 h2 h3 => .cons (k _ List.mem_cons_self _ h1) (dpAll_tp tp h2) (Pile.mono tp (fun a ha => k a (List.mem_cons_of_mem _ ha)) h3)
/-- the pile at p, all of it new since H -/
def PileAt (K : PySem.W.Frag) (H G : Hp) (p : Addr) (st : List (List Tree)) : Prop := ∃ as : List Addr, G p = some (.lst (as.reverse.map V.ref)) ∧ as.Nodup ∧ p ∉ as ∧ H p = none ∧ (∀ a ∈ as, H a = none) ∧ Pile K G as st
theorem cs_small : ∀ (t : Tree) (c : Nat), c ∈ t.cs → c < 128
  | .L, c, h => by
    rw [List.mem_singleton.mp h]
    decide
  | .N l r, c, h => by
    have h : c ∈ 40 :: (l.cs ++ (r.cs ++ [41])) := h
    rcases List.mem_cons.mp h with e | h
    · rw [e]
      decide
    rcases List.mem_append.mp h with h | h
    · exact cs_small l c h
    rcases List.mem_append.mp h with h | h
    · exact cs_small r c h
    · rw [List.mem_singleton.mp h]
      decide
theorem txt_ok (t : Tree) : PyData.strOk t.txt = true := by
  show t.cs.toArray.all (· < 0x110000) = true
  rw [Array.all_eq_true']
  intro c hc
  have h := cs_small t c (by simpa using hc)
  exact decide_eq_true (by omega)
/-! ### the twenty errors of the law's words -/
def enames : List Str := ["InvalidTerm", "InvalidText", "InvalidPath", "PathNotFound", "NotRewritable", "TooLarge", "InvalidSize", "InvalidIndex", "InvalidWord", "InvalidStep", "InvalidElement", "InvalidModel", "NestingTooDeep", "InvalidLabel", "DuplicateName", "UnknownName", "LimitReached", "InvalidCommand", "EmptyHistory", "InvalidSnapshot"]
def en (i : Nat) : Str := enames.getD i ""
/-- where their classes stand -/
def Errs (mg : Str → Option Value) (cl : Nat → Addr) : Prop := ∀ i, i < 20 → mg (en i) = some (.ref (cl i))
/-- D's word is the j-th -/
structure Isw (K : PySem.W.Frag) (cl : Nat → Addr) (D : Addr) (j : Nat) : Prop where
  lt : j < 20
  kit : ∀ i, i < 20 → PySem.W.kitOne K (.ref D) (.ref (cl i)) = some (decide (i = j))
/-- the state between two rows: a list of n pairs -/
def NmI (H0 : Hp) (xh : Addr) (j n : Nat) (σ : L2.St) (H : Hp) : Prop := ∃ (L : Addr) (ps : List Addr), σ = [some (.ref xh), some (.ref L), none, none] ∧ Same H0 H ∧ ps.length = n ∧ H L = some (.lst (ps.map V.ref)) ∧
  ∀ i p, ps[i]? = some p → H p = some (.tup [.str (en i), .bl (decide (i = j))])
def tIs (K : PySem.W.Frag) (D xh c : Addr) : TE := fun σ H Q => tCons (tVar 0) (tCons (tC (.ref c)) tNil) σ H fun vs H1 => rIsB K D xh vs H1 Q
def tPr (K : PySem.W.Frag) (D xh : Addr) (cl : Nat → Addr) (i : Nat) : TE := tTup (tCons (tC (.str (en i))) (tCons (tIs K D xh (cl i)) tNil))
theorem tPr_ok {K : PySem.W.Frag} {D xh : Addr} {cl : Nat → Addr} {i j : Nat} {σ : L2.St} {H : Hp} {Q : VK} (hj : Isw K cl D j) (hi : i < 20) (e : σ[0]? = some (some (.ref xh))) (q : ∀ p, H p = none → Q (.ref p) (upd H p (.tup [.str (en i), .bl (decide (i = j))]))) : tPr K D xh cl i σ H Q := by
  exact ⟨_, e, _, _, _, rfl, .own _, hj.kit i hi, two_le, q⟩
theorem pairs_new {H0 H : Hp} {xh : Addr} {j n : Nat} {ps : List Addr} {p1 p2 : Addr} (hl : ps.length = n) (hp : ∀ i p, ps[i]? = some p → H p = some (.tup [.str (en i), .bl (decide (i = j))])) (n1 : H p1 = none)
    (n2 : upd H p1 (.tup [.str (en n), .bl (decide (n = j))]) p2 = none) :
    ∀ i p, (ps ++ [p1, p2])[i]? = some p → upd (upd H p1 (.tup [.str (en n), .bl (decide (n = j))])) p2 (.tup [.str (en (n + 1)), .bl (decide (n + 1 = j))]) p = some (.tup [.str (en i), .bl (decide (i = j))]) := by
  intro i p e
  have s1 := Same.new n1 (.tup [.str (en n), .bl (decide (n = j))])
  have s2 := Same.new n2 (.tup [.str (en (n + 1)), .bl (decide (n + 1 = j))])
  rcases Nat.lt_or_ge i ps.length with lt | ge
  · rw [List.getElem?_append_left lt] at e
    exact s2 _ _ (s1 _ _ (hp i p e))
  · rw [List.getElem?_append_right ge] at e
    obtain ⟨k, rfl⟩ : ∃ k, i = n + k := ⟨i - n, by omega⟩
    rw [show n + k - ps.length = k by omega] at e
    match k, e with
    | 0, e => cases e; exact s2 _ _ upd_same
    | 1, e => cases e; exact upd_same
theorem two_pr {K : PySem.W.Frag} {D xh : Addr} {cl : Nat → Addr} {i j : Nat} {σ : L2.St} {H : Hp} {Q : VK} (hj : Isw K cl D j) (hi : i + 1 < 20) (e : σ[0]? = some (some (.ref xh)))
    (q : ∀ p1 p2 L, H p1 = none → upd H p1 (.tup [.str (en i), .bl (decide (i = j))]) p2 = none → upd (upd H p1 (.tup [.str (en i), .bl (decide (i = j))])) p2 (.tup [.str (en (i + 1)), .bl (decide (i + 1 = j))]) L = none →
      Q (.ref L) (upd (upd (upd H p1 (.tup [.str (en i), .bl (decide (i = j))])) p2 (.tup [.str (en (i + 1)), .bl (decide (i + 1 = j))])) L (.lst [.ref p1, .ref p2]))) :
    tLst (tCons (tPr K D xh cl i) (tCons (tPr K D xh cl (i + 1)) tNil)) σ H Q := by
  show tPr K D xh cl i σ H (fun x H1 => tPr K D xh cl (i + 1) σ H1 fun y H2 => [x, y].length ≤ sizeLine ∧ ∀ p, H2 p = none → Q (.ref p) (upd H2 p (.lst [x, y])))
  refine tPr_ok hj (by omega) e fun p1 n1 => ?_
  refine tPr_ok hj hi e fun p2 n2 => ?_
  exact ⟨two_le, fun L nL => q p1 p2 L n1 n2 nL⟩
theorem nm_first {K : PySem.W.Frag} {D xh : Addr} {cl : Nat → Addr} {j : Nat} {H : Hp} {nx : L2.St → Hp → Prop} (hj : Isw K cl D j) (q : ∀ σ' H', NmI H xh j 2 σ' H' → nx σ' H') :
    tLst (tCons (tPr K D xh cl 0) (tCons (tPr K D xh cl 1) tNil)) [some (.ref xh), none, none, none] H fun x H1 => gName 1 x [some (.ref xh), none, none, none] H1 nx := by
  refine two_pr (i := 0) hj (by decide) rfl fun p1 p2 L n1 n2 nL => ?_
  have s3 := Same.new nL (.lst [.ref p1, .ref p2])
  exact q _ _ ⟨L, [p1, p2], rfl, ((Same.new n1 _).trans (Same.new n2 _)).trans s3, rfl, upd_same, fun i p e => s3 _ _ (pairs_new (ps := []) (n := 0) (H0 := H) (xh := xh) rfl (fun i p e => nomatch e) n1 n2 i p e)⟩
theorem nm_step {K : PySem.W.Frag} {D xh : Addr} {cl : Nat → Addr} {j n : Nat} {H0 H : Hp} {σ : L2.St} {nx : L2.St → Hp → Prop} (hj : Isw K cl D j) (hn : n + 1 < 20) (I : NmI H0 xh j n σ H) (q : ∀ σ' H', NmI H0 xh j (n + 2) σ' H' → nx σ' H') :
    tVar 1 σ H fun x H1 => (tLst (tCons (tPr K D xh cl n) (tCons (tPr K D xh cl (n + 1)) tNil))) σ H1 fun y H2 => rCat x y H2 fun z H3 => gName 1 z σ H3 nx := by
  obtain ⟨L, ps, rfl, sm, hl, hL, hp⟩ := I
  refine ⟨_, rfl, ?_⟩
  refine two_pr hj hn rfl fun p1 p2 b n1 n2 nb => ?_
  have s1 := (Same.new n1 (.tup [.str (en n), .bl (decide (n = j))])).trans (Same.new n2 (.tup [.str (en (n + 1)), .bl (decide (n + 1 = j))]))
  have s2 := Same.new nb (.lst [.ref p1, .ref p2])
  refine ⟨L, b, _, _, rfl, rfl, s2 _ _ (s1 _ _ hL), upd_same, ?_, fun r nr => ?_⟩
  · rw [List.length_map, hl]
    have : 100 ≤ sizeLine := by decide
    show n + 2 ≤ sizeLine
    omega
  · have s3 := Same.new nr (.lst (ps.map V.ref ++ [.ref p1, .ref p2]))
    refine q _ _ ⟨r, ps ++ [p1, p2], rfl, ((sm.trans s1).trans s2).trans s3, by rw [List.length_append, hl]; rfl, by rw [upd_same, List.map_append]; rfl, fun i p e => s3 _ _ (s2 _ _ (pairs_new (H0 := H) (xh := xh) hl hp n1 n2 i p e))⟩
theorem pe_no {X : Cx} {e : Expr} : PE X e (fun _ _ _ => False) := ⟨fun _ _ _ _ _ _ h => h.elim⟩
/-- a word without a field -/
def plainErr (j : Nat) : Bool := decide (j < 20) && !([1, 9, 17, 14, 15, 5, 19].contains j)
theorem plain_in3 : ∀ j, j < 20 → plainErr j = true → inV (.str (en j)) [.str (en 1), .str (en 9), .str (en 17)] = false := by decide +kernel
theorem plain_in2 : ∀ j, j < 20 → plainErr j = true → inV (.str (en j)) [.str (en 14), .str (en 15)] = false := by decide +kernel
theorem plain_big : ∀ j, j < 20 → plainErr j = true → decide (V.str (en j) = V.str (en 5)) = false := by decide +kernel
theorem plain_row : ∀ j, j < 20 → plainErr j = true → decide (V.str (en j) = V.str (en 19)) = false := by decide +kernel
theorem plain_lt {j : Nat} (h : plainErr j = true) : j < 20 := by
  unfold plainErr at h
  rw [Bool.and_eq_true] at h
  exact of_decide_eq_true h.1
theorem FnB.mono {P : Program} {w : World} {K : PySem.W.Frag} {mg : Str → Option Value} {base : Heap} {j k : Nat} {f : Addr} {fd : FuncData} {ps : List Str} {sp : Addr → Value → Option Addr → Sp} (F : FnB P w K mg base j f fd ps sp) (h : j ≤ k) : FnB P w K mg base k f fd ps sp :=
  fun A outer s H args us vs Q xh oh hr => F A outer s H args us vs Q xh oh (hr.mono h)
/-- the law's promise, its table empty -/
def spLawT (K : PySem.W.Frag) (Pt : Addr) : Sp := fun vs H Q _ => ∃ (a : Addr) (ns : List Int), vs = [.ref a] ∧ SqL K H a (ns.map V.int) ∧ H Pt = some (.tbl #[]) ∧ ∀ H', Q (.bl true) H'
/-- a def that may raise, with the context told -/
theorem Fun.okN {P : Program} {w : World} {K : PySem.W.Frag} {mg : Str → Option Value} {base : Heap} {x qual : Str} {st : Stmt} {f : Addr} {fd : FuncData} {N ps : List Str} {k : Nat} {sp : Sp} (F : L2.Fun K x qual st f fd) (S : FnScope N ps (defScope st)) (len : ∀ vs H Q E, sp vs H Q E → vs.length = ps.length)
    (hbody : ∀ (cdv : Value) (A : Around) (outer : List Env) (s : Shared) (H : Hp) (vs : List V) (Q : VK) (E : XK), Room k (A.deeper (PyProof.Rows.envOfC qual (defScope st) s.heap.objs.size f cdv)) → sp vs H Q E →
      ∃ t, PSs (cxOf (L2N.CX P w) P w K mg base N qual (defScope st) f cdv A outer s H E) (defBody st) t ∧ t { nx := fun _ H' => Q .non H', rt := Q } (L2.start N vs) H) : FnOk P w K mg base (L2N.CX P w) (k + 1) f fd ps sp := by
  obtain ⟨oc, od, kV, doc, pm, an, cdv, ct, osl, rfl, lk, hcd⟩ := F.ex
  exact fn_of lk hcd S len fun A outer s H vs Q E hr hsp => hbody cdv A outer s H vs Q E hr hsp
/-- what a raise of the class wants -/
structure ErrC (K : PySem.W.Frag) (mg : Str → Option Value) (x : Str) (C : Addr) : Prop where
  q : PySem.W.excIn K C [.type "ValueError", .type "Exception", .type "BaseException", .type "object"] "ValueError.__new__" = true
  g : mg x = some (.ref C)
  k : PySem.W.keepIn K (.ref C) = true
  b : PySem.W.subIn K (.ref C) (.type "BaseException") = some true
  t : PySem.W.typeIn K (.ref C) = some (.type "type")
theorem passF {X : Cx} : Passes (L2N.CX X.prog X.w) X (fun _ _ _ => False) := fun _ _ _ _ _ _ _ ⟨_, _, _, _, _, _, _, _, _, _, _, _, z⟩ => z.elim
theorem passL {X : Cx} {A : Around} {outer : List Env} {s : Shared} {H : Hp} {E : XK} {scope : Scope} {f c : Addr} : Passes (L2N.CX X.prog X.w) (lamCxN X A outer s H E scope f c) E :=
  L2N.passes_call (X := lamCxN X A outer s H E scope f c) (W := fun cls d _ H => E cls d H) (L2N.takes_of rfl rfl rfl rfl) fun _ _ _ _ h => h
theorem fourV {a b c d : V} : ([a, b, c, d] : List V).length ≤ sizeLine := by show 4 ≤ sizeLine; decide
theorem fiveV {a b c d e : V} : ([a, b, c, d, e] : List V).length ≤ sizeLine := by show 5 ≤ sizeLine; decide
theorem tabs_set {T : List (Addr × Str)} {H H' : Hp} {D : Addr} {xs : List V} (t : LamX.Tabs T H) (hD : H D = some (.lst xs)) (e : ∀ b o, b ≠ D → H b = some o → H' b = some o) : LamX.Tabs T H' := fun p hp => by
  obtain ⟨ps, h1, h2, h3⟩ := t p hp
  refine ⟨ps, e _ _ (fun z => by rw [z, hD] at h1; cases h1) h1, h2, fun pos cv ec => ?_⟩
  obtain ⟨c, rfl, hc⟩ := h3 pos cv ec
  exact ⟨c, rfl, e _ _ (fun z => by rw [z, hD] at hc; cases hc) hc⟩
theorem passD {P : Program} {w : World} {K : PySem.W.Frag} {mg : Str → Option Value} {base : Heap} {N : List Str} {q : Str} {sc : Scope} {f : Addr} {cdv : Value} {A : Around} {outer : List Env} {s : Shared} {H : Hp} {E : XK} : Passes (L2N.CX P w) (cxOf (L2N.CX P w) P w K mg base N q sc f cdv A outer s H E) E :=
  L2N.passes_call (X := cxOf (L2N.CX P w) P w K mg base N q sc f cdv A outer s H E) (W := fun cls d _ H => E cls d H) (L2N.takes_of rfl rfl rfl rfl) fun _ _ _ _ h => h
/-! ### nested tuples of any form -/
mutual
def tupD : PyData → Bool
  | .tuple xs => tupL xs
  | .none | .bool _ | .int _ | .str _ | .list _ | .dict _ => false
def tupL : List PyData → Bool
  | [] => true
  | x :: xs => tupD x && tupL xs
end
mutual
def ndD : PyData → Nat
  | .tuple xs => ndL xs + 1
  | .none | .bool _ | .int _ | .str _ | .list _ | .dict _ => 1
def ndL : List PyData → Nat
  | [] => 0
  | x :: xs => ndD x + ndL xs
end
def add2 : Option Nat → Option Nat → Option Nat
  | some a, some b => some (a + b)
  | _, _ => none
theorem add2_none (o : Option Nat) : add2 o none = none := by cases o <;> rfl
theorem add2_assoc (a b c : Option Nat) : add2 (add2 a b) c = add2 a (add2 b c) := by
  cases a <;> cases b <;> cases c <;> first | rfl | exact congrArg some (Nat.add_assoc _ _ _)
theorem add2_zero (a : Option Nat) : add2 a (some 0) = a := by cases a <;> rfl
/-- how many generators, where the depth is at most b -/
def szD : Nat → PyData → Option Nat
  | _, .tuple [] => some 1
  | b + 1, .tuple [x, y] => add2 (szD b x) (szD b y)
  | _, _ => none
def okd (d : PyData) : Bool := match szD 6 d with
  | some n => decide (n ≤ 12)
  | none => false
def isPr : PyData → Bool
  | .tuple [_, _] => true
  | _ => false
def isE : PyData → Bool
  | .tuple [] => true
  | _ => false
theorem eqvE {d : PyData} (h : tupD d = true) : PyData.eqv d (.tuple []) = isE d := by
  cases d with
  | tuple xs => cases xs <;> rfl
  | none => exact absurd h (by decide)
  | bool _ => exact absurd h (by simp [tupD])
  | int _ => exact absurd h (by simp [tupD])
  | str _ => exact absurd h (by simp [tupD])
  | list _ => exact absurd h (by simp [tupD])
  | dict _ => exact absurd h (by simp [tupD])
theorem szD_E (b : Nat) : szD b (.tuple []) = some 1 := by cases b <;> rfl
theorem szD_pr (b : Nat) (x y : PyData) : szD (b + 1) (.tuple [x, y]) = add2 (szD b x) (szD b y) := rfl
theorem szD_bad {b : Nat} {d : PyData} (h1 : isE d = false) (h2 : isPr d = false ∨ b = 0) : szD b d = none := by
  cases d with
  | tuple xs =>
    match xs, b, h1, h2 with
    | [], _, h1, _ => exact absurd h1 (by decide)
    | [x, y], 0, _, _ => rfl
    | [x, y], b + 1, _, .inl h => exact Bool.noConfusion h
    | [x], 0, _, _ => rfl
    | [x], b + 1, _, _ => rfl
    | x :: y :: z :: r, 0, _, _ => rfl
    | x :: y :: z :: r, b + 1, _, _ => rfl
  | none => cases b <;> rfl
  | bool _ => cases b <;> rfl
  | int _ => cases b <;> rfl
  | str _ => cases b <;> rfl
  | list _ => cases b <;> rfl
  | dict _ => cases b <;> rfl
def rem : List (V × PyData × Nat) → Option Nat
  | [] => some 0
  | p :: ps => add2 (szD (6 - p.2.2) p.2.1) (rem ps)
theorem rem_app : ∀ ps qs : List (V × PyData × Nat), rem (ps ++ qs) = add2 (rem ps) (rem qs)
  | [], qs => by
    show rem qs = add2 (some 0) (rem qs)
    cases rem qs with
    | none => rfl
    | some n => exact congrArg some (Nat.zero_add n).symm
  | p :: ps, qs => by
    show add2 (szD (6 - p.2.2) p.2.1) (rem (ps ++ qs)) = add2 (add2 (szD (6 - p.2.2) p.2.1) (rem ps)) (rem qs)
    rw [rem_app ps qs, add2_assoc]
theorem rem_snoc (ps : List (V × PyData × Nat)) (p : V × PyData × Nat) : rem (ps ++ [p]) = add2 (rem ps) (szD (6 - p.2.2) p.2.1) := by
  rw [rem_app]
  show add2 (rem ps) (add2 _ (some 0)) = _
  rw [add2_zero]
def fnl (n : Nat) : Option Nat → Bool
  | some m => decide (n + m ≤ 12)
  | none => false
theorem fnl_one (n : Nat) (o : Option Nat) : fnl n (add2 o (some 1)) = fnl (n + 1) o := by
  cases o with
  | none => rfl
  | some m =>
    show decide (n + (m + 1) ≤ 12) = decide (n + 1 + m ≤ 12)
    rw [show n + (m + 1) = n + 1 + m by omega]
theorem fnl_big {n : Nat} (h : 12 < n) (o : Option Nat) : fnl n o = false := by
  cases o with
  | none => rfl
  | some m => exact decide_eq_false (by omega)
theorem okd_fnl (v : V) (d : PyData) : okd d = fnl 0 (rem [(v, d, 0)]) := by
  show okd d = fnl 0 (add2 (szD 6 d) (some 0))
  rw [add2_zero]
  unfold okd
  cases szD 6 d with
  | none => rfl
  | some n =>
    show decide (n ≤ 12) = decide (0 + n ≤ 12)
    rw [Nat.zero_add]
def ndn (ps : List (V × PyData × Nat)) : Nat := (ps.map fun p => ndD p.2.1).sum
theorem ndn_snoc (ps : List (V × PyData × Nat)) (p) : ndn (ps ++ [p]) = ndn ps + ndD p.2.1 := by
  unfold ndn
  rw [List.map_append, List.sum_append]
  simp
theorem ndD_pos : ∀ d : PyData, 0 < ndD d := by
  intro d
  cases d with
  | tuple xs => exact Nat.succ_pos _
  | none => decide
  | bool _ => exact Nat.one_pos
  | int _ => exact Nat.one_pos
  | str _ => exact Nat.one_pos
  | list _ => exact Nat.one_pos
  | dict _ => exact Nat.one_pos
theorem ndn_len : ∀ ps : List (V × PyData × Nat), ps.length ≤ ndn ps
  | [] => Nat.zero_le _
  | p :: ps => by
    have h := ndn_len ps
    have h2 := ndD_pos p.2.1
    show ps.length + 1 ≤ (ndD p.2.1 :: ps.map fun p => ndD p.2.1).sum
    rw [List.sum_cons]
    unfold ndn at h
    omega
/-- a value that is a nested tuple -/
structure NT (K : PySem.W.Frag) (H : Hp) (v : V) (d : PyData) : Prop where
  dp : Dp K H v d
  tup : tupD d = true
  shp : SeqAt.shaped d = true
mutual
theorem dp_tp {K : PySem.W.Frag} {H H' : Hp} (e : Tp H H') : ∀ (d : PyData) {v : V}, tupD d = true → Dp K H v d → Dp K H' v d
  | .tuple ds, _, t, h => by
    cases h with
    | tup hs ha => exact .tup (e.sqT hs) (dpAll_tpD e ds t ha)
  | .none, _, t, _ => absurd t (by decide)
  | .bool _, _, t, _ => absurd t (by simp [tupD])
  | .int _, _, t, _ => absurd t (by simp [tupD])
  | .str _, _, t, _ => absurd t (by simp [tupD])
  | .list _, _, t, _ => absurd t (by simp [tupD])
  | .dict _, _, t, _ => absurd t (by simp [tupD])
theorem dpAll_tpD {K : PySem.W.Frag} {H H' : Hp} (e : Tp H H') : ∀ (ds : List PyData) {vs : List V}, tupL ds = true → DpAll K H vs ds → DpAll K H' vs ds
  | [], _, _, h => by
    cases h
    exact .nil
  | d :: ds, _, t, h => by
    have t' : tupD d = true ∧ tupL ds = true := Bool.and_eq_true_iff.mp t
    cases h with
    | cons h1 h2 => exact .cons (dp_tp e d t'.1 h1) (dpAll_tpD e ds t'.2 h2)
end
theorem NT.tp {K : PySem.W.Frag} {H H' : Hp} {v : V} {d : PyData} (e : Tp H H') (h : NT K H v d) : NT K H' v d := ⟨dp_tp e d h.tup h.dp, h.tup, h.shp⟩
theorem NT.inv {K : PySem.W.Frag} {H : Hp} {v : V} {d : PyData} (h : NT K H v d) : ∃ a xs ds, v = .ref a ∧ d = .tuple ds ∧ SqT K H a xs ∧ DpAll K H xs ds := by
  obtain ⟨h1, h2, _⟩ := h
  cases h1 with
  | tup hs ha => exact ⟨_, _, _, rfl, rfl, hs, ha⟩
  | non => exact absurd h2 (by decide)
  | bl b => exact absurd h2 (by simp [tupD])
  | int i => exact absurd h2 (by simp [tupD])
  | str z => exact absurd h2 (by simp [tupD])
  | lst _ _ => exact absurd h2 (by simp [tupD])
theorem shaped_sub {ds : List PyData} {d : PyData} (h : SeqAt.shaped (.tuple ds) = true) (hm : d ∈ ds) : SeqAt.shaped d = true := by
  have hc : PyData.canLayAll0 ds = true := SeqAt.canLay_of_shaped h
  have hd := SeqAt.depth_of_shaped h
  have hd' : (PyData.tuple ds).depth = PyData.depthAll ds + 1 := rfl
  have hdi := depth_at hm
  unfold SeqAt.shaped
  rw [shaped_at hc hm, decide_eq_true (by omega)]
  rfl
theorem NT.pr {K : PySem.W.Frag} {H : Hp} {v : V} {d : PyData} (h : NT K H v d) (hp : isPr d = true) : ∃ a x y d1 d2, v = .ref a ∧ d = .tuple [d1, d2] ∧ SqT K H a [x, y] ∧ NT K H x d1 ∧ NT K H y d2 := by
  obtain ⟨a, xs, ds, rfl, rfl, hS, hA⟩ := h.inv
  obtain ⟨d1, d2, rfl⟩ : ∃ d1 d2, ds = [d1, d2] := by
    rcases ds with _ | ⟨d1, _ | ⟨d2, _ | ⟨d3, r⟩⟩⟩
    · exact absurd hp (by simp [isPr])
    · exact absurd hp (by simp [isPr])
    · exact ⟨d1, d2, rfl⟩
    · exact absurd hp (by simp [isPr])
  cases hA with
  | cons h1 h2 =>
    cases h2 with
    | cons h2 h3 =>
      cases h3
      have t : (tupD d1 && (tupD d2 && true)) = true := h.tup
      have t1 := Bool.and_eq_true_iff.mp t
      have t2 := Bool.and_eq_true_iff.mp t1.2
      exact ⟨a, _, _, d1, d2, rfl, rfl, hS, ⟨h1, t1.1, shaped_sub h.shp (by simp)⟩, ⟨h2, t2.1, shaped_sub h.shp (by simp)⟩⟩
theorem tree_tup : ∀ t : Tree, tupD t.d = true
  | .L => rfl
  | .N l r => by
    show (tupD l.d && (tupD r.d && true)) = true
    rw [tree_tup l, tree_tup r]
    rfl
theorem tree_nd : ∀ t : Tree, ndD t.d = t.nodes
  | .L => rfl
  | .N l r => by
    show ndD l.d + (ndD r.d + 0) + 1 = l.nodes + r.nodes + 1
    rw [tree_nd l, tree_nd r]
    omega
theorem tree_nodes : ∀ t : Tree, t.nodes + 1 = 2 * t.sz
  | .L => rfl
  | .N l r => by
    have h1 := tree_nodes l
    have h2 := tree_nodes r
    show l.nodes + r.nodes + 1 + 1 = 2 * (l.sz + r.sz)
    omega
theorem tree_szD : ∀ (t : Tree) (b : Nat), szD b t.d = if t.dp ≤ b then some t.sz else none
  | .L, b => by
    show szD b (.tuple []) = if 0 ≤ b then some 1 else none
    rw [if_pos (Nat.zero_le _)]
    exact szD_E b
  | .N l r, 0 => by
    show none = if max l.dp r.dp + 1 ≤ 0 then some (l.sz + r.sz) else none
    rw [if_neg (by omega)]
  | .N l r, b + 1 => by
    show add2 (szD b l.d) (szD b r.d) = if max l.dp r.dp + 1 ≤ b + 1 then some (l.sz + r.sz) else none
    rw [tree_szD l b, tree_szD r b]
    by_cases h1 : l.dp ≤ b
    · by_cases h2 : r.dp ≤ b
      · rw [if_pos h1, if_pos h2, if_pos (by omega)]
        rfl
      · rw [if_neg h2, add2_none, if_neg (show ¬ (max l.dp r.dp + 1 ≤ b + 1) by omega)]
    · rw [if_neg h1, if_neg (show ¬ (max l.dp r.dp + 1 ≤ b + 1) by omega)]
      rfl
theorem tree_okd (t : Tree) : okd t.d = (decide (t.dp ≤ 6) && decide (t.sz ≤ 12)) := by
  unfold okd
  rw [tree_szD]
  by_cases h : t.dp ≤ 6
  · rw [if_pos h, decide_eq_true h]
    rfl
  · rw [if_neg h, decide_eq_false h]
    rfl
theorem szD_tree : ∀ (b : Nat) (d : PyData) (n : Nat), szD b d = some n → ∃ t : Tree, d = t.d ∧ t.sz = n ∧ t.dp ≤ b := by
  intro b
  induction b with
  | zero =>
    intro d n h
    by_cases e : isE d = true
    · cases d with
      | tuple xs =>
        cases xs with
        | nil => exact ⟨.L, rfl, Option.some.inj h, Nat.zero_le _⟩
        | cons _ _ => exact absurd e (by simp [isE])
      | none => exact absurd e (by simp [isE])
      | bool _ => exact absurd e (by simp [isE])
      | int _ => exact absurd e (by simp [isE])
      | str _ => exact absurd e (by simp [isE])
      | list _ => exact absurd e (by simp [isE])
      | dict _ => exact absurd e (by simp [isE])
    · rw [szD_bad (by simpa using e) (.inr rfl)] at h
      cases h
  | succ b ih =>
    intro d n h
    by_cases e : isE d = true
    · cases d with
      | tuple xs =>
        cases xs with
        | nil => exact ⟨.L, rfl, Option.some.inj h, Nat.zero_le _⟩
        | cons _ _ => exact absurd e (by simp [isE])
      | none => exact absurd e (by simp [isE])
      | bool _ => exact absurd e (by simp [isE])
      | int _ => exact absurd e (by simp [isE])
      | str _ => exact absurd e (by simp [isE])
      | list _ => exact absurd e (by simp [isE])
      | dict _ => exact absurd e (by simp [isE])
    · by_cases e2 : isPr d = true
      · cases d with
        | tuple xs =>
          match xs, e2, h with
          | [x, y], _, h =>
            have h0 : add2 (szD b x) (szD b y) = some n := h
            clear h
            cases h1 : szD b x with
            | none => rw [h1] at h0; cases h0
            | some m =>
              cases h2 : szD b y with
              | none => rw [h2, add2_none] at h0; cases h0
              | some k =>
                rw [h1, h2] at h0
                have h' : m + k = n := Option.some.inj h0
                obtain ⟨t1, rfl, q1, r1⟩ := ih x m h1
                obtain ⟨t2, rfl, q2, r2⟩ := ih y k h2
                exact ⟨.N t1 t2, rfl, by show t1.sz + t2.sz = n; omega, by show max t1.dp t2.dp + 1 ≤ b + 1; omega⟩
        | none => exact absurd e2 (by simp [isPr])
        | bool _ => exact absurd e2 (by simp [isPr])
        | int _ => exact absurd e2 (by simp [isPr])
        | str _ => exact absurd e2 (by simp [isPr])
        | list _ => exact absurd e2 (by simp [isPr])
        | dict _ => exact absurd e2 (by simp [isPr])
      · rw [szD_bad (by simpa using e) (.inl (by simpa using e2))] at h
        cases h
theorem okd_tree {d : PyData} (h : okd d = true) : ∃ t : Tree, d = t.d ∧ t.sz ≤ 12 ∧ t.dp ≤ 6 := by
  unfold okd at h
  cases e : szD 6 d with
  | none => rw [e] at h; cases h
  | some n =>
    rw [e] at h
    obtain ⟨t, h1, h2, h3⟩ := szD_tree 6 d n e
    exact ⟨t, h1, by rw [h2]; exact of_decide_eq_true h, h3⟩
theorem NT.of {K : PySem.W.Frag} {H : Hp} {v : V} {t : Tree} (h : TA K H v t) (hd : t.dp ≤ 63) : NT K H v t.d := ⟨h, tree_tup t, Tree.shaped hd⟩
def spIsPairD (K : PySem.W.Frag) : Sp := fun vs H Q _ => ∃ (v : V) (d : PyData), vs = [v] ∧ NT K H v d ∧ Q (.bl (isPr d)) H
def spIsTerm (K : PySem.W.Frag) : Sp := fun vs H Q _ => ∃ (v : V) (d : PyData), vs = [v] ∧ NT K H v d ∧ ndD d ≤ 1000 ∧ ∀ H', Same H H' → Q (.bl (okd d)) H'
/-- check_term: nothing, or the error -/
def spChk (K : PySem.W.Frag) (C : Addr) : Sp := fun vs H Q E => ∃ (v : V) (d : PyData), vs = [v] ∧ NT K H v d ∧ ndD d ≤ 1000 ∧ (okd d = true → ∀ H', Same H H' → Q .non H') ∧ (okd d = false → ∀ H', Same H H' → E (.ref C) none H')
def ItemD (K : PySem.W.Frag) (H : Hp) (p : V × PyData × Nat) : Prop := ∃ (a : Addr) (u : V), p.1 = .ref a ∧ SqT K H a [u, .int p.2.2] ∧ NT K H u p.2.1 ∧ p.2.2 ≤ 6
theorem ItemD.mono {K : PySem.W.Frag} {H H' : Hp} (e : Tp H H') {p : V × PyData × Nat} (h : ItemD K H p) : ItemD K H' p := by
  obtain ⟨a, u, h1, h2, h3, h4⟩ := h
  exact ⟨a, u, h1, e.sqT h2, h3.tp e, h4⟩
/-! ### picking -/
theorem But.sqL {K : PySem.W.Frag} {r l : Addr} {H H' : Hp} {xs : List V} (e : But r H H') (n : l ≠ r) (h : SqL K H l xs) : SqL K H' l xs := by
  rcases h with (h | ⟨o, h⟩) | h
  · exact .inl (.inl (e _ _ n h))
  · exact .inl (.inr ⟨o, e _ _ n h⟩)
  · exact .inr h
theorem But.sqT {K : PySem.W.Frag} {r l : Addr} {H H' : Hp} {xs : List V} (e : But r H H') (n : l ≠ r) (h : SqT K H l xs) : SqT K H' l xs := by
  rcases h with (h | ⟨o, h⟩) | h
  · exact .inl (.inl (e _ _ n h))
  · exact .inl (.inr ⟨o, e _ _ n h⟩)
  · exact .inr h
def spPick (K : PySem.W.Frag) : Sp := fun vs H Q _ => ∃ (r l : Addr) (xs : List V), vs = [.ref r, .ref l] ∧ Rng H r ∧ (SqL K H l xs ∨ SqT K H l xs) ∧ 0 < xs.length ∧ xs.length ≤ 10000 ∧ l ≠ r ∧ ∀ v H', v ∈ xs → Rng H' r → But r H H' → Q v H'
theorem rix_in {K : PySem.W.Frag} {H : Hp} {a : Addr} {xs : List V} {n : Int} {Q : VK} (h : SqL K H a xs ∨ SqT K H a xs) (h0 : 0 ≤ n) (h1 : n < xs.length) (q : ∀ v, v ∈ xs → Q v H) : rIx K (.ref a) (.int n) H Q := by
  have lt : n.toNat < xs.length := by omega
  obtain ⟨v, hi⟩ : ∃ v, xs[n.toNat]? = some v := ⟨_, List.getElem?_eq_getElem lt⟩
  have hq := q v (List.mem_of_getElem? hi)
  have e : atI xs n = some v := by
    have e : n = ((n.toNat : Nat) : Int) := by omega
    rw [e]
    exact atI_nat hi
  rcases h with h | h
  · exact .inl ⟨a, xs, n, v, rfl, rfl, h, e, hq⟩
  · exact .inr (.inl ⟨a, xs, n, v, rfl, rfl, h, e, hq⟩)
/-! ### written nested tuples -/
def Mk (K : PySem.W.Frag) (te : TE) (d : PyData) : Prop := ∀ σ H (Q : VK), (∀ v H', Same H H' → Dp K H' v d → Q v H') → te σ H Q
theorem mk0 {K : PySem.W.Frag} : Mk K (tTup tNil) (.tuple []) := fun σ H Q q => ⟨zero_le', fun p np => q _ _ (Same.new np _) (Dp.tup (SqT.here upd_same) .nil)⟩
theorem mk1 {K : PySem.W.Frag} {e : TE} {d : PyData} (h : Mk K e d) : Mk K (tTup (tCons e tNil)) (.tuple [d]) := fun σ H Q q =>
  h σ H _ fun v H1 s1 h1 => ⟨one_le, fun p np => q _ _ (s1.trans (Same.new np _)) (Dp.tup (SqT.here upd_same) (.cons (dp_same (Same.new np _) _ h1) .nil))⟩
theorem mk2 {K : PySem.W.Frag} {e1 e2 : TE} {d1 d2 : PyData} (h : Mk K e1 d1) (h' : Mk K e2 d2) : Mk K (tTup (tCons e1 (tCons e2 tNil))) (.tuple [d1, d2]) := fun σ H Q q =>
  h σ H _ fun v H1 s1 h1 => h' σ H1 _ fun v2 H2 s2 h2 => ⟨two_le, fun p np => q _ _ ((s1.trans s2).trans (Same.new np _)) (Dp.tup (SqT.here upd_same) (.cons (dp_same (s2.trans (Same.new np _)) _ h1) (.cons (dp_same (Same.new np _) _ h2) .nil)))⟩
theorem mk3 {K : PySem.W.Frag} {e1 e2 e3 : TE} {d1 d2 d3 : PyData} (h : Mk K e1 d1) (h' : Mk K e2 d2) (h'' : Mk K e3 d3) : Mk K (tTup (tCons e1 (tCons e2 (tCons e3 tNil)))) (.tuple [d1, d2, d3]) := fun σ H Q q =>
  h σ H _ fun v H1 s1 h1 => h' σ H1 _ fun v2 H2 s2 h2 => h'' σ H2 _ fun v3 H3 s3 h3 => ⟨by show 3 ≤ sizeLine; decide, fun p np => q _ _ (((s1.trans s2).trans s3).trans (Same.new np _)) (Dp.tup (SqT.here upd_same) (.cons (dp_same ((s2.trans s3).trans (Same.new np _)) _ h1) (.cons (dp_same (s3.trans (Same.new np _)) _ h2) (.cons (dp_same (Same.new np _) _ h3) .nil))))⟩
theorem lst5 {K : PySem.W.Frag} {e1 e2 e3 e4 e5 : TE} {d1 d2 d3 d4 d5 : PyData} (h1 : Mk K e1 d1) (h2 : Mk K e2 d2) (h3 : Mk K e3 d3) (h4 : Mk K e4 d4) (h5 : Mk K e5 d5) {i : Nat} {B : TS} {D : Ends} {σ : L2.St} {H : Hp}
    (q : ∀ a v1 v2 v3 v4 v5 H', Same H H' → H a = none → H' a = some (.lst [v1, v2, v3, v4, v5]) → DpAll K H' [v1, v2, v3, v4, v5] [d1, d2, d3, d4, d5] → B D (σ.set i (some (.ref a))) H') : tSeq (tAsg (tLst (tCons e1 (tCons e2 (tCons e3 (tCons e4 (tCons e5 tNil)))))) (gName i)) B D σ H :=
  h1 σ H _ fun v1 H1 s1 k1 => h2 σ H1 _ fun v2 H2 s2 k2 => h3 σ H2 _ fun v3 H3 s3 k3 => h4 σ H3 _ fun v4 H4 s4 k4 => h5 σ H4 _ fun v5 H5 s5 k5 => ⟨fiveV, fun a na => by
    have sa := Same.new na (.lst [v1, v2, v3, v4, v5])
    exact q a v1 v2 v3 v4 v5 _ (s1.trans (s2.trans (s3.trans (s4.trans (s5.trans sa))))) ((s1.trans (s2.trans (s3.trans (s4.trans s5)))).free na) upd_same
      (.cons (dp_same (s2.trans (s3.trans (s4.trans (s5.trans sa)))) _ k1) (.cons (dp_same (s3.trans (s4.trans (s5.trans sa))) _ k2) (.cons (dp_same (s4.trans (s5.trans sa)) _ k3) (.cons (dp_same (s5.trans sa) _ k4) (.cons (dp_same sa _ k5) .nil)))))⟩
/-- a value that no term is -/
def BadV (K : PySem.W.Frag) (H : Hp) (v : V) : Prop := ∃ d, NT K H v d ∧ ndD d ≤ 1000 ∧ okd d = false
theorem BadV.tp {K : PySem.W.Frag} {H H' : Hp} {v : V} (e : Tp H H') (h : BadV K H v) : BadV K H' v := by
  obtain ⟨d, h1, h2⟩ := h
  exact ⟨d, h1.tp e, h2⟩
def spBadT (K : PySem.W.Frag) : Sp := fun vs H Q _ => ∃ r : Addr, vs = [.ref r] ∧ Rng H r ∧ ∀ v H', BadV K H' v → Rng H' r → But r H H' → Q v H'
theorem BadV.tree {K : PySem.W.Frag} {H : Hp} {v : V} {t : Tree} (h : TA K H v t) (hd : t.dp ≤ 63) (hz : t.sz ≤ 100) (no : 6 < t.dp ∨ 12 < t.sz) : BadV K H v := by
  have e := tree_nodes t
  refine ⟨t.d, NT.of h hd, by rw [tree_nd]; omega, ?_⟩
  rw [tree_okd]
  rcases no with no | no
  · rw [decide_eq_false (by omega)]
    rfl
  · rw [decide_eq_false (show ¬ t.sz ≤ 12 by omega), Bool.and_false]
/-! ### full expansions -/
namespace Tree
def sub : Tree → Tree → Tree
  | L, a => N a L
  | N l r, a => N (l.sub a) (r.sub a)
def fe : Tree → Tree
  | L => L
  | N a b => b.fe.sub a.fe
def fsz : Tree → Nat
  | L => 1
  | N a b => (a.fsz + 1) * b.fsz
theorem sub_sz (a : Tree) : ∀ b : Tree, (b.sub a).sz = (a.sz + 1) * b.sz
  | L => by
    show a.sz + 1 = (a.sz + 1) * 1
    omega
  | N l r => by
    show (l.sub a).sz + (r.sub a).sz = (a.sz + 1) * (l.sz + r.sz)
    rw [sub_sz a l, sub_sz a r, Nat.mul_add]
theorem fe_sz : ∀ t : Tree, t.fe.sz = t.fsz
  | L => rfl
  | N a b => by
    show (b.fe.sub a.fe).sz = (a.fsz + 1) * b.fsz
    rw [sub_sz, fe_sz a, fe_sz b]
theorem fsz_pos (t : Tree) : 0 < t.fsz := by
  rw [← fe_sz]
  exact sz_pos _
theorem fsz_le : ∀ t : Tree, t.fsz + 1 ≤ 4 ^ t.sz
  | L => by decide
  | N a b => by
    have h1 := fsz_le a
    have h2 := fsz_le b
    show (a.fsz + 1) * b.fsz + 1 ≤ 4 ^ (a.sz + b.sz)
    rw [Nat.pow_add]
    have h3 : (a.fsz + 1) * (b.fsz + 1) ≤ 4 ^ a.sz * 4 ^ b.sz := Nat.mul_le_mul h1 h2
    rw [Nat.mul_succ] at h3
    omega
theorem sub_dp (a : Tree) : ∀ b : Tree, (b.sub a).dp ≤ b.dp + a.dp + 1
  | L => by
    show max a.dp 0 + 1 ≤ 0 + a.dp + 1
    omega
  | N l r => by
    have h1 := sub_dp a l
    have h2 := sub_dp a r
    show max (l.sub a).dp (r.sub a).dp + 1 ≤ max l.dp r.dp + 1 + a.dp + 1
    omega
theorem fe_dp : ∀ t : Tree, t.fe.dp + 1 ≤ t.sz
  | L => Nat.le_refl _
  | N a b => by
    have h1 := fe_dp a
    have h2 := fe_dp b
    have h3 := sub_dp a.fe b.fe
    show (b.fe.sub a.fe).dp + 1 ≤ a.sz + b.sz
    omega
/-- an expansion at the root, at a path -/
def ex0 : Tree → Option Tree
  | N a (N b c) => some (N (N a b) (N a c))
  | N _ L => none
  | L => none
def ex : Tree → List Bool → Option Tree
  | t, [] => t.ex0
  | L, _ :: _ => none
  | N l r, b :: p => match b with
    | false => (l.ex p).map fun l' => N l' r
    | true => (r.ex p).map fun r' => N l r'
theorem ex_nil (t : Tree) : t.ex [] = t.ex0 := by cases t <;> rfl
theorem ex_0 (l r : Tree) (p : List Bool) : (N l r).ex (false :: p) = (l.ex p).map fun l' => N l' r := rfl
theorem ex_1 (l r : Tree) (p : List Bool) : (N l r).ex (true :: p) = (r.ex p).map fun r' => N l r' := rfl
def rl : Tree → List (List Bool) → Option Tree
  | t, [] => some t
  | t, p :: ps => (t.ex p).bind fun t' => t'.rl ps
theorem rl_app : ∀ (ps qs : List (List Bool)) (t : Tree), t.rl (ps ++ qs) = (t.rl ps).bind fun t' => t'.rl qs
  | [], _, _ => rfl
  | p :: ps, qs, t => by
    show (t.ex p).bind (fun t' => t'.rl (ps ++ qs)) = ((t.ex p).bind fun t' => t'.rl ps).bind fun t' => t'.rl qs
    cases t.ex p with
    | none => rfl
    | some t' => exact rl_app ps qs t'
theorem rl_0 : ∀ (ps : List (List Bool)) (l r l' : Tree), l.rl ps = some l' → (N l r).rl (ps.map (false :: ·)) = some (N l' r)
  | [], l, r, l', h => by
    cases h
    rfl
  | p :: ps, l, r, l', h => by
    have h : (l.ex p).bind (fun t' => t'.rl ps) = some l' := h
    show ((N l r).ex (false :: p)).bind (fun t' => t'.rl (ps.map (false :: ·))) = _
    rw [ex_0]
    cases e : l.ex p with
    | none =>
      rw [e] at h
      cases h
    | some m =>
      rw [e] at h
      exact rl_0 ps m r l' h
theorem rl_1 : ∀ (ps : List (List Bool)) (l r r' : Tree), r.rl ps = some r' → (N l r).rl (ps.map (true :: ·)) = some (N l r')
  | [], l, r, r', h => by
    cases h
    rfl
  | p :: ps, l, r, r', h => by
    have h : (r.ex p).bind (fun t' => t'.rl ps) = some r' := h
    show ((N l r).ex (true :: p)).bind (fun t' => t'.rl (ps.map (true :: ·))) = _
    rw [ex_1]
    cases e : r.ex p with
    | none =>
      rw [e] at h
      cases h
    | some m =>
      rw [e] at h
      exact rl_1 ps l m r' h
/-- the paths of the pairs, in the order of texts -/
def nd : Tree → List (List Bool)
  | L => []
  | N l r => [] :: (l.nd.map (false :: ·) ++ r.nd.map (true :: ·))
def fp : Tree → List (List Bool)
  | L => []
  | N a b => (a.fp.map (false :: ·) ++ b.fp.map (true :: ·)) ++ b.fe.nd
theorem rl_nd (a : Tree) : ∀ b : Tree, (N a b).rl b.nd = some (b.sub a)
  | L => rfl
  | N l r => by
    show ((N a (N l r)).ex []).bind (fun t' => t'.rl (l.nd.map (false :: ·) ++ r.nd.map (true :: ·))) = _
    show (N (N a l) (N a r)).rl (l.nd.map (false :: ·) ++ r.nd.map (true :: ·)) = _
    rw [rl_app, rl_0 l.nd (N a l) (N a r) (l.sub a) (rl_nd a l)]
    exact rl_1 r.nd (l.sub a) (N a r) (r.sub a) (rl_nd a r)
theorem rl_fp : ∀ t : Tree, t.rl t.fp = some t.fe
  | L => rfl
  | N a b => by
    show (N a b).rl ((a.fp.map (false :: ·) ++ b.fp.map (true :: ·)) ++ b.fe.nd) = _
    rw [rl_app, rl_app, rl_0 a.fp a b a.fe (rl_fp a)]
    show ((N a.fe b).rl (b.fp.map (true :: ·))).bind (fun t' => t'.rl b.fe.nd) = _
    rw [rl_1 b.fp a.fe b b.fe (rl_fp b)]
    exact rl_nd a.fe b.fe
theorem ex_dp : ∀ (t : Tree) (p : List Bool) (t' : Tree), t.ex p = some t' → t.dp ≤ t'.dp
  | N a (N b c), [], t', h => by
    cases h
    show max a.dp (max b.dp c.dp + 1) + 1 ≤ max (max a.dp b.dp + 1) (max a.dp c.dp + 1) + 1
    omega
  | N _ L, [], _, h => by cases h
  | L, [], _, h => by cases h
  | L, _ :: _, _, h => by cases h
  | N l r, false :: p, t', h => by
    rw [ex_0] at h
    cases e : l.ex p with
    | none =>
      rw [e] at h
      cases h
    | some m =>
      rw [e] at h
      cases h
      have := ex_dp l p m e
      show max l.dp r.dp + 1 ≤ max m.dp r.dp + 1
      omega
  | N l r, true :: p, t', h => by
    rw [ex_1] at h
    cases e : r.ex p with
    | none =>
      rw [e] at h
      cases h
    | some m =>
      rw [e] at h
      cases h
      have := ex_dp r p m e
      show max l.dp r.dp + 1 ≤ max l.dp m.dp + 1
      omega
theorem rl_dp : ∀ (ps : List (List Bool)) (t t' : Tree), t.rl ps = some t' → t.dp ≤ t'.dp
  | [], t, t', h => by
    cases h
    exact Nat.le_refl _
  | p :: ps, t, t', h => by
    have h : (t.ex p).bind (fun t' => t'.rl ps) = some t' := h
    cases e : t.ex p with
    | none =>
      rw [e] at h
      cases h
    | some m =>
      rw [e] at h
      exact Nat.le_trans (ex_dp t p m e) (rl_dp ps m t' h)
end Tree
/-! ### texts of paths -/
def pcs (p : List Bool) : List Nat := p.map fun b => if b then 49 else 48
def ptx (p : List Bool) : Str := ⟨(pcs p).toArray⟩
def Tree.st : Tree → List Bool → Option Tree
  | t, [] => some t
  | .L, _ :: _ => none
  | .N l r, b :: p => if b then r.st p else l.st p
def Tree.rp : Tree → List Bool → Tree → Option Tree
  | _, [], u => some u
  | .L, _ :: _, _ => none
  | .N l r, b :: p, u => if b then (r.rp p u).map fun r' => .N l r' else (l.rp p u).map fun l' => .N l' r
theorem Tree.st_nil (t : Tree) : t.st [] = some t := by cases t <;> rfl
theorem Tree.rp_nil (t u : Tree) : t.rp [] u = some u := by cases t <;> rfl
theorem Tree.ex_parts : ∀ (t : Tree) (p : List Bool) (t' : Tree), t.ex p = some t' → ∃ u u', t.st p = some u ∧ u.ex0 = some u' ∧ t.rp p u' = some t'
  | t, [], t', h => ⟨t, t', t.st_nil, by rw [← ex_nil]; exact h, t.rp_nil t'⟩
  | .L, _ :: _, _, h => by cases h
  | .N l r, false :: p, t', h => by
    rw [ex_0] at h
    cases e : l.ex p with
    | none =>
      rw [e] at h
      cases h
    | some m =>
      rw [e] at h
      cases h
      obtain ⟨u, u', h1, h2, h3⟩ := ex_parts l p m e
      refine ⟨u, u', h1, h2, ?_⟩
      show (l.rp p u').map (fun l' => Tree.N l' r) = _
      rw [h3]
      rfl
  | .N l r, true :: p, t', h => by
    rw [ex_1] at h
    cases e : r.ex p with
    | none =>
      rw [e] at h
      cases h
    | some m =>
      rw [e] at h
      cases h
      obtain ⟨u, u', h1, h2, h3⟩ := ex_parts r p m e
      refine ⟨u, u', h1, h2, ?_⟩
      show (r.rp p u').map (fun r' => Tree.N l r') = _
      rw [h3]
      rfl
theorem Tree.st_len : ∀ (t : Tree) (p : List Bool) (u : Tree), t.st p = some u → p.length + u.dp ≤ t.dp
  | t, [], u, h => by
    rw [st_nil] at h
    cases h
    show 0 + t.dp ≤ t.dp
    omega
  | .L, _ :: _, _, h => by cases h
  | .N l r, false :: p, u, h => by
    have h : l.st p = some u := h
    have := st_len l p u h
    show p.length + 1 + u.dp ≤ max l.dp r.dp + 1
    omega
  | .N l r, true :: p, u, h => by
    have h : r.st p = some u := h
    have := st_len r p u h
    show p.length + 1 + u.dp ≤ max l.dp r.dp + 1
    omega
/-! ### a loop over a text; an expression that is never asked -/
theorem pe_never {X : Cx} {e : Expr} : PE X e (fun _ _ _ => False) := ⟨fun _ _ _ _ _ _ h => h.elim⟩
theorem for_S {z : Str} {g : TG} {tb : TS} {D : Ends} {σ : L2.St} {G : Hp} (Pv : Nat → L2.St → Hp → Prop) (h0 : Pv 0 σ G)
    (hs : ∀ j c σ G, z.cps[j]? = some c → Pv j σ G → g (.str ⟨#[c]⟩) σ G fun σ2 G2 => tb { D with nx := Pv (j + 1), ct := Pv (j + 1), bk := D.nx } σ2 G2) (hd : ∀ σ G, Pv z.cps.size σ G → D.nx σ G) :
    ∃ Wd : Nat → Nat → L2.St → Hp → Prop, (∃ m, Wd 0 m σ G) ∧ ∀ j m σ G, Wd j m σ G →
      ((Its z).stop j G ∧ D.nx σ G) ∨ ((Its z).go j G ∧ ∃ Nn : L2.St → Hp → Prop, (∀ σ' G', Nn σ' G' → ∃ m', m' < m ∧ Wd (j + 1) m' σ' G') ∧ ∀ v G', (Its z).yld j G v G' → g v σ G' fun σ2 G2 => tb { D with nx := Nn, ct := Nn, bk := D.nx } σ2 G2) := by
  refine ⟨fun j m σ G => m = z.cps.size - j ∧ j ≤ z.cps.size ∧ Pv j σ G, ⟨_, rfl, Nat.zero_le _, h0⟩, ?_⟩
  rintro j m σ G ⟨rfl, le, pv⟩
  rcases Nat.lt_or_ge j z.cps.size with lt | ge
  · refine .inr ⟨lt, Pv (j + 1), fun σ' G' y => ⟨z.cps.size - (j + 1), by omega, rfl, lt, y⟩, fun v G' y => ?_⟩
    obtain ⟨rfl, c, hc, rfl⟩ := y
    exact hs j c σ _ hc pv
  · have ej : j = z.cps.size := Nat.le_antisymm le ge
    subst ej
    exact .inl ⟨Nat.le_refl _, hd σ G pv⟩
/-! ### promises -/
def spFsz (K : PySem.W.Frag) (n : Nat) : Sp := fun vs H Q _ => ∃ (v : V) (t : Tree), vs = [v] ∧ TA K H v t ∧ t.dp < n ∧ n ≤ 40 ∧ t.sz ≤ 20 ∧ ∀ H', Same H H' → Q (.int t.fsz) H'
def spSub (K : PySem.W.Frag) (n : Nat) : Sp := fun vs H Q _ => ∃ (v o : V) (t a : Tree), vs = [v, o] ∧ TA K H v t ∧ TA K H o a ∧ t.dp < n ∧ n ≤ 40 ∧ ∀ (u : V) (H' : Hp), TA K H' u (t.sub a) → Same H H' → Q u H'
def spFe (K : PySem.W.Frag) (n : Nat) : Sp := fun vs H Q _ => ∃ (v : V) (t : Tree), vs = [v] ∧ TA K H v t ∧ t.dp < n ∧ n ≤ 20 ∧ t.sz ≤ 12 ∧ ∀ (u : V) (H' : Hp), TA K H' u t.fe → Same H H' → Q u H'
def spSt (K : PySem.W.Frag) : Sp := fun vs H Q _ => ∃ (v : V) (t u : Tree) (p : List Bool), vs = [v, .str (ptx p)] ∧ TA K H v t ∧ t.dp ≤ 60 ∧ t.st p = some u ∧ ∀ (x : V) (H' : Hp), TA K H' x u → Same H H' → Q x H'
def spRp (K : PySem.W.Frag) (n : Nat) : Sp := fun vs H Q _ => ∃ (v w : V) (t u t' : Tree) (p : List Bool), vs = [v, .str (ptx p), w] ∧ TA K H v t ∧ TA K H w u ∧ p.length < n ∧ n ≤ 70 ∧ t.rp p u = some t' ∧ ∀ (x : V) (H' : Hp), TA K H' x t' → Same H H' → Q x H'
def spExp (K : PySem.W.Frag) : Sp := fun vs H Q _ => ∃ (v : V) (t u : Tree), vs = [v] ∧ TA K H v t ∧ t.dp ≤ 60 ∧ t.ex0 = some u ∧ ∀ (x : V) (H' : Hp), TA K H' x u → Same H H' → Q x H'
def spRw (K : PySem.W.Frag) : Sp := fun vs H Q _ => ∃ (v : V) (t t' : Tree) (p : List Bool), vs = [v, .str (ptx p), .bl true] ∧ TA K H v t ∧ t.dp ≤ 60 ∧ t.ex p = some t' ∧ ∀ (x : V) (H' : Hp), TA K H' x t' → Same H H' → Q x H'
theorem ptx_cps (p : List Bool) : (ptx p).cps.toList = pcs p := by
  show (pcs p).toArray.toList = _
  simp
theorem ptx_len (p : List Bool) : (ptx p).length = p.length := by
  show (pcs p).toArray.size = _
  simp [pcs]
theorem ptx_size (p : List Bool) : (ptx p).cps.size = p.length := ptx_len p
theorem pcs_at (p : List Bool) (j c : Nat) (h : (ptx p).cps[j]? = some c) : ∃ b, p[j]? = some b ∧ c = if b then 49 else 48 := by
  have h : (pcs p).toArray[j]? = some c := h
  rw [List.getElem?_toArray] at h
  unfold pcs at h
  rw [List.getElem?_map] at h
  cases e : p[j]? with
  | none =>
    rw [e] at h
    cases h
  | some b =>
    rw [e] at h
    cases h
    exact ⟨b, rfl, rfl⟩
theorem ptx_tail (b : Bool) (p : List Bool) : cutS (ptx (b :: p)) (some 1) none = ptx p := by
  unfold cutS
  rw [ptx_cps, ptx_len, show HT.sIx (b :: p).length 0 (some 1) = min 1 (b :: p).length from HT.sIx_nat _ _ 1, HT.sIx_none]
  have e : min 1 (b :: p).length = 1 := by
    rw [List.length_cons]
    omega
  rw [e]
  show (⟨((pcs p).take ((b :: p).length - 1)).toArray⟩ : Str) = ⟨(pcs p).toArray⟩
  rw [List.take_of_length_le]
  show (p.map _).length ≤ _
  rw [List.length_map, List.length_cons]
  exact Nat.le_refl _
theorem not_empty (b : Bool) (p : List Bool) : decide (V.str (ptx (b :: p)) = V.str (Str.ofString "")) = false := by
  refine decide_eq_false fun h => ?_
  have h1 := congrArg Str.length (V.str.inj h)
  rw [ptx_len] at h1
  cases h1
/-! ### the pool: numbered terms -/
theorem fne1 : ¬ (("numbers" : Str) = "pairs") := by decide +kernel
theorem fne2 : ¬ (("numbers" : Str) = "sizes") := by decide +kernel
theorem fne3 : ¬ (("numbers" : Str) = "terms") := by decide +kernel
theorem fne4 : ¬ (("pairs" : Str) = "sizes") := by decide +kernel
theorem fne5 : ¬ (("pairs" : Str) = "terms") := by decide +kernel
theorem fne6 : ¬ (("sizes" : Str) = "terms") := by decide +kernel
def pf (d a b c : Addr) : List (Str × V) := putF "terms" (.ref c) (putF "sizes" (.ref b) (putF "pairs" (.ref a) (putF "numbers" (.ref d) [])))
theorem pf_n (d a b c : Addr) : (pf d a b c).lookup ("numbers" : Str) = some (.ref d) := by
  unfold pf
  rw [lookup_putF, if_neg fne3, lookup_putF, if_neg fne2, lookup_putF, if_neg fne1, lookup_putF, if_pos rfl]
theorem pf_p (d a b c : Addr) : (pf d a b c).lookup ("pairs" : Str) = some (.ref a) := by
  unfold pf
  rw [lookup_putF, if_neg fne5, lookup_putF, if_neg fne4, lookup_putF, if_pos rfl]
theorem pf_s (d a b c : Addr) : (pf d a b c).lookup ("sizes" : Str) = some (.ref b) := by
  unfold pf
  rw [lookup_putF, if_neg fne6, lookup_putF, if_pos rfl]
theorem pf_t (d a b c : Addr) : (pf d a b c).lookup ("terms" : Str) = some (.ref c) := by
  unfold pf
  rw [lookup_putF, if_pos rfl]
theorem pf_no (d a b c : Addr) {m : Str} (h1 : ¬ m = "terms") (h2 : ¬ m = "sizes") (h3 : ¬ m = "pairs") (h4 : ¬ m = "numbers") : (pf d a b c).lookup m = none := by
  unfold pf
  rw [lookup_putF, if_neg h1, lookup_putF, if_neg h2, lookup_putF, if_neg h3, lookup_putF, if_neg h4]
  rfl
abbrev key2 (l r : Nat) : List Key := [Sum.inl (l : Int), Sum.inl (r : Int)]
def kv : List (Nat × Nat) → Nat → List (List Key × V)
  | [], _ => []
  | (l, r) :: es, i => (key2 l r, .int i) :: kv es (i + 1)
theorem kv_snoc : ∀ (es : List (Nat × Nat)) (i l r : Nat), kv (es ++ [(l, r)]) i = kv es i ++ [(key2 l r, .int ((i + es.length : Nat) : Int))]
  | [], i, l, r => rfl
  | (l', r') :: es, i, l, r => by
    show (key2 l' r', V.int i) :: kv (es ++ [(l, r)]) (i + 1) = (key2 l' r', V.int i) :: (kv es (i + 1) ++ _)
    rw [kv_snoc es (i + 1) l r, show i + 1 + es.length = i + (es.length + 1) by omega]
    rfl
theorem kv_len : ∀ (es : List (Nat × Nat)) (i : Nat), (kv es i).length = es.length
  | [], _ => rfl
  | (_, _) :: es, i => congrArg (· + 1) (kv_len es (i + 1))
theorem key2_inj {l r l' r' : Nat} (h : key2 l r = key2 l' r') : l = l' ∧ r = r' := by
  have h1 : (Sum.inl (l : Int) : Key) = Sum.inl (l' : Int) := (List.cons.inj h).1
  have h2 : (Sum.inl (r : Int) : Key) = Sum.inl (r' : Int) := (List.cons.inj (List.cons.inj h).2).1
  exact ⟨by have := Sum.inl.inj h1; omega, by have := Sum.inl.inj h2; omega⟩
theorem kv_some : ∀ (es : List (Nat × Nat)) (i l r : Nat) (v : V), valV (kv es i) (key2 l r) = some v → ∃ n : Nat, v = .int ((n + i : Nat) : Int) ∧ es[n]? = some (l, r)
  | [], i, l, r, v, h => by cases h
  | (l', r') :: es, i, l, r, v, h => by
    have h : valV ((key2 l' r', V.int i) :: kv es (i + 1)) (key2 l r) = some v := h
    by_cases e : key2 l' r' = key2 l r
    · rw [valV_pos e] at h
      cases h
      obtain ⟨rfl, rfl⟩ := key2_inj e
      exact ⟨0, by rw [Nat.zero_add], rfl⟩
    · rw [valV_neg e] at h
      obtain ⟨n, h1, h2⟩ := kv_some es (i + 1) l r v h
      exact ⟨n + 1, by rw [h1]; congr 2; omega, h2⟩
theorem val_none {kvs : List (List Key × V)} {k : List Key} (h : valV kvs k = none) : (kvs.any fun kv => decide (kv.1 = k)) = false := by
  induction kvs with
  | nil => rfl
  | cons p r ih =>
    by_cases e : p.1 = k
    · rw [valV_pos e] at h
      cases h
    · rw [valV_neg e] at h
      rw [List.any_cons, decide_eq_false e, ih h]
      rfl
theorem val_snoc {kvs : List (List Key × V)} {k : List Key} {v : V} (h : valV kvs k = none) : valV (kvs ++ [(k, v)]) k = some v := by
  induction kvs with
  | nil => exact valV_pos rfl
  | cons p r ih =>
    by_cases e : p.1 = k
    · rw [valV_pos e] at h
      cases h
    · rw [valV_neg e] at h
      show valV (p :: (r ++ [(k, v)])) k = some v
      rw [valV_neg e]
      exact ih h
/-- the numbers' operands and their terms -/
structure Good (es : List (Nat × Nat)) (ts : List Tree) : Prop where
  len : ts.length = es.length + 1
  zero : ts[0]? = some .L
  pair : ∀ i l r, es[i]? = some (l, r) → ∃ tl tr, ts[l]? = some tl ∧ ts[r]? = some tr ∧ ts[i + 1]? = some (.N tl tr)
  nd : es.Nodup
theorem kv_none : ∀ (es : List (Nat × Nat)) (i l r : Nat), valV (kv es i) (key2 l r) = none → (l, r) ∉ es
  | [], _, _, _, _ => by simp
  | (l', r') :: es, i, l, r, h => by
    have h : valV ((key2 l' r', V.int i) :: kv es (i + 1)) (key2 l r) = none := h
    by_cases e : key2 l' r' = key2 l r
    · rw [valV_pos e] at h
      cases h
    · rw [valV_neg e] at h
      intro z
      rcases List.mem_cons.mp z with z | z
      · cases z
        exact e rfl
      · exact kv_none es (i + 1) l r h z
theorem nodup_snoc {α : Type} {F : List α} {r : α} (h : F.Nodup) (h3 : r ∉ F) : (F ++ [r]).Nodup := List.nodup_append.mpr ⟨h, by simp, fun a ha b hb z => by
  rw [List.mem_singleton.mp hb] at z
  exact h3 (z ▸ ha)⟩
/-- equal terms have equal numbers -/
theorem Good.inj {es : List (Nat × Nat)} {ts : List Tree} (g : Good es ts) : ∀ (t : Tree) (i j : Nat), ts[i]? = some t → ts[j]? = some t → i = j := by
  have up : ∀ {i : Nat} {t : Tree}, ts[i + 1]? = some t → ∃ l r tl tr, es[i]? = some (l, r) ∧ ts[l]? = some tl ∧ ts[r]? = some tr ∧ t = .N tl tr := fun {i t} h => by
    have hi : i < es.length := by
      have := (List.getElem?_eq_some_iff.mp h).1
      have := g.len
      omega
    obtain ⟨tl, tr, h1, h2, h3⟩ := g.pair i es[i].1 es[i].2 (List.getElem?_eq_getElem hi)
    rw [h3] at h
    cases h
    exact ⟨_, _, tl, tr, List.getElem?_eq_getElem hi, h1, h2, rfl⟩
  intro t
  induction t with
  | L =>
    intro i j hi hj
    cases i with
    | zero =>
      cases j with
      | zero => rfl
      | succ j =>
        obtain ⟨_, _, _, _, _, _, _, e⟩ := up hj
        cases e
    | succ i =>
      obtain ⟨_, _, _, _, _, _, _, e⟩ := up hi
      cases e
  | N tl tr ih1 ih2 =>
    intro i j hi hj
    cases i with
    | zero =>
      rw [g.zero] at hi
      cases hi
    | succ i =>
      cases j with
      | zero =>
        rw [g.zero] at hj
        cases hj
      | succ j =>
        obtain ⟨l, r, _, _, e1, a1, a2, e⟩ := up hi
        cases e
        obtain ⟨l', r', _, _, e2, b1, b2, e⟩ := up hj
        cases e
        have x1 := ih1 _ _ a1 b1
        have x2 := ih2 _ _ a2 b2
        subst x1 x2
        obtain ⟨p1, q1⟩ := List.getElem?_eq_some_iff.mp e1
        obtain ⟨p2, q2⟩ := List.getElem?_eq_some_iff.mp e2
        have := (List.getElem_inj g.nd).mp (q1.trans q2.symm)
        omega
structure Ops (K : PySem.W.Frag) (H : Hp) (ps : List V) (es : List (Nat × Nat)) : Prop where
  len : ps.length = es.length + 1
  zero : ∃ q, ps[0]? = some (.ref q) ∧ SqT K H q []
  pair : ∀ i l r, es[i]? = some (l, r) → ∃ q, ps[i + 1]? = some (.ref q) ∧ SqT K H q [.int (l : Nat), .int (r : Nat)]
theorem Ops.mono {K : PySem.W.Frag} {H H' : Hp} {ps : List V} {es : List (Nat × Nat)} (e : Tp H H') (o : Ops K H ps es) : Ops K H' ps es :=
  ⟨o.len, let ⟨q, h1, h2⟩ := o.zero; ⟨q, h1, e.sqT h2⟩, fun i l r h => let ⟨q, h1, h2⟩ := o.pair i l r h; ⟨q, h1, e.sqT h2⟩⟩
def PoolA (K : PySem.W.Frag) (C x d a b c : Addr) (H : Hp) (ts : List Tree) : Prop := ∃ (dx : Addr) (es : List (Nat × Nat)) (ps cs : List V),
  H x = some (.ins C dx (pf d a b c)) ∧ H d = some (.dT (kv es 1)) ∧ H a = some (.lst ps) ∧ H b = some (.lst (ts.map fun t => V.int (t.sz : Nat))) ∧ H c = some (.lst cs) ∧ a ≠ b ∧ a ≠ c ∧ b ≠ c ∧ Good es ts ∧ Ops K H ps es ∧ DpAll K H cs (ts.map Tree.d)
/-- all but the pool's own objects stays -/
def Ex4 (d a b c : Addr) (H H' : Hp) : Prop := ∀ q o, H q = some o → q ≠ d → q ≠ a → q ≠ b → q ≠ c → H' q = some o
theorem Ex4.trans {d a b c : Addr} {H H1 H2 : Hp} (e : Ex4 d a b c H H1) (e' : Ex4 d a b c H1 H2) : Ex4 d a b c H H2 := fun q o h h1 h2 h3 h4 => e' q o (e q o h h1 h2 h3 h4) h1 h2 h3 h4
theorem Ex4.same {d a b c : Addr} {H H' : Hp} (e : Same H H') : Ex4 d a b c H H' := fun q o h _ _ _ _ => e q o h
theorem Ex4.refl {d a b c : Addr} {H : Hp} : Ex4 d a b c H H := fun _ _ h _ _ _ _ => h
theorem PoolA.same {K : PySem.W.Frag} {C x d a b c : Addr} {H H' : Hp} {ts : List Tree} (e : Same H H') (p : PoolA K C x d a b c H ts) : PoolA K C x d a b c H' ts := by
  obtain ⟨dx, es, ps, cs, h1, h2, h3, h4, h5, n1, n2, n3, g, o, dd⟩ := p
  exact ⟨dx, es, ps, cs, e _ _ h1, e _ _ h2, e _ _ h3, e _ _ h4, e _ _ h5, n1, n2, n3, g, o.mono (Tp.same e), dp_sameAll e _ dd⟩
theorem PoolA.tp {K : PySem.W.Frag} {C x d a b c : Addr} {H H' : Hp} {ts : List Tree} (p : PoolA K C x d a b c H ts) (e : Ex4 d a b c H H') : Tp H H' := by
  obtain ⟨dx, es, ps, cs, h1, h2, h3, h4, h5, _⟩ := p
  intro q xs h
  have k : ∀ o, H q = some o → (∀ kvs, o ≠ .dT kvs) → (∀ ys, o ≠ .lst ys) → H' q = some o := fun o ho k1 k2 =>
    e q o ho (fun z => k1 _ (Option.some.inj (ho.symm.trans (z ▸ h2)))) (fun z => k2 _ (Option.some.inj (ho.symm.trans (z ▸ h3)))) (fun z => k2 _ (Option.some.inj (ho.symm.trans (z ▸ h4)))) (fun z => k2 _ (Option.some.inj (ho.symm.trans (z ▸ h5))))
  rcases h with h | ⟨o, h⟩
  · exact .inl (k _ h (fun _ z => by cases z) (fun _ z => by cases z))
  · exact .inr ⟨o, k _ h (fun _ z => by cases z) (fun _ z => by cases z)⟩
def Pre (ts ts' : List Tree) : Prop := ∀ (i : Nat) (t : Tree), ts[i]? = some t → ts'[i]? = some t
theorem Pre.trans {a b c : List Tree} (h : Pre a b) (h' : Pre b c) : Pre a c := fun i t e => h' i t (h i t e)
structure PoolT (K : PySem.W.Frag) (mg : Str → Option Value) (C : Addr) : Prop where
  cl : Cls K C
  n1 : NoAttr K C "numbers"
  n2 : NoAttr K C "pairs"
  n3 : NoAttr K C "sizes"
  n4 : NoAttr K C "terms"
  mgC : mg "Pool" = some (.ref C)
def spPInit (K : PySem.W.Frag) (C : Addr) : Sp := fun vs H Q _ => ∃ (H0 : Hp) (x dx : Addr), vs = [.ref x] ∧ Same H0 H ∧ H0 x = none ∧ H x = some (.ins C dx []) ∧
  ∀ (d a b c : Addr) (H' : Hp), PoolA K C x d a b c H' [.L] → Same H0 H' → H0 d = none → H0 a = none → H0 b = none → H0 c = none → Q .non H'
def spPair (K : PySem.W.Frag) (C : Addr) : Sp := fun vs H Q _ => ∃ (x d a b c : Addr) (l r : Nat) (ts : List Tree) (tl tr : Tree), vs = [.ref x, .int l, .int r] ∧ PoolA K C x d a b c H ts ∧ ts.length ≤ 1000000 ∧ ts[l]? = some tl ∧ ts[r]? = some tr ∧
  ∀ (n : Nat) (ts' : List Tree) (H' : Hp), PoolA K C x d a b c H' ts' → Ex4 d a b c H H' → Pre ts ts' → ts'[n]? = some (.N tl tr) → ts'.length ≤ ts.length + 1 → Q (.int n) H'
def spNum (K : PySem.W.Frag) (C : Addr) (n : Nat) : Sp := fun vs H Q _ => ∃ (x d a b c : Addr) (v : V) (t : Tree) (ts : List Tree), vs = [.ref x, v] ∧ PoolA K C x d a b c H ts ∧ TA K H v t ∧ t.dp < n ∧ n ≤ 40 ∧ ts.length + t.nodes ≤ 1000000 ∧
  ∀ (m : Nat) (ts' : List Tree) (H' : Hp), PoolA K C x d a b c H' ts' → Ex4 d a b c H H' → Pre ts ts' → ts'[m]? = some t → ts'.length ≤ ts.length + t.nodes → Q (.int m) H'
theorem mil {n : Nat} (h : n ≤ 1000000) : n < sizeLine := Nat.lt_of_le_of_lt h (by decide)
/-! ### what the pool tells of a number -/
theorem PoolA.at {K : PySem.W.Frag} {C x d a b c : Addr} {H : Hp} {ts : List Tree} (p : PoolA K C x d a b c H ts) {m : Nat} {t : Tree} (hm : ts[m]? = some t) :
    ∃ (dx : Addr) (ps : List V) (q : Addr) (ops : List V), H x = some (.ins C dx (pf d a b c)) ∧ H a = some (.lst ps) ∧ ps[m]? = some (.ref q) ∧ SqT K H q ops ∧
      match t with
      | .L => ops = []
      | .N tl tr => ∃ l r : Nat, ops = [.int (l : Nat), .int (r : Nat)] ∧ ts[l]? = some tl ∧ ts[r]? = some tr := by
  obtain ⟨dx, es, ps, cs, hx, hd, ha, hb, hc, n1, n2, n3, g, o, dd⟩ := p
  cases m with
  | zero =>
    rw [g.zero] at hm
    cases hm
    obtain ⟨q, h1, h2⟩ := o.zero
    exact ⟨dx, ps, q, [], hx, ha, h1, h2, rfl⟩
  | succ i =>
    have hi : i < es.length := by
      have := (List.getElem?_eq_some_iff.mp hm).1
      have := g.len
      omega
    obtain ⟨tl, tr, h1, h2, h3⟩ := g.pair i es[i].1 es[i].2 (List.getElem?_eq_getElem hi)
    rw [h3] at hm
    cases hm
    obtain ⟨q, h4, h5⟩ := o.pair i es[i].1 es[i].2 (List.getElem?_eq_getElem hi)
    exact ⟨dx, ps, q, _, hx, ha, h4, h5, es[i].1, es[i].2, rfl, h1, h2⟩
theorem ops_L {K : PySem.W.Frag} {H : Hp} {q : Addr} (h : SqT K H q []) : Dp K H (.ref q) (.tuple []) := Dp.tup h .nil
theorem ops_N {K : PySem.W.Frag} {H : Hp} {q : Addr} {l r : Nat} (h : SqT K H q [.int (l : Nat), .int (r : Nat)]) : Dp K H (.ref q) (.tuple [.int (l : Nat), .int (r : Nat)]) := Dp.tup h (.cons (.int _) (.cons (.int _) .nil))
theorem ops_sh (l r : Nat) : SeqAt.shaped (.tuple [.int (l : Nat), .int (r : Nat)]) = true := rfl
theorem ops_ne (l r : Nat) : PyData.eqv (.tuple [.int (l : Nat), .int (r : Nat)]) (.tuple []) = false := rfl
def spSpread (K : PySem.W.Frag) (C : Addr) (n : Nat) : Sp := fun vs H Q _ => ∃ (x d a b c : Addr) (k m : Nat) (ts : List Tree) (tk t : Tree), vs = [.ref x, .int k, .int m] ∧ PoolA K C x d a b c H ts ∧ ts[k]? = some tk ∧ ts[m]? = some t ∧ t.dp < n ∧ ts.length + t.nodes ≤ 1000000 ∧
  ∀ (j : Nat) (ts' : List Tree) (H' : Hp), PoolA K C x d a b c H' ts' → Ex4 d a b c H H' → Pre ts ts' → ts'[j]? = some (t.sub tk) → ts'.length ≤ ts.length + t.nodes → Q (.int j) H'
def Tree.fnc : Tree → Nat
  | .L => 0
  | .N a b => a.fnc + b.fnc + b.fe.nodes
def spFull (K : PySem.W.Frag) (C : Addr) (n : Nat) : Sp := fun vs H Q _ => ∃ (x d a b c : Addr) (m : Nat) (ts : List Tree) (t : Tree), vs = [.ref x, .int m] ∧ PoolA K C x d a b c H ts ∧ ts[m]? = some t ∧ t.dp < n ∧ n ≤ 40 ∧ t.sz ≤ 12 ∧ ts.length + t.fnc ≤ 1000000 ∧
  ∀ (j : Nat) (ts' : List Tree) (H' : Hp), PoolA K C x d a b c H' ts' → Ex4 d a b c H H' → Pre ts ts' → ts'[j]? = some t.fe → ts'.length ≤ ts.length + t.fnc → Q (.int j) H'
/-- the places of a term: a path and the term there -/
def Tree.pl : Tree → List Bool → List (List Bool × Tree)
  | .L, p => [(p, .L)]
  | .N l r, p => (p, .N l r) :: (l.pl (p ++ [false]) ++ r.pl (p ++ [true]))
inductive PlA (K : PySem.W.Frag) (H : Hp) (ts : List Tree) : List V → List (List Bool × Tree) → Prop
  | nil : PlA K H ts [] []
  | cons {q : Addr} {k : Nat} {p : List Bool} {t : Tree} {vs : List V} {ys : List (List Bool × Tree)} : SqT K H q [.str (ptx p), .int (k : Nat)] → ts[k]? = some t → PlA K H ts vs ys → PlA K H ts (.ref q :: vs) ((p, t) :: ys)
theorem PlA.mono {K : PySem.W.Frag} {H H' : Hp} {ts ts' : List Tree} (e : Tp H H') (pr : Pre ts ts') : ∀ {vs : List V} {ys : List (List Bool × Tree)}, PlA K H ts vs ys → PlA K H' ts' vs ys
  | _, _, .nil => .nil
  | _, _, .cons h1 h2 h3 => .cons (e.sqT h1) (pr _ _ h2) (PlA.mono e pr h3)
theorem PlA.app {K : PySem.W.Frag} {H : Hp} {ts : List Tree} : ∀ {vs ws : List V} {ys zs : List (List Bool × Tree)}, PlA K H ts vs ys → PlA K H ts ws zs → PlA K H ts (vs ++ ws) (ys ++ zs)
  | _, _, _, _, .nil, h => h
  | _, _, _, _, .cons h1 h2 h3, h => .cons h1 h2 (PlA.app h3 h)
theorem PlA.len {K : PySem.W.Frag} {H : Hp} {ts : List Tree} : ∀ {vs : List V} {ys : List (List Bool × Tree)}, PlA K H ts vs ys → vs.length = ys.length
  | _, _, .nil => rfl
  | _, _, .cons _ _ h3 => congrArg (· + 1) (PlA.len h3)
theorem Tree.pl_len : ∀ (t : Tree) (p : List Bool), (t.pl p).length = t.nodes
  | .L, _ => rfl
  | .N l r, p => by
    show ((p, Tree.N l r) :: (l.pl (p ++ [false]) ++ r.pl (p ++ [true]))).length = l.nodes + r.nodes + 1
    rw [List.length_cons, List.length_append, pl_len l, pl_len r]
theorem Tree.nodes_sz : ∀ t : Tree, t.nodes + 1 = 2 * t.sz
  | .L => rfl
  | .N l r => by
    have h1 := nodes_sz l
    have h2 := nodes_sz r
    show l.nodes + r.nodes + 1 + 1 = 2 * (l.sz + r.sz)
    omega
def spPlaces (K : PySem.W.Frag) (C : Addr) (n : Nat) : Sp := fun vs H Q _ => ∃ (x d a b c : Addr) (m : Nat) (p : List Bool) (ts : List Tree) (t : Tree), vs = [.ref x, .int m, .str (ptx p)] ∧ PoolA K C x d a b c H ts ∧ ts[m]? = some t ∧ t.dp < n ∧ p.length + n ≤ 100 ∧ t.nodes ≤ 5000 ∧
  ∀ (z : Addr) (ws : List V) (H' : Hp), Same H H' → H z = none → H' z = some (.lst ws) → PlA K H' ts ws (t.pl p) → Q (.ref z) H'
theorem ptx_snoc0 (p : List Bool) : ptx p ++ Str.ofString "0" = ptx (p ++ [false]) := by
  show (⟨(pcs p).toArray ++ #[48]⟩ : Str) = ⟨(pcs (p ++ [false])).toArray⟩
  unfold pcs
  rw [List.map_append]
  congr 1
  apply Array.toList_inj.mp
  simp
theorem ptx_snoc1 (p : List Bool) : ptx p ++ Str.ofString "1" = ptx (p ++ [true]) := by
  show (⟨(pcs p).toArray ++ #[49]⟩ : Str) = ⟨(pcs (p ++ [true])).toArray⟩
  unfold pcs
  rw [List.map_append]
  congr 1
  apply Array.toList_inj.mp
  simp
def spCheckFull (K : PySem.W.Frag) : Sp := fun vs H Q _ => ∃ (v : V) (t : Tree), vs = [v] ∧ TA K H v t ∧ t.sz ≤ 12 ∧ t.dp ≤ 6 ∧ t.fsz ≤ 500 ∧ ∀ H', Same H H' → Q .non H'
def Tree.fpc : Tree → Nat
  | .L => 0
  | .N a b => a.fpc + b.fpc + b.fnc
def ptxs (ps : List (List Bool)) : List V := ps.map fun p => .str (ptx p)
def spPaths (K : PySem.W.Frag) (C : Addr) (n : Nat) : Sp := fun vs H Q _ => ∃ (x d a b c : Addr) (m : Nat) (p : List Bool) (ts : List Tree) (t : Tree), vs = [.ref x, .int m, .str (ptx p)] ∧ PoolA K C x d a b c H ts ∧ ts[m]? = some t ∧ t.dp < n ∧ p.length + n ≤ 60 ∧ t.sz ≤ 12 ∧ t.fsz ≤ 500 ∧ ts.length + t.fpc ≤ 1000000 ∧
  ∀ (z : Addr) (ts' : List Tree) (H' : Hp), PoolA K C x d a b c H' ts' → Ex4 d a b c H H' → Pre ts ts' → ts'.length ≤ ts.length + t.fpc → H z = none → H' z = some (.lst (ptxs (t.fp.map (p ++ ·)))) → Q (.ref z) H'
def spPathsOf (K : PySem.W.Frag) : Sp := fun vs H Q _ => ∃ (v : V) (t : Tree), vs = [v] ∧ TA K H v t ∧ t.sz ≤ 12 ∧ t.dp ≤ 6 ∧ t.fsz ≤ 500 ∧ ∀ (z : Addr) (H' : Hp), Same H H' → H z = none → H' z = some (.lst (ptxs t.fp)) → Q (.ref z) H'
def kept (ys : List (List Bool × Tree)) : List (List Bool) := (ys.filter fun y => !y.2.isL).map (·.1)
theorem kept_app (ys zs : List (List Bool × Tree)) : kept (ys ++ zs) = kept ys ++ kept zs := by
  unfold kept
  rw [List.filter_append, List.map_append]
theorem kept_cons (p : List Bool) (l r : Tree) (ys : List (List Bool × Tree)) : kept ((p, Tree.N l r) :: ys) = p :: kept ys := rfl
theorem kept_pl : ∀ (t : Tree) (p : List Bool), kept (t.pl p) = t.nd.map (p ++ ·)
  | .L, p => rfl
  | .N l r, p => by
    have ea : l.nd.map (fun y => (p ++ [false]) ++ y) = (l.nd.map (false :: ·)).map (p ++ ·) := by
      rw [List.map_map]
      exact List.map_congr_left fun y _ => by simp
    have eb : r.nd.map (fun y => (p ++ [true]) ++ y) = (r.nd.map (true :: ·)).map (p ++ ·) := by
      rw [List.map_map]
      exact List.map_congr_left fun y _ => by simp
    show kept ((p, Tree.N l r) :: (l.pl (p ++ [false]) ++ r.pl (p ++ [true]))) = ([] :: (l.nd.map (false :: ·) ++ r.nd.map (true :: ·))).map (p ++ ·)
    rw [kept_cons, kept_app, kept_pl l, kept_pl r, List.map_cons, List.map_append, List.append_nil, ea, eb]
theorem Tree.nd_len : ∀ t : Tree, t.nd.length + 1 = t.sz
  | .L => rfl
  | .N l r => by
    have h1 := nd_len l
    have h2 := nd_len r
    show ([] :: (l.nd.map (false :: ·) ++ r.nd.map (true :: ·))).length + 1 = l.sz + r.sz
    rw [List.length_cons, List.length_append, List.length_map, List.length_map]
    omega
theorem mul_big {a b n : Nat} (ha : 0 < a) (h : a * b ≤ n) : b ≤ n := Nat.le_trans (Nat.le_mul_of_pos_left b ha) h
theorem Tree.fsz_l {l r : Tree} {n : Nat} (h : (Tree.N l r).fsz ≤ n) : l.fsz ≤ n := by
  have h : (l.fsz + 1) * r.fsz ≤ n := h
  have h1 := r.fsz_pos
  have : l.fsz + 1 ≤ (l.fsz + 1) * r.fsz := Nat.le_mul_of_pos_right _ h1
  omega
theorem Tree.fsz_r {l r : Tree} {n : Nat} (h : (Tree.N l r).fsz ≤ n) : r.fsz ≤ n := mul_big (Nat.succ_pos _) (show (l.fsz + 1) * r.fsz ≤ n from h)
theorem Tree.fp_len : ∀ t : Tree, t.fsz ≤ 500 → t.fp.length + 500 ≤ 500 * t.sz
  | .L, _ => Nat.le_refl _
  | .N l r, h => by
    have h1 := fp_len l (fsz_l h)
    have h2 := fp_len r (fsz_r h)
    have h3 := r.fe.nd_len
    have h4 := fsz_r h
    rw [r.fe_sz] at h3
    show ((l.fp.map (false :: ·) ++ r.fp.map (true :: ·)) ++ r.fe.nd).length + 500 ≤ 500 * (l.sz + r.sz)
    rw [List.length_append, List.length_append, List.length_map, List.length_map]
    omega
theorem Tree.fnc_le : ∀ t : Tree, t.fsz ≤ 500 → t.fnc + 1000 ≤ 1000 * t.sz
  | .L, _ => Nat.le_refl _
  | .N l r, h => by
    have h1 := fnc_le l (fsz_l h)
    have h2 := fnc_le r (fsz_r h)
    have h3 := r.fe.nodes_sz
    have h4 := fsz_r h
    rw [r.fe_sz] at h3
    show l.fnc + r.fnc + r.fe.nodes + 1000 ≤ 1000 * (l.sz + r.sz)
    omega
theorem Tree.fpc_le : ∀ t : Tree, t.fsz ≤ 500 → t.sz ≤ 12 → t.fpc + 12000 ≤ 12000 * t.sz
  | .L, _, _ => Nat.le_refl _
  | .N l r, h, hz => by
    have hz : l.sz + r.sz ≤ 12 := hz
    have h1 := fpc_le l (fsz_l h) (by omega)
    have h2 := fpc_le r (fsz_r h) (by omega)
    have h3 := fnc_le r (fsz_r h)
    show l.fpc + r.fpc + r.fnc + 12000 ≤ 12000 * (l.sz + r.sz)
    omega
theorem PoolA.fresh {K : PySem.W.Frag} {C x d a b c z : Addr} {H : Hp} {ts : List Tree} (p : PoolA K C x d a b c H ts) (h : H z = none) : z ≠ d ∧ z ≠ a ∧ z ≠ b ∧ z ≠ c := by
  obtain ⟨dx, es, ps, cs, hx, hd, ha, hb, hc, _⟩ := p
  exact ⟨(ne_of_none hd h).symm, (ne_of_none ha h).symm, (ne_of_none hb h).symm, (ne_of_none hc h).symm⟩
theorem Ex4.free {K : PySem.W.Frag} {C x d a b c z : Addr} {H H' : Hp} {ts : List Tree} (p : PoolA K C x d a b c H' ts) (e : Ex4 d a b c H H') (h : H' z = none) : H z = none := by
  obtain ⟨n1, n2, n3, n4⟩ := p.fresh h
  cases q : H z with
  | none => rfl
  | some o =>
    rw [e z o q n1 n2 n3 n4] at h
    cases h
theorem Ex4.list {K : PySem.W.Frag} {C x d a b c z : Addr} {H0 H H' : Hp} {ts : List Tree} {o : HO} (p : PoolA K C x d a b c H0 ts) (f : H0 z = none) (e : Ex4 d a b c H H') (h : H z = some o) : H' z = some o := by
  obtain ⟨n1, n2, n3, n4⟩ := p.fresh f
  exact e z o h n1 n2 n3 n4
theorem ptxs_app (ps qs : List (List Bool)) : ptxs (ps ++ qs) = ptxs ps ++ ptxs qs := List.map_append
theorem ptxs_len (ps : List (List Bool)) : (ptxs ps).length = ps.length := List.length_map _
theorem fp_N (l r : Tree) (p : List Bool) : (ptxs (l.fp.map ((p ++ [false]) ++ ·)) ++ ptxs (r.fp.map ((p ++ [true]) ++ ·))) ++ ptxs (kept (r.fe.pl p)) = ptxs ((Tree.N l r).fp.map (p ++ ·)) := by
  have ea : l.fp.map (fun y => (p ++ [false]) ++ y) = (l.fp.map (false :: ·)).map (p ++ ·) := by
    rw [List.map_map]
    exact List.map_congr_left fun y _ => by simp
  have eb : r.fp.map (fun y => (p ++ [true]) ++ y) = (r.fp.map (true :: ·)).map (p ++ ·) := by
    rw [List.map_map]
    exact List.map_congr_left fun y _ => by simp
  show _ = ptxs (((l.fp.map (false :: ·) ++ r.fp.map (true :: ·)) ++ r.fe.nd).map (p ++ ·))
  rw [List.map_append, List.map_append, ptxs_app, ptxs_app, kept_pl, ea, eb]
theorem Tree.dp_sz : ∀ t : Tree, t.dp + 1 ≤ t.sz
  | .L => Nat.le_refl _
  | .N l r => by
    have h1 := dp_sz l
    have h2 := dp_sz r
    show max l.dp r.dp + 1 + 1 ≤ l.sz + r.sz
    omega
section OPN
open PySem.Spec PyProof.Rows
/-! ### t[::-1] -/
section
variable {prog : Program} {w : World} {A : Around} {E : Value → Shared → Prop} {s : Shared}
theorem sliceApplied_rev {sl : Addr} {vs : Value} {n : Nat} {Q : Int × Int × Nat → Shared → Prop} (hs : s.heap.IsSliceOf sl .none .none vs) (ps : IsPart vs (some (-1))) (h : Q ((n : Int) - 1, -1, n) s) : wpAny (model prog w) A (Builtin.Slice.sliceApplied (.ref sl) (pure (n : Int))) Q E s := by
  obtain ⟨os, hos, hcs, hds⟩ := id hs
  unfold Builtin.Slice.sliceApplied Builtin.Slice.sliceFields
  refine wpAny_bind (wpAny_bind (wpAny_field hos hds (x := .none) rfl (wpAny_bind (wpAny_field hos hds (x := .none) rfl (wpAny_bind (wpAny_field hos hds (x := vs) rfl (wpAny_pure ?_)))))))
  refine wpAny_bind (HT.slicePart_ ps ?_)
  show wpAny _ _ (if ((-1 : Int) == 0) = true then _ else _) _ _ s
  rw [if_neg (by decide)]
  refine wpAny_bind (HT.slicePart_ .none (wpAny_bind (HT.slicePart_ .none (wpAny_bind (wpAny_pure ?_)))))
  show wpAny _ _ (pure ((n : Int) - 1, (-1 : Int), Builtin.Slice.slicePlaces ((n : Int) - 1) (-1) (-1))) _ _ s
  have e : Builtin.Slice.slicePlaces ((n : Int) - 1) (-1) (-1) = n := by
    unfold Builtin.Slice.slicePlaces
    have h1 : ¬ ((-1 : Int) > 0) := by decide
    rw [if_neg h1, show (- -1 : Int) = 1 by decide]
    simp only [Int.ediv_one]
    split <;> omega
  rw [e]
  exact wpAny_pure h
theorem pick_rev (xs : Array Value) : ((List.range xs.size).filterMap fun (m : Nat) => xs[(((xs.size : Nat) : Int) - 1 + (m : Int) * -1).toNat]?).toArray = xs.toList.reverse.toArray := by
  congr 1
  rw [← PySem.W.krv_all xs, ← List.filterMap_reverse, ← PySem.W.krv_range, List.filterMap_map]
  have key : ∀ l : List Nat, (∀ m ∈ l, m < xs.size) → l.filterMap (fun (m : Nat) => xs[(((xs.size : Nat) : Int) - 1 + (m : Int) * -1).toNat]?) = l.filterMap ((fun x => xs[x]?) ∘ fun k => xs.size - 1 - k) := by
    intro l
    induction l with
    | nil => intro _; rfl
    | cons a r ih =>
      intro h
      have ha := h a List.mem_cons_self
      rw [List.filterMap_cons, List.filterMap_cons, ih fun m hm => h m (List.mem_cons_of_mem _ hm)]
      have e : (((xs.size : Nat) : Int) - 1 + (a : Int) * -1).toNat = xs.size - 1 - a := by omega
      rw [e]
      rfl
  exact key _ fun m hm => List.mem_range.mp hm
theorem getItem_tuple_rev {t sl : Addr} {items : Array Value} {vs : Value} {Q : Value → Shared → Prop} (ht : IsTup s.heap t items) (hs : s.heap.IsSliceOf sl .none .none vs) (ps : IsPart vs (some (-1)))
    (h : Q (.ref s.heap.objs.size) { s with heap := s.heap.push { cls := .type "tuple", data := .seq items.toList.reverse.toArray } })
    (hsz : items.size ≤ sizeLine) : wpAny (model prog w) A (getItem (.ref t) (.ref sl)) Q E s := by
  have htake : sizeOk (.seq items.toList.reverse.toArray) := by
    show items.toList.reverse.toArray.size ≤ sizeLine
    rw [List.size_toArray, List.length_reverse, Array.length_toList]
    exact hsz
  obtain ⟨os, hos, hcs, hds⟩ := id hs
  have hTs : s.TypeIs (.ref sl) "slice" := ⟨os, hos, hcs⟩
  unfold getItem
  try with_reducible refine wpAny_holding ?_
  first | refine wpAny_bind (wpAny_pure ?_) | skip
  refine wpAny_bind (wpAny_sequenceKey ht.typeIs (by decide) ?_)
  refine wpAny_bind (wpAny_callSpecial?_slot (name := Str.ofString "__getitem__") ht.typeIs PyProof.Rows.slot_tuple_getitem
    (wpAny_call_entry PyProof.Rows.slot_tuple_getitem ht.typeIs entry_tuple_getitem ?_ (args_tuple_getitem _ _)))
  show wpAny _ _ (Builtin.Tuple.tupleItemsOf (.ref t) >>= _) _ _ s
  refine wpAny_bind (tupleItemsOf_ ht ?_)
  refine wpAny_bind (wpAny_typeOf hTs ?_)
  rw [if_pos (by decide)]
  refine wpAny_bind (sliceApplied_rev hs ps ?_)
  have hno : ¬ ((((items.size : Nat) : Int) - 1 == 0 && (-1 : Int) == 1 && items.size == items.size) = true) := by
    intro q
    rw [Bool.and_eq_true, Bool.and_eq_true] at q
    exact absurd q.1.2 (by decide)
  show wpAny _ _ (if (((items.size : Nat) : Int) - 1 == 0 && (-1 : Int) == 1 && items.size == items.size) = true then _ else _) _ _ s
  rw [if_neg hno, pick_rev]
  first
    | exact wpAny_bind (m := Builtin.Tuple.tupleExact _) (wpAny_newObj_type (wpAny_pure ⟨_, rfl, wpAny_pure h⟩) htake)
    | exact wpAny_bind (m := Builtin.Tuple.tupleExact _) (wpAny_newObj_type (wpAny_bind (wpAny_pure (wpAny_pure ⟨_, rfl, wpAny_pure h⟩))) htake)
    | exact wpAny_bind (wpAny_bind (m := Builtin.Tuple.tupleExact _) (wpAny_newObj_type (wpAny_pure (wpAny_pure ⟨_, rfl, wpAny_pure h⟩)) htake))
    | exact wpAny_bind (wpAny_bind (m := Builtin.Tuple.tupleExact _) (wpAny_newObj_type (wpAny_pure ⟨_, rfl, wpAny_pure h⟩) htake))
end
def tRevT (K : PySem.W.Frag) (te : TE) : TE := fun σ H Q => te σ H fun x H1 => ∃ a xs, x = .ref a ∧ SqT K H1 a xs ∧ ∀ p, H1 p = none → Q (.ref p) (upd H1 p (.tup xs.reverse))
theorem pe_revT {X : Cx} {e : Expr} {te : TE} {k : Nat} {p1 p2 p3 pos : Pos} (he : PE X e te) : PE X (.Subscript e (.Slice none none (some (.UnaryOp .USub (.Constant (.int 1) k p1) p2)) p3) pos) (tRevT X.K te) := by
  refine ⟨fun pins s σ H Q I h => ?_⟩
  refine Subscript_ (thn (he.run pins s σ H _ I h) fun v s1 ⟨x, H1, I1, r1, q1⟩ => ?_)
  obtain ⟨a, xs, ex, hx, q⟩ := q1
  subst ex
  cases r1
  have hst : PO X (some (.UnaryOp .USub (.Constant (.int 1) k p1) p2)) (tPart (tUn (rU fun i => .int (-i)) (tC (.int 1)))) := po_some (pe_un un_neg pe_int)
  refine wpAny_Slice (thn (po_none.run pins s1 σ H1 (fun o H2 => o = none ∧ H2 = H1) I1 ⟨rfl, rfl⟩) fun vl s2 ⟨l, H2, I2, pl, el, e2⟩ => ?_)
  subst el e2
  refine thn (po_none.run pins s2 σ H2 (fun o H3 => o = none ∧ H3 = H2) I2 ⟨rfl, rfl⟩) fun vu s3 ⟨u, H3, I3, pu, eu, e3⟩ => ?_
  subst eu e3
  refine thn (hst.run pins s3 σ H3 (fun o H4 => o = some (-1) ∧ H4 = H3) I3 ⟨1, rfl, -1, rfl, rfl, rfl⟩) fun vs s4 ⟨o, H4, I4, ps, eo, e4⟩ => ?_
  subst eo e4
  cases pl
  cases pu
  have I5 : Inv X pins σ H4 { s4 with heap := s4.heap.push { cls := .type "slice", data := .fields #[.none, .none, vs] } } := I4.kept (t' := s4.toks) fun b ob q => Heap.get?_push_of_some _ q
  obtain ⟨its, r, ht, hz⟩ := I5.tuple hx
  have hlen := r.length
  show wpAny (model X.prog X.w) X.A (subscriptTail e (.Slice none none (some (.UnaryOp .USub (.Constant (.int 1) k p1) p2)) p3) (.ref a) (.ref s4.heap.objs.size)) (EP X pins σ Q) X.xe { s4 with heap := s4.heap.push { cls := .type "slice", data := .fields #[.none, .none, vs] } }
  refine tail_any (ops := [.ref a, .ref s4.heap.objs.size]) ht.typeIs (PyProof.Rows.slot_tuple_getitem.lookup) ?_ (by with_unfolding_all rfl)
  refine getItem_tuple_rev ht (Heap.IsSliceOf.new _ .none .none vs) ps ?_ (by rw [List.size_toArray]; omega)
  refine ⟨.ref _, _, I5.laid (t' := s4.toks) (o := .tup xs.reverse) (fun b ob q => Heap.get?_push_of_some _ q) (Nat.le_refl _) ?_, rfl, q _ (I5.hok.fresh (Nat.le_refl _))⟩
  exact ⟨by rw [List.length_reverse]; exact hz, _, r.reverse, IsTup.new _ _⟩
/-! ### comprehensions that map -/
theorem take_snoc {α : Type} {l : List α} {i : Nat} {x : α} (h : l[i]? = some x) : l.take (i + 1) = l.take i ++ [x] := by
  rw [List.take_add_one, h]
  rfl
section
variable {K : PySem.W.Frag} {a : Addr} {xs : List V} {ψ : V → V} {g : TG} {te : TE} {vs : List Nat} {σ : L2.St} {H1 : Hp} {D : Addr} {Qd : Hp → Prop}
theorem lc_mapT (hD : H1 D = none) (hS : SqT K H1 a xs) (hl : xs.length ≤ 10000)
    (hs : ∀ x G (R : V → Hp → Prop), x ∈ xs → Same H1 G → (∀ H4, Same G H4 → R (ψ x) H4) → g x (wipe σ vs) G fun σ2 H2 => wipe σ2 vs = wipe σ vs ∧ te σ2 H2 R)
    (hd : ∀ G, Same H1 G → G D = some (.lst (xs.map ψ)) → Qd G) :
    ∃ W : Nat → Nat → Hp → Prop, (∃ m, W 0 m (upd H1 D (.lst []))) ∧ ∀ i m H, W i m H →
      ((Itt K a).stop i H ∧ Qd H) ∨ ((Itt K a).go i H ∧ ∃ Nx : Hp → Prop, (∀ H', Nx H' → ∃ m', m' < m ∧ W (i + 1) m' H') ∧ ∀ x H', (Itt K a).yld i H x H' → g x (wipe σ vs) H' fun σ2 H2 => wipe σ2 vs = wipe σ vs ∧ tYes σ2 H2 fun b H3 =>
        if b = true then te σ2 H3 fun y H4 => ∃ acc, H4 D = some (.lst acc) ∧ acc.length < sizeLine ∧ Nx (upd H4 D (.lst (acc ++ [y]))) else Nx H3) := by
  refine lc_tup (K := K) (a := a) (xs := xs) (tt := tYes) (fun i G => Same H1 G ∧ G D = some (.lst ((xs.take i).map ψ))) ⟨Same.new hD _, upd_same⟩ (fun i G _ z => (Tp.same z.1).sqT hS) ?_ ?_
  · rintro i x G hi ⟨sm, hl2⟩
    refine hs x G _ (List.mem_of_getElem? hi) sm fun H4 s4 => ⟨_, s4 _ _ hl2, ?_, fun b o z => ?_, ?_⟩
    · have := (List.getElem?_eq_some_iff.mp hi).1
      rw [List.length_map, List.length_take]
      exact Nat.lt_of_lt_of_le (by omega : _ < 10001) (by decide)
    · rw [upd_ne (ne_of_none z hD)]
      exact s4 _ _ (sm _ _ z)
    · rw [upd_same, take_snoc hi, List.map_append]
      rfl
  · rintro G ⟨sm, h⟩
    rw [List.take_of_length_le (Nat.le_refl _)] at h
    exact hd G sm h
theorem lc_mapL (hD : H1 D = none) (hS : SqL K H1 a xs) (hl : xs.length ≤ 10000)
    (hs : ∀ x G (R : V → Hp → Prop), x ∈ xs → Same H1 G → (∀ H4, Same G H4 → R (ψ x) H4) → g x (wipe σ vs) G fun σ2 H2 => wipe σ2 vs = wipe σ vs ∧ te σ2 H2 R)
    (hd : ∀ G, Same H1 G → G D = some (.lst (xs.map ψ)) → Qd G) :
    ∃ W : Nat → Nat → Hp → Prop, (∃ m, W 0 m (upd H1 D (.lst []))) ∧ ∀ i m H, W i m H →
      ((Itl K a).stop i H ∧ Qd H) ∨ ((Itl K a).go i H ∧ ∃ Nx : Hp → Prop, (∀ H', Nx H' → ∃ m', m' < m ∧ W (i + 1) m' H') ∧ ∀ x H', (Itl K a).yld i H x H' → g x (wipe σ vs) H' fun σ2 H2 => wipe σ2 vs = wipe σ vs ∧ tYes σ2 H2 fun b H3 =>
        if b = true then te σ2 H3 fun y H4 => ∃ acc, H4 D = some (.lst acc) ∧ acc.length < sizeLine ∧ Nx (upd H4 D (.lst (acc ++ [y]))) else Nx H3) := by
  refine lc_list (K := K) (a := a) (xs := xs) (tt := tYes) (fun i G => Same H1 G ∧ G D = some (.lst ((xs.take i).map ψ))) ⟨Same.new hD _, upd_same⟩ (fun i G _ z => z.1.seq hS) ?_ ?_
  · rintro i x G hi ⟨sm, hl2⟩
    refine hs x G _ (List.mem_of_getElem? hi) sm fun H4 s4 => ⟨_, s4 _ _ hl2, ?_, fun b o z => ?_, ?_⟩
    · have := (List.getElem?_eq_some_iff.mp hi).1
      rw [List.length_map, List.length_take]
      exact Nat.lt_of_lt_of_le (by omega : _ < 10001) (by decide)
    · rw [upd_ne (ne_of_none z hD)]
      exact s4 _ _ (sm _ _ z)
    · rw [upd_same, take_snoc hi, List.map_append]
      rfl
  · rintro G ⟨sm, h⟩
    rw [List.take_of_length_le (Nat.le_refl _)] at h
    exact hd G sm h
theorem lc_mapRT (hD : H1 D = none) (hS : SqT K H1 a xs) (hl : xs.length ≤ 10000)
    (hs : ∀ x G (R : V → Hp → Prop), x ∈ xs → Same H1 G → (∀ H4, Same G H4 → R (ψ x) H4) → g x (wipe σ vs) G fun σ2 H2 => wipe σ2 vs = wipe σ vs ∧ te σ2 H2 R)
    (hd : ∀ G, Same H1 G → G D = some (.lst (xs.reverse.map ψ)) → Qd G) :
    ∃ W : Nat → Nat → Hp → Prop, (∃ m, W 0 m (upd H1 D (.lst []))) ∧ ∀ i m H, W i m H →
      ((RT.ItvT K a xs.length).stop i H ∧ Qd H) ∨ ((RT.ItvT K a xs.length).go i H ∧ ∃ Nx : Hp → Prop, (∀ H', Nx H' → ∃ m', m' < m ∧ W (i + 1) m' H') ∧ ∀ x H', (RT.ItvT K a xs.length).yld i H x H' → g x (wipe σ vs) H' fun σ2 H2 => wipe σ2 vs = wipe σ vs ∧ tYes σ2 H2 fun b H3 =>
        if b = true then te σ2 H3 fun y H4 => ∃ acc, H4 D = some (.lst acc) ∧ acc.length < sizeLine ∧ Nx (upd H4 D (.lst (acc ++ [y]))) else Nx H3) := by
  refine ⟨fun i m G => m = xs.length - i ∧ i ≤ xs.length ∧ Same H1 G ∧ G D = some (.lst ((xs.reverse.take i).map ψ)), ⟨_, rfl, Nat.zero_le _, Same.new hD _, upd_same⟩, ?_⟩
  rintro i m G ⟨rfl, hi, sm, hl2⟩
  rcases Nat.lt_or_ge i xs.length with lt | ge
  · have hS' := (Tp.same sm).sqT hS
    have lt' : xs.length - 1 - i < xs.length := by omega
    have hx : xs[xs.length - 1 - i]? = some xs[xs.length - 1 - i] := List.getElem?_eq_getElem lt'
    have hr : xs.reverse[i]? = some xs[xs.length - 1 - i] := by rw [List.getElem?_reverse lt]; exact hx
    refine .inr ⟨⟨lt, xs, _, hS', hx⟩, fun G => Same H1 G ∧ G D = some (.lst ((xs.reverse.take (i + 1)).map ψ)), fun H' z => ⟨_, (by omega : xs.length - (i + 1) < xs.length - i), rfl, by omega, z.1, z.2⟩, ?_⟩
    rintro x G' ⟨rfl, hy⟩
    have ex := (hy xs hS').symm.trans hx
    cases ex
    refine hs _ G' _ (List.getElem_mem lt') sm fun H4 s4 => ⟨_, s4 _ _ hl2, ?_, fun b o z => ?_, ?_⟩
    · rw [List.length_map, List.length_take, List.length_reverse]
      exact Nat.lt_of_lt_of_le (by omega : _ < 10001) (by decide)
    · rw [upd_ne (ne_of_none z hD)]
      exact s4 _ _ (sm _ _ z)
    · rw [upd_same, take_snoc hr, List.map_append]
      rfl
  · refine .inl ⟨ge, hd G sm ?_⟩
    rw [hl2, List.take_of_length_le (by rw [List.length_reverse]; exact ge)]
end
/-! ### words -/
def ab (n : Int) : Int := if n < 0 then -n else n
def isLet (n : Int) : Bool := decide (n ≠ 0) && decide (ab n ≤ 40)
def okW (ns : List Int) : Bool := decide (ns.length ≤ 300) && ns.all isLet
def inv (ns : List Int) : List Int := ns.reverse.map fun n => -n
def sgn (m l : Int) : Int := if 0 < l then m else -m
def shf (k : Int) (ns : List Int) : List Int := ns.map fun n => sgn (ab n + k) n
abbrev WT (K : PySem.W.Frag) (H : Hp) (a : Addr) (ns : List Int) : Prop := SqT K H a (ns.map V.int)
theorem cat_ok {K : PySem.W.Frag} {H : Hp} {a b : Addr} {xs ys : List V} {Q : VK} (ha : SqT K H a xs) (hb : SqT K H b ys) (hl : xs.length + ys.length ≤ sizeLine) (q : ∀ p H', Same H H' → SqT K H' p (xs ++ ys) → Q (.ref p) H') : rCatA K (.ref a) (.ref b) H Q := by
  refine ⟨a, b, xs, ys, rfl, rfl, ha, hb, hl, fun e => ?_, fun _ e => ?_, fun _ _ p np => ?_⟩
  · subst e
    exact q b H (Same.refl _) hb
  · subst e
    exact q a H (Same.refl _) (by rw [List.append_nil]; exact ha)
  · exact q p _ (Same.new np _) (SqT.here upd_same)
def vInt : V → Int
  | .int n => n
  | _ => 0
theorem map_int {ψ : Int → V} (ns : List Int) : (ns.map V.int).map (fun v => ψ (vInt v)) = ns.map ψ := by
  rw [List.map_map]
  rfl
theorem mem_int {ns : List Int} {x : V} (h : x ∈ ns.map V.int) : ∃ n, n ∈ ns ∧ x = .int n := by
  obtain ⟨n, h1, h2⟩ := List.mem_map.mp h
  exact ⟨n, h1, h2.symm⟩
def spLet : Sp := fun vs H Q _ => ∃ n : Int, vs = [.int n] ∧ Q (.bl (isLet n)) H
def spAre (K : PySem.W.Frag) : Sp := fun vs H Q _ => ∃ (a : Addr) (ns : List Int), vs = [.ref a] ∧ WT K H a ns ∧ ns.length ≤ 10000 ∧ ∀ H', Same H H' → Q (.bl (ns.all isLet)) H'
def spChkW (K : PySem.W.Frag) (C : Addr) : Sp := fun vs H Q E => ∃ (a : Addr) (ns : List Int), vs = [.ref a] ∧ WT K H a ns ∧ ns.length ≤ 10000 ∧ (okW ns = true → ∀ H', Same H H' → Q .non H') ∧ (okW ns = false → ∀ H', Same H H' → E (.ref C) none H')
/-- a def over one word that gives a new one -/
def spWW (K : PySem.W.Frag) (φ : List Int → List Int) : Sp := fun vs H Q _ => ∃ (a : Addr) (ns : List Int), vs = [.ref a] ∧ WT K H a ns ∧ ns.length ≤ 10000 ∧ ∀ p H', Same H H' → WT K H' p (φ ns) → Q (.ref p) H'
def spSgn : Sp := fun vs H Q _ => ∃ m l : Int, vs = [.int m, .int l] ∧ Q (.int (sgn m l)) H
def spShf (K : PySem.W.Frag) : Sp := fun vs H Q _ => ∃ (a : Addr) (ns : List Int) (k : Int), vs = [.ref a, .int k] ∧ WT K H a ns ∧ ns.length ≤ 10000 ∧ ∀ p H', Same H H' → WT K H' p (shf k ns) → Q (.ref p) H'
/-- inverse: the word, or the error -/
def spInvE (K : PySem.W.Frag) (C : Addr) : Sp := fun vs H Q E => ∃ (a : Addr) (ns : List Int), vs = [.ref a] ∧ WT K H a ns ∧ ns.length ≤ 10000 ∧ (okW ns = true → ∀ p H', Same H H' → WT K H' p (inv ns) → Q (.ref p) H') ∧ (okW ns = false → ∀ H', Same H H' → E (.ref C) none H')
/-- shifted: the word, or the first error -/
def spShfE (K : PySem.W.Frag) (CW CS : Addr) : Sp := fun vs H Q E => ∃ (a : Addr) (ns : List Int) (k : Int), vs = [.ref a, .int k] ∧ WT K H a ns ∧ ns.length ≤ 10000 ∧ (okW ns = true → 0 ≤ k → k ≤ 20 → (shf k ns).all isLet = true → ∀ p H', Same H H' → WT K H' p (shf k ns) → Q (.ref p) H') ∧
  (okW ns = false → ∀ H', Same H H' → E (.ref CW) none H') ∧ (okW ns = true → ¬ (0 ≤ k ∧ k ≤ 20) → ∀ H', Same H H' → E (.ref CS) none H') ∧ (okW ns = true → 0 ≤ k → k ≤ 20 → (shf k ns).all isLet = false → ∀ H', Same H H' → E (.ref CW) none H')
/-- the law's sign, step by sign -/
def lsg (n : Int) : Int := if 0 < n then 1 else -1
theorem shf_law (k n : Int) : n + k * lsg n = sgn (ab n + k) n := by
  unfold lsg sgn ab
  by_cases h : 0 < n
  · rw [if_pos h, if_pos h, if_neg (by omega), Int.mul_one]
  · rw [if_neg h, if_neg h]
    by_cases h2 : n < 0
    · rw [if_pos h2, Int.mul_neg, Int.mul_one]
      omega
    · rw [if_neg h2, Int.mul_neg, Int.mul_one]
      omega
def spSign : Sp := fun vs H Q _ => ∃ n : Int, vs = [.int n] ∧ Q (.int (lsg n)) H
/-- the law's own shift: a step below 2 ^ 64 -/
def spShfL (K : PySem.W.Frag) : Sp := fun vs H Q _ => ∃ (a : Addr) (ns : List Int) (k : Int), vs = [.ref a, .int k] ∧ WT K H a ns ∧ ns.length ≤ 10000 ∧ -1000 ≤ k ∧ k ≤ 1000 ∧ ∀ p H', Same H H' → WT K H' p (shf k ns) → Q (.ref p) H'
theorem shf_len (k : Int) (ns : List Int) : (shf k ns).length = ns.length := by unfold shf; rw [List.length_map]
theorem inv_len (ns : List Int) : (inv ns).length = ns.length := by unfold inv; rw [List.length_map, List.length_reverse]
structure BltW (mg : Str → Option Value) : Prop where
  abs : mg "abs" = none
  reversed : mg "reversed" = none
  any : mg "any" = none
structure CstW (mg : Str → Option Value) : Prop where
  MAX_LETTER : ∃ t, mg "MAX_LETTER" = some (.int 40 t)
  MAX_LETTERS : ∃ t, mg "MAX_LETTERS" = some (.int 300 t)
end OPN
section WDT
def wD (ns : List Int) : PyData := .tuple (ns.map .int)
theorem dp_ints {K : PySem.W.Frag} {H : Hp} : ∀ ns : List Int, DpAll K H (ns.map V.int) (ns.map PyData.int)
  | [] => .nil
  | n :: ns => .cons (.int n) (dp_ints ns)
theorem dp_wt {K : PySem.W.Frag} {H : Hp} {p : Addr} {ns : List Int} (h : WT K H p ns) : Dp K H (.ref p) (wD ns) := Dp.tup h (dp_ints ns)
theorem lay_ints : ∀ ns : List Int, PyData.canLayAll0 (ns.map .int) = true
  | [] => rfl
  | n :: ns => by
    show (PyData.canLay0 (.int n) && PyData.canLayAll0 (ns.map .int)) = true
    rw [lay_ints ns]
    rfl
theorem depth_ints : ∀ ns : List Int, PyData.depthAll (ns.map .int) ≤ 1
  | [] => Nat.zero_le _
  | n :: ns => by
    have h := depth_ints ns
    have e : (PyData.int n).depth ≤ 1 := by first | exact Nat.le_refl _ | exact Nat.zero_le _
    show max (PyData.int n).depth (PyData.depthAll (ns.map .int)) ≤ 1
    omega
theorem wD_depth (ns : List Int) : (wD ns).depth ≤ 2 := by
  have h := depth_ints ns
  show PyData.depthAll (ns.map .int) + 1 ≤ 2
  omega
theorem wD_shaped (ns : List Int) : SeqAt.shaped (wD ns) = true := by
  have h := wD_depth ns
  unfold SeqAt.shaped
  rw [show (wD ns).canLay0 = PyData.canLayAll0 (ns.map .int) from rfl, lay_ints, decide_eq_true (by omega)]
  rfl
theorem wide_ints : ∀ ns : List Int, wideAll (ns.map .int) = true
  | [] => rfl
  | n :: ns => by
    show (wide (.int n) && wideAll (ns.map .int)) = true
    rw [wide_ints ns]
    rfl
theorem wD_wide {ns : List Int} (h : ns.length ≤ 1000) : wide (wD ns) = true := by
  show (decide ((ns.map PyData.int).length ≤ 1000) && wideAll (ns.map .int)) = true
  rw [List.length_map, decide_eq_true h, wide_ints]
  rfl
/-- the same word twice -/
theorem same_w {K : PySem.W.Frag} {H : Hp} {p q : Addr} {ns : List Int} {Q : VK} {E : XK} (h1 : WT K H p ns) (h2 : WT K H q ns) (hl : ns.length ≤ 1000) (k : ∀ H', Same H H' → Q (.bl true) H') : spSame K 12 [.ref p, .ref q] H Q E :=
  ⟨_, _, wD ns, rfl, dp_wt h1, dp_wt h2, wD_shaped ns, by have := wD_depth ns; omega, wD_wide hl, k⟩
theorem ne_w {K : PySem.W.Frag} {H : Hp} {p q : Addr} {ns : List Int} {Q : VK} (h1 : WT K H p ns) (h2 : WT K H q ns) (k : Q (.bl false) H) : rNeD K (.ref p) (.ref q) H Q := by
  refine ⟨wD ns, wD ns, dp_wt h1, dp_wt h2, wD_shaped ns, wD_shaped ns, ?_⟩
  rw [SeqAt.eqv_refl _ (SeqAt.canLay_of_shaped (wD_shaped ns))]
  exact k
theorem eq_w {K : PySem.W.Frag} {H : Hp} {p q : Addr} {ns : List Int} {Q : VK} (h1 : WT K H p ns) (h2 : WT K H q ns) (k : Q (.bl true) H) : rEqD K (.ref p) (.ref q) H Q := by
  refine ⟨wD ns, wD ns, dp_wt h1, dp_wt h2, wD_shaped ns, wD_shaped ns, ?_⟩
  rw [SeqAt.eqv_refl _ (SeqAt.canLay_of_shaped (wD_shaped ns))]
  exact k
end WDT
theorem Tp.extN {H H' : Hp} (e : LamX.ExtN H H') : Tp H H' := fun b xs h => by
  rcases h with h | ⟨o, h⟩
  · exact .inl (e _ _ h (fun _ => by intro y; cases y))
  · exact .inr ⟨o, e _ _ h (fun _ => by intro y; cases y)⟩
theorem Rng.extN {H H' : Hp} {r : Addr} (e : LamX.ExtN H H') (h : Rng H r) : Rng H' r := by
  obtain ⟨c, ns, i, b, s, h1, h2, h3⟩ := h
  exact ⟨c, ns, i, b, s, e _ _ h1 (fun _ => by intro y; cases y), e _ _ h2 (fun _ => by intro y; cases y), h3⟩
theorem tabs1 {Pt : Addr} {q : Str} {H : Hp} (h : H Pt = some (.tbl #[])) : LamX.Tabs [(Pt, q)] H := fun p hp => by
  rw [List.mem_singleton.mp hp]
  exact ⟨#[], h, by trivial, fun _ _ z => (nomatch z)⟩
/-- an error's word and no field -/
def eD (j : Nat) : PyData := .tuple [.str (en j), .none]
theorem eD_shaped : ∀ j < 20, SeqAt.shaped (eD j) = true := by decide +kernel
theorem eq_e {K : PySem.W.Frag} {H : Hp} {p q : Addr} {j : Nat} {Q : VK} (hj : j < 20) (h1 : SqT K H p [.str (en j), .non]) (h2 : SqT K H q [.str (en j), .non]) (k : Q (.bl true) H) : rEqD K (.ref p) (.ref q) H Q := by
  refine ⟨eD j, eD j, Dp.tup h1 (.cons (.str _) (.cons .non .nil)), Dp.tup h2 (.cons (.str _) (.cons .non .nil)), eD_shaped j hj, eD_shaped j hj, ?_⟩
  rw [SeqAt.eqv_refl _ (SeqAt.canLay_of_shaped (eD_shaped j hj))]
  exact k
/-! ### the word of a term -/
def wd : Tree → List Int
  | .L => []
  | .N l r => ((wd l ++ shf 1 (wd r)) ++ [1]) ++ shf 1 (inv (wd l))
def lwd : Tree → List Int
  | .L => []
  | .N l r => ((lwd l ++ shf 1 (lwd r)) ++ [1]) ++ inv (shf 1 (lwd l))
theorem wd_lenN (l r : Tree) : (wd (.N l r)).length = 2 * (wd l).length + (wd r).length + 1 := by
  show (((wd l ++ shf 1 (wd r)) ++ [1]) ++ shf 1 (inv (wd l))).length = _
  rw [List.length_append, List.length_append, List.length_append, shf_len, shf_len, inv_len, List.length_singleton]
  omega
def wtab : List (List Nat) := [[0, 0, 0, 0, 0, 0, 0, 0, 0, 0, 0, 0, 0], [0, 0, 1, 1, 1, 1, 1, 1, 1, 1, 1, 1, 1], [0, 0, 1, 3, 4, 4, 4, 4, 4, 4, 4, 4, 4], [0, 0, 1, 3, 7, 9, 10, 12, 13, 13, 13, 13, 13], [0, 0, 1, 3, 7, 15, 19, 21, 25, 27, 28, 32, 34], [0, 0, 1, 3, 7, 15, 31, 39, 43, 51, 55, 57, 65], [0, 0, 1, 3, 7, 15, 31, 63, 79, 87, 103, 111, 115]]
def wt (d n : Nat) : Nat := (wtab.getD d []).getD n 0
theorem wt_all : ((List.range 6).all fun d => (List.range 12).all fun a => (List.range 12).all fun b => decide (0 < a → 0 < b → a + b ≤ 12 → 2 * wt d a + wt d b + 1 ≤ wt (d + 1) (a + b))) = true := by decide +kernel
theorem wt_step (d : Nat) (hd : d < 6) (a : Nat) (ha : a < 12) (b : Nat) (hb : b < 12) : 0 < a → 0 < b → a + b ≤ 12 → 2 * wt d a + wt d b + 1 ≤ wt (d + 1) (a + b) := by
  have h1 := List.all_eq_true.mp wt_all d (List.mem_range.mpr hd)
  have h2 := List.all_eq_true.mp h1 a (List.mem_range.mpr ha)
  have h3 := List.all_eq_true.mp h2 b (List.mem_range.mpr hb)
  exact of_decide_eq_true h3
theorem wd_tab : ∀ (d : Nat), d ≤ 6 → ∀ t : Tree, t.dp ≤ d → t.sz ≤ 12 → (wd t).length ≤ wt d t.sz
  | d, _, .L, _, _ => Nat.zero_le _
  | 0, _, .N l r, h, _ => absurd (show max l.dp r.dp + 1 ≤ 0 from h) (by omega)
  | d + 1, hd, .N l r, h, hz => by
    have h : max l.dp r.dp + 1 ≤ d + 1 := h
    have hz : l.sz + r.sz ≤ 12 := hz
    have p1 := l.sz_pos
    have p2 := r.sz_pos
    have h1 := wd_tab d (by omega) l (by omega) (by omega)
    have h2 := wd_tab d (by omega) r (by omega) (by omega)
    have h3 := wt_step d (by omega) l.sz (by omega) r.sz (by omega) p1 p2 hz
    rw [wd_lenN]
    show _ ≤ wt (d + 1) (l.sz + r.sz)
    omega
theorem wt_top : ∀ n < 13, wt 6 n ≤ 115 := by decide +kernel
theorem wd_len {t : Tree} (hd : t.dp ≤ 6) (hz : t.sz ≤ 12) : (wd t).length ≤ 115 := Nat.le_trans (wd_tab 6 (Nat.le_refl _) t hd hz) (wt_top _ (by omega))
theorem ab_pos {n : Int} (h : 0 < n) : ab n = n := if_neg (by omega)
theorem ab_neg {n : Int} (h : n < 0) : ab n = -n := if_pos h
theorem shf_let {k n : Int} (hk : 0 ≤ k) (h : n ≠ 0) : sgn (ab n + k) n ≠ 0 ∧ ab (sgn (ab n + k) n) = ab n + k := by
  unfold sgn
  rcases Int.lt_or_gt_of_ne h with h | h
  · rw [if_neg (by omega), ab_neg h, ab_neg (by omega)]
    omega
  · rw [if_pos h, ab_pos h, ab_pos (by omega)]
    omega
theorem inv_let {n : Int} (h : n ≠ 0) : -n ≠ 0 ∧ ab (-n) = ab n := by
  rcases Int.lt_or_gt_of_ne h with h | h
  · rw [ab_neg h, ab_pos (by omega)]
    omega
  · rw [ab_pos h, ab_neg (by omega)]
    omega
/-- every letter is no 0 and at most m -/
def Lets (m : Int) (ns : List Int) : Prop := ∀ n ∈ ns, n ≠ 0 ∧ ab n ≤ m
theorem Lets.mono {m m' : Int} {ns : List Int} (h : m ≤ m') (l : Lets m ns) : Lets m' ns := fun n hn => ⟨(l n hn).1, Int.le_trans (l n hn).2 h⟩
theorem Lets.app {m : Int} {ns ms : List Int} (h1 : Lets m ns) (h2 : Lets m ms) : Lets m (ns ++ ms) := fun n hn => (List.mem_append.mp hn).elim (h1 n) (h2 n)
theorem Lets.shf {m k : Int} (hk : 0 ≤ k) {ns : List Int} (h : Lets m ns) : Lets (m + k) (shf k ns) := fun n hn => by
  obtain ⟨x, hx, rfl⟩ := List.mem_map.mp hn
  have a := h x hx
  have b := shf_let hk a.1
  exact ⟨b.1, by rw [b.2]; omega⟩
theorem Lets.inv {m : Int} {ns : List Int} (h : Lets m ns) : Lets m (inv ns) := fun n hn => by
  obtain ⟨x, hx, rfl⟩ := List.mem_map.mp hn
  have a := h x (List.mem_reverse.mp hx)
  have b := inv_let a.1
  exact ⟨b.1, by rw [b.2]; exact a.2⟩
theorem Lets.all {m : Int} (hm : m ≤ 40) {ns : List Int} (h : Lets m ns) : ns.all isLet = true := by
  rw [List.all_eq_true]
  intro n hn
  have a := h n hn
  unfold isLet
  rw [decide_eq_true a.1, decide_eq_true (by omega)]
  rfl
theorem okW_of {m : Int} (hm : m ≤ 40) {ns : List Int} (h : Lets m ns) (hl : ns.length ≤ 300) : okW ns = true := by
  unfold okW
  rw [decide_eq_true hl, h.all hm]
  rfl
theorem wd_lets : ∀ t : Tree, Lets t.dp (wd t)
  | .L => fun n hn => by cases hn
  | .N l r => by
    have h1 := wd_lets l
    have h2 := wd_lets r
    have e : ((Tree.N l r).dp : Int) = ((max l.dp r.dp + 1 : Nat) : Int) := rfl
    rw [e]
    refine Lets.app (Lets.app (Lets.app (h1.mono (by omega)) ((h2.shf (by omega)).mono (by omega))) ?_) ((h1.inv.shf (by omega)).mono (by omega))
    intro n hn
    rw [List.mem_singleton.mp hn, ab_pos (by decide)]
    exact ⟨by decide, by omega⟩
theorem shf_inv {k : Int} {ns : List Int} (h : ∀ n ∈ ns, n ≠ 0) : inv (shf k ns) = shf k (inv ns) := by
  unfold inv shf
  rw [← List.map_reverse, List.map_map, List.map_map]
  apply List.map_congr_left
  intro n hn
  have h0 := h n (List.mem_reverse.mp hn)
  show -(sgn (ab n + k) n) = sgn (ab (-n) + k) (-n)
  rw [(inv_let h0).2]
  unfold sgn
  rcases Int.lt_or_gt_of_ne h0 with h | h
  · rw [if_neg (by omega), if_pos (by omega)]
    omega
  · rw [if_pos h, if_neg (by omega)]
theorem lwd_eq : ∀ t : Tree, lwd t = wd t
  | .L => rfl
  | .N l r => by
    show ((lwd l ++ shf 1 (lwd r)) ++ [1]) ++ inv (shf 1 (lwd l)) = ((wd l ++ shf 1 (wd r)) ++ [1]) ++ shf 1 (inv (wd l))
    rw [lwd_eq l, lwd_eq r, shf_inv fun n hn => (wd_lets l n hn).1]
def spWd (K : PySem.W.Frag) (g : Tree → List Int) (n : Nat) : Sp := fun vs H Q _ => ∃ (v : V) (t : Tree), vs = [v] ∧ TA K H v t ∧ t.dp < n ∧ t.dp ≤ 6 ∧ t.sz ≤ 12 ∧ ∀ p H', Same H H' → WT K H' p (g t) → Q (.ref p) H'
theorem spWd_no {K : PySem.W.Frag} {g : Tree → List Int} : ∀ vs H Q E, ¬ spWd K g 0 vs H Q E := fun vs H Q E h => by
  obtain ⟨v, t, _, _, h, _⟩ := h
  omega
/-- word_of: the word, or the error -/
def spWordE (K : PySem.W.Frag) (C : Addr) : Sp := fun vs H Q E => ∃ (v : V) (d : PyData), vs = [v] ∧ NT K H v d ∧ ndD d ≤ 1000 ∧ (∀ t : Tree, d = t.d → t.sz ≤ 12 → t.dp ≤ 6 → ∀ p H', Same H H' → WT K H' p (wd t) → Q (.ref p) H') ∧ (okd d = false → ∀ H', Same H H' → E (.ref C) none H')
theorem wfits {a b : List Int} (h : a.length + b.length ≤ 10000) : (a.map V.int).length + (b.map V.int).length ≤ sizeLine := by
  rw [List.length_map, List.length_map]
  exact Nat.le_trans h (by decide)
theorem cat_w {K : PySem.W.Frag} {H : Hp} {a b : Addr} {ns ms : List Int} {Q : VK} (ha : WT K H a ns) (hb : WT K H b ms) (hl : ns.length + ms.length ≤ 10000) (q : ∀ p H', Same H H' → WT K H' p (ns ++ ms) → Q (.ref p) H') : rCatA K (.ref a) (.ref b) H Q :=
  cat_ok ha hb (wfits hl) fun p H' sm h => q p H' sm (by rw [WT, List.map_append]; exact h)
theorem d_inj : ∀ {t u : Tree}, t.d = u.d → t = u
  | .L, .L, _ => rfl
  | .L, .N _ _, h => by
    have h : PyData.tuple [] = .tuple [_, _] := h
    injection h with h
    cases h
  | .N _ _, .L, h => by
    have h : PyData.tuple [_, _] = .tuple [] := h
    injection h with h
    cases h
  | .N l r, .N l' r', h => by
    have h : PyData.tuple [l.d, r.d] = .tuple [l'.d, r'.d] := h
    injection h with h
    injection h with h1 h2
    injection h2 with h2 _
    rw [d_inj h1, d_inj h2]
/-! ### the draws' state, its list of cells named -/
def RngC (H : Hp) (r c : Addr) : Prop := ∃ (ns : List Int) (i b s : Int), H r = some (.lst [.ref c, .int i, .int b, .int s]) ∧ H c = some (.lst (ns.map V.int)) ∧ c ≠ r ∧ 0 ≤ i ∧ 0 ≤ b ∧ 0 ≤ s ∧ s < 2147483647
theorem Rng.toC {H : Hp} {r : Addr} (h : Rng H r) : ∃ c, RngC H r c := by
  obtain ⟨c, h⟩ := h
  exact ⟨c, h⟩
theorem RngC.rng {H : Hp} {r c : Addr} (h : RngC H r c) : Rng H r := ⟨c, h⟩
theorem RngC.keep {H H' : Hp} {r c : Addr} (h : RngC H r c) (e1 : ∀ o, H r = some o → H' r = some o) (e2 : ∀ o, H c = some o → H' c = some o) : RngC H' r c := by
  obtain ⟨ns, i, b, s, h1, h2, h3⟩ := h
  exact ⟨ns, i, b, s, e1 _ h1, e2 _ h2, h3⟩
theorem RngC.same {H H' : Hp} {r c : Addr} (e : Same H H') (h : RngC H r c) : RngC H' r c := h.keep (e _) (e _)
theorem RngC.lst {H : Hp} {r c : Addr} (h : RngC H r c) : ∃ ys, H r = some (.lst ys) := h.rng.lst
theorem RngC.ne {H : Hp} {r c p : Addr} (h : RngC H r c) (e : H p = none) : p ≠ r ∧ p ≠ c := by
  obtain ⟨ns, i, b, s, h1, h2, h3⟩ := h
  refine ⟨fun z => ?_, fun z => ?_⟩
  · rw [z, h1] at e
    cases e
  · rw [z, h2] at e
    cases e
theorem RngC.set {H : Hp} {r c p : Addr} {o : HO} (h : RngC H r c) (n : p ≠ r ∧ p ≠ c) : RngC (upd H p o) r c :=
  h.keep (fun o e => by rw [upd_ne (Ne.symm n.1)]; exact e) (fun o e => by rw [upd_ne (Ne.symm n.2)]; exact e)
theorem RngC.extN {H H' : Hp} {r c : Addr} (e : LamX.ExtN H H') (h : RngC H r c) : RngC H' r c := by
  obtain ⟨ns, i, b, s, h1, h2, h3⟩ := h
  exact ⟨ns, i, b, s, e _ _ h1 (fun _ => by intro y; cases y), e _ _ h2 (fun _ => by intro y; cases y), h3⟩
theorem RngC.tp {H H' : Hp} {r c : Addr} (R : RngC H r c) (b : But r H H') : Tp H H' := by
  obtain ⟨ys, hy⟩ := R.lst
  exact Tp.but hy b
theorem RngC.tabs {T : List (Addr × Str)} {H H' : Hp} {r c : Addr} (R : RngC H r c) (b : But r H H') (t : LamX.Tabs T H) : LamX.Tabs T H' := by
  obtain ⟨ys, hy⟩ := R.lst
  exact tabs_set t hy b
theorem tabs_same {T : List (Addr × Str)} {H H' : Hp} (e : Same H H') (t : LamX.Tabs T H) : LamX.Tabs T H' := fun p hp => by
  obtain ⟨ps, h1, h2, h3⟩ := t p hp
  refine ⟨ps, e _ _ h1, h2, fun pos cv ec => ?_⟩
  obtain ⟨c, rfl, hc⟩ := h3 pos cv ec
  exact ⟨c, rfl, e _ _ hc⟩
def spDrawC : Sp := fun vs H Q _ => ∃ (r : Addr) (n : Int) (c : Addr), vs = [.ref r, .int n] ∧ RngC H r c ∧ 0 < n ∧ n < 1073741824 ∧ ∀ (v : Int) (H' : Hp), 0 ≤ v → v < n → RngC H' r c → But r H H' → Q (.int v) H'
theorem spDraw_C {vs : List V} {H : Hp} {Q : VK} {E : XK} (h : spDraw vs H Q E) : spDrawC vs H Q E := by
  obtain ⟨r, n, rfl, R, h1, h2, q⟩ := h
  obtain ⟨c, R⟩ := R.toC
  exact ⟨r, n, c, rfl, R, h1, h2, fun v H' v0 v1 R' b' => q v H' v0 v1 R'.rng b'⟩
def spPickC (K : PySem.W.Frag) : Sp := fun vs H Q _ => ∃ (r l c : Addr) (xs : List V), vs = [.ref r, .ref l] ∧ RngC H r c ∧ (SqL K H l xs ∨ SqT K H l xs) ∧ 0 < xs.length ∧ xs.length ≤ 10000 ∧ l ≠ r ∧ ∀ v H', v ∈ xs → RngC H' r c → But r H H' → Q v H'
theorem spPick_C {K : PySem.W.Frag} {vs : List V} {H : Hp} {Q : VK} {E : XK} (h : spPick K vs H Q E) : spPickC K vs H Q E := by
  obtain ⟨r, l, xs, rfl, R, h1, h2, h3, h4, q⟩ := h
  obtain ⟨c, R⟩ := R.toC
  exact ⟨r, l, c, xs, rfl, R, h1, h2, h3, h4, fun v H' hv R' b' => q v H' hv R'.rng b'⟩
def spTermC (K : PySem.W.Frag) (n : Nat) : Sp := fun vs H Q _ => ∃ (r : Addr) (many : Int) (k : Nat) (c : Addr), k < n ∧ vs = [.ref r, .int many, .int (2 ^ k)] ∧ k ≤ 6 ∧ 1 ≤ many ∧ many ≤ 2 ^ k ∧ RngC H r c ∧
  ∀ (v : V) (t : Tree) (H' : Hp), TA K H' v t → (t.sz : Int) = many → t.dp ≤ k → RngC H' r c → But r H H' → Q v H'
theorem spTerm_C {K : PySem.W.Frag} {n : Nat} {vs : List V} {H : Hp} {Q : VK} {E : XK} (h : spTerm K n vs H Q E) : spTermC K n vs H Q E := by
  obtain ⟨r, m, k, hk, e, h1, h2, h3, R, q⟩ := h
  obtain ⟨c, R⟩ := R.toC
  exact ⟨r, m, k, c, hk, e, h1, h2, h3, R, fun v t H' a b d R' b' => q v t H' a b d R'.rng b'⟩
def spAnyC (K : PySem.W.Frag) : Sp := fun vs H Q _ => ∃ (r : Addr) (top : Int) (c : Addr), vs = [.ref r, .int top] ∧ 1 ≤ top ∧ top ≤ 64 ∧ RngC H r c ∧
  ∀ (v : V) (t : Tree) (H' : Hp), TA K H' v t → (t.sz : Int) ≤ top → t.dp ≤ 6 → RngC H' r c → But r H H' → Q v H'
theorem spAny_C {K : PySem.W.Frag} {vs : List V} {H : Hp} {Q : VK} {E : XK} (h : spAny K vs H Q E) : spAnyC K vs H Q E := by
  obtain ⟨r, m, e, h1, h2, R, q⟩ := h
  obtain ⟨c, R⟩ := R.toC
  exact ⟨r, m, c, e, h1, h2, R, fun v t H' a b d R' b' => q v t H' a b d R'.rng b'⟩
/-! ### tuple * int, also where the tuple itself is given back -/
section OPR
open PySem.Spec PyProof.Rows
theorem tuple_mul_same (l : Addr) (items : Array Value) (n : Nat) (dd : Option Addr) (sl : Array (Option Value)) (x : Int) (u : Tok) (c0 : (decide (x < -(2 ^ 63)) || decide (x ≥ 2 ^ 63)) = false) (c1 : (items.isEmpty || x == 1) = true) :
    Meets (Builtin.«tuple.__mul__» ⟨[.ref l, .int x u], []⟩) (fun _ R s => s.heap.get? l = some { cls := .type "tuple", dict := dd, data := .seq items n, slots := sl } ∧ R (.ok (.ret (Value.ref l))) { s with heap := s.heap, toks := s.toks }) :=
  .of_wp fun prog w A R s h => by
    obtain ⟨hp, g, d, tk, os⟩ := s
    obtain ⟨hl, h⟩ := h
    have f1 := AutoSeq1.idx_int
    wp_walk using wpAny_loadPart' hl
    repeat (first
      | (refine wpAny_ite_false (decide_eq_false (by rw [c0]; exact Bool.false_ne_true)) ?_; wp_walk using wpAny_loadPart' hl)
      | (refine wpAny_ite_true (decide_eq_true c1) ?_; wp_walk using wpAny_loadPart' hl))
    exact ⟨_, rfl, h⟩
theorem op_repS {X : Cx} : OpR X (binaryOp .Mult) (fun x y H Q => ∃ l k xs, x = .ref l ∧ y = .int k ∧ SqT X.K H l xs ∧ (xs = [] ∨ k = 1) ∧ 1 ≤ k ∧ k ≤ 1000 ∧ Q (.ref l) H) := by
  intro pins s σ H x y v u Q I rx ry h
  obtain ⟨l, k, xs, rfl, rfl, hT, hne, h1, h2, q⟩ := h
  cases rx
  obtain ⟨t, rfl⟩ := ry
  obtain ⟨its, r, ⟨⟨cls, dd, data, sl⟩, ho, hc, n, hd⟩, hs⟩ := I.tuple hT
  simp only at hc hd
  subst hc hd
  have c0 : (decide (k < -(2 ^ 63)) || decide (k ≥ 2 ^ 63)) = false := by
    rw [decide_eq_false (by omega), decide_eq_false (by omega)] <;> rfl
  have c1 : (its.toArray.isEmpty || k == 1) = true := by
    rcases hne with e | e
    · subst e
      cases r
      rfl
    · rw [e]
      simp
  exact wpAny_binaryOp_repeat_ref (T := "tuple") (U := "int") (by decide) ⟨_, ho, rfl⟩ (fun s' => typeIs_int s' k t) noFill_tuple_mul PySem.F.fills_int_mul PySem.F.slot_int_rmul repeat_tuple PySem.F.slot_int_index.lookup
    (call_meets PySem.F.slot_int_rmul (typeIs_int s k t) PySem.F.entry_int_rmul (PySem.F.args_int_rmul_2 _ _) (int_rmul_tuple k t l its.toArray n dd sl)
      ⟨ho, rfl, ⟨_, ho, rfl⟩, call_meets PySem.F.slot_tuple_mul ⟨_, ho, rfl⟩ PySem.F.entry_tuple_mul (PySem.F.args_tuple_mul_2 _ _) (tuple_mul_same l its.toArray n dd sl k t c0 c1) ⟨ho, ⟨.ref l, H, I, rfl, q⟩⟩⟩)
def rRepA (K : PySem.W.Frag) : R2 := fun x y H Q => ∃ l k xs, x = .ref l ∧ y = .int k ∧ SqT K H l xs ∧ 1 ≤ k ∧ k ≤ 1000 ∧ xs.length ≤ 1000 ∧ ∀ p H', Same H H' → SqT K H' p (List.replicate k.toNat xs).flatten → Q (.ref p) H'
theorem op_repA {X : Cx} : OpR X (binaryOp .Mult) (rRepA X.K) := by
  intro pins s σ H x y v u Q I rx ry h
  obtain ⟨l, k, xs, rfl, rfl, hT, h1, h2, hz, q⟩ := h
  by_cases hx : xs = []
  · refine op_repS pins s σ H _ _ v u Q I rx ry ⟨l, k, xs, rfl, rfl, hT, .inl hx, h1, h2, q l H (Same.refl _) ?_⟩
    have e : (List.replicate k.toNat xs).flatten = xs := by
      rw [hx]
      simp
    rw [e]
    exact hT
  · by_cases hk : k = 1
    · refine op_repS pins s σ H _ _ v u Q I rx ry ⟨l, k, xs, rfl, rfl, hT, .inr hk, h1, h2, q l H (Same.refl _) ?_⟩
      have e : (List.replicate k.toNat xs).flatten = xs := by
        rw [hk]
        simp
      rw [e]
      exact hT
    · exact op_repT pins s σ H _ _ v u Q I rx ry ⟨l, k, xs, rfl, rfl, hT, hx, by omega, h2, hz, fun p np => q p _ (Same.new np _) (SqT.here upd_same)⟩
end OPR
/-- a word repeated -/
def repW (k : Int) (ns : List Int) : List Int := (List.replicate k.toNat ns).flatten
theorem repW_map (k : Int) (ns : List Int) : (List.replicate k.toNat (ns.map V.int)).flatten = (repW k ns).map V.int := by
  unfold repW
  rw [List.map_flatten, List.map_replicate]
theorem repW_len (k : Int) (ns : List Int) : (repW k ns).length = k.toNat * ns.length := by
  unfold repW
  rw [List.length_flatten, List.map_replicate, List.sum_replicate_nat]
theorem repW_mem {k : Int} {ns : List Int} {n : Int} (h : n ∈ repW k ns) : n ∈ ns := by
  unfold repW at h
  obtain ⟨l, h1, h2⟩ := List.mem_flatten.mp h
  rw [List.eq_of_mem_replicate h1] at h2
  exact h2
theorem rep_w {K : PySem.W.Frag} {H : Hp} {a : Addr} {ns : List Int} {k : Int} {Q : VK} (ha : WT K H a ns) (h1 : 1 ≤ k) (h2 : k ≤ 1000) (hl : ns.length ≤ 1000) (q : ∀ p H', Same H H' → WT K H' p (repW k ns) → Q (.ref p) H') : rRepA K (.ref a) (.int k) H Q :=
  ⟨a, k, _, rfl, rfl, ha, h1, h2, by rw [List.length_map]; exact hl, fun p H' sm h => q p H' sm (by rw [WT, ← repW_map]; exact h)⟩
/-! ### words that are drawn -/
theorem Tp.rng {r : Addr} {H H' : Hp} (R : Rng H r) (b : But r H H') : Tp H H' := by
  obtain ⟨ys, hy⟩ := R.lst
  exact Tp.but hy b
def spAnyW (K : PySem.W.Frag) : Sp := fun vs H Q _ => ∃ (r : Addr) (top wide : Int) (c : Addr), vs = [.ref r, .int top, .int wide] ∧ 0 ≤ top ∧ top ≤ 1000 ∧ 1 ≤ wide ∧ wide ≤ 1000 ∧ RngC H r c ∧
  ∀ (p : Addr) (ns : List Int) (H' : Hp), WT K H' p ns → (ns.length : Int) ≤ top → Lets wide ns → RngC H' r c → But r H H' → Q (.ref p) H'
def spBadW (K : PySem.W.Frag) : Sp := fun vs H Q _ => ∃ r c : Addr, vs = [.ref r] ∧ RngC H r c ∧ ∀ (p : Addr) (ns : List Int) (H' : Hp), WT K H' p ns → okW ns = false → ns.length ≤ 400 → RngC H' r c → But r H H' → Q (.ref p) H'
theorem okW_mem {ns : List Int} {n : Int} (h : n ∈ ns) (hb : isLet n = false) : okW ns = false := by
  unfold okW
  have : ns.all isLet = false := by
    rw [List.all_eq_false]
    exact ⟨n, h, by rw [hb]; decide⟩
  rw [this, Bool.and_false]
theorem okW_long {ns : List Int} (h : 300 < ns.length) : okW ns = false := by
  unfold okW
  rw [decide_eq_false (by omega)]
  rfl
theorem inv_inv (ns : List Int) : inv (inv ns) = ns := by
  unfold inv
  rw [← List.map_reverse, List.map_map, List.reverse_reverse]
  have e : ((fun n : Int => -n) ∘ fun n => -n) = id := by
    funext n
    exact Int.neg_neg n
  rw [e, List.map_id]
theorem okW_inv {m : Int} (hm : m ≤ 40) {ns : List Int} (h : Lets m ns) (hl : ns.length ≤ 300) : okW (inv ns) = true := okW_of hm h.inv (by rw [inv_len]; exact hl)
theorem shf_all {k : Int} (hk : 0 ≤ k) {ns : List Int} (h : Lets 40 ns) : (shf k ns).all isLet = !(ns.any fun n => decide (40 < ab n + k)) := by
  induction ns with
  | nil => rfl
  | cons n ns ih =>
    have h1 := h n List.mem_cons_self
    have h2 := ih fun x hx => h x (List.mem_cons_of_mem _ hx)
    have h3 := shf_let hk h1.1
    show (isLet (sgn (ab n + k) n) && (shf k ns).all isLet) = !(decide (40 < ab n + k) || ns.any fun n => decide (40 < ab n + k))
    rw [h2, Bool.not_or]
    congr 1
    unfold isLet
    rw [decide_eq_true h3.1, h3.2, Bool.true_and]
    by_cases z : ab n + k ≤ 40
    · rw [decide_eq_true z, decide_eq_false (by omega)]
      rfl
    · rw [decide_eq_false z, decide_eq_true (by omega)]
      rfl
def vD (d : PyData) : PyData := .tuple [.str ("value" : Str), d]
theorem vD_shaped (ns : List Int) : SeqAt.shaped (vD (wD ns)) = true := by
  have h := wD_depth ns
  have hs := wD_shaped ns
  have e1 : (vD (wD ns)).canLay0 = (PyData.canLay0 (.str ("value" : Str)) && (PyData.canLay0 (wD ns) && true)) := rfl
  have e2 : (vD (wD ns)).depth = max (PyData.depth (.str ("value" : Str))) (max (wD ns).depth 0) + 1 := rfl
  have e3 : PyData.depth (.str ("value" : Str)) ≤ 1 := by first | exact Nat.le_refl _ | exact Nat.zero_le _
  unfold SeqAt.shaped
  rw [e1, SeqAt.canLay_of_shaped hs, decide_eq_true (by omega)]
  decide +kernel
theorem vD_wide {ns : List Int} (h : ns.length ≤ 1000) : wide (vD (wD ns)) = true := by
  show (decide (2 ≤ 1000) && (true && (wide (wD ns) && true))) = true
  rw [wD_wide h]
  decide
theorem vD_depth (ns : List Int) : (vD (wD ns)).depth < 12 := by
  have h := wD_depth ns
  have e2 : (vD (wD ns)).depth = max (PyData.depth (.str ("value" : Str))) (max (wD ns).depth 0) + 1 := rfl
  have e3 : PyData.depth (.str ("value" : Str)) ≤ 1 := by first | exact Nat.le_refl _ | exact Nat.zero_le _
  omega
theorem dp_vD {K : PySem.W.Frag} {H : Hp} {q p : Addr} {ns : List Int} (h : SqT K H q [.str ("value" : Str), .ref p]) (w : WT K H p ns) : Dp K H (.ref q) (vD (wD ns)) := Dp.tup h (.cons (.str _) (.cons (dp_wt w) .nil))
theorem dp_eD {K : PySem.W.Frag} {H : Hp} {q : Addr} {j : Nat} (h : SqT K H q [.str (en j), .non]) : Dp K H (.ref q) (eD j) := Dp.tup h (.cons (.str _) (.cons .non .nil))
theorem eD_wide (j : Nat) : wide (eD j) = true := rfl
theorem eD_depth : ∀ j < 20, (eD j).depth < 12 := by decide +kernel
section OPL
open PySem.Spec PyProof.Rows
/-! ### a lambda whose only parameter has a written int for default, and is not read -/
structure LamSD (N : List Str) (sc scope : Scope) : Prop where
  kind : scope.kind = .function
  co : scope.isCoroutine = false
  gen : scope.isGenerator = false
  own : ∀ y ∈ scope.names, y.2 ≠ .cell ∧ (y.2 = .local → y.1 ∉ N)
  free : ∀ y ∈ scope.names, y.2 = .free → sc.names.lookup y.1 = some .cell ∨ sc.names.lookup y.1 = some .free
def lamSDB (N : List Str) (sc scope : Scope) : Bool :=
  decide (scope.kind = .function) && !scope.isCoroutine && !scope.isGenerator && scope.names.all fun y => !decide (y.2 = .cell) && (!decide (y.2 = .local) || !decide (y.1 ∈ N)) && (!decide (y.2 = .free) || decide (sc.names.lookup y.1 = some .cell) || decide (sc.names.lookup y.1 = some .free))
theorem lamSD_by {N : List Str} {sc scope : Scope} (h : lamSDB N sc scope = true) : LamSD N sc scope := by
  unfold lamSDB at h
  simp only [Bool.and_eq_true, Bool.or_eq_true, Bool.not_eq_true', decide_eq_true_eq, decide_eq_false_iff_not, List.all_eq_true] at h
  obtain ⟨⟨⟨h1, h2⟩, h3⟩, h4⟩ := h
  refine ⟨h1, h2, h3, fun y hy => ⟨(h4 y hy).1.1, fun e => ?_⟩, fun y hy e => ?_⟩
  · rcases (h4 y hy).1.2 with z | z
    · exact absurd e z
    · exact z
  · rcases (h4 y hy).2 with (z | z) | z
    · exact absurd e z
    · exact .inl z
    · exact .inr z
theorem LamSD.has {X : Cx} {N : List Str} {scope : Scope} (L : LamSD N X.env.scope scope) (ok : X.Ok) : ∀ y ∈ scope.names, y.2 = .free → ∃ c, X.env.cells.lookup y.1 = some c := fun y hy e => by
  rcases L.free y hy e with k | k
  · exact ok.has _ (.inl k)
  · exact ok.has _ (.inr k)
section
variable {X : Cx} {pins : List (Addr × Obj)} {σ : L2.St} {H HZ : Hp} {s s1 : Shared}
theorem lam_startD {A : Around} {outer : List Env} {E : XK} {scope : Scope} {f c' : Addr} {h₁ : Heap} {tk : Nat} {mb : Str → Option Value} (I : Inv X pins σ H s) (L : LamSD X.N X.env.scope scope) (e0 : Env0 X.prog X.w X.K X.mg X.base A outer s1 HZ) (hd : A.handled = none)
    (un : Un (frs X.stack) [] H HZ s.heap s1.heap) (hns : h₁.Ns s1.heap.objs.size mb) (kp : ∀ b o, s1.heap.get? b = some o → h₁.get? b = some o) :
    Inv (LamX.lamCx X A outer s1 HZ E scope f c') [] σ HZ { s1 with heap := h₁, toks := tk } := by
  have hfree := L.has I.ok
  have cm : ∀ {y c}, (cloFrom X.env.cells scope.names []).lookup y = some c → X.env.cells.lookup y = some c := fun {y c} e => by
    rcases cloFrom_mem (PySem.mem_of_lookup e) with hm | ⟨h1, h2⟩
    · cases hm
    · obtain ⟨c1, hc⟩ := hfree _ h1 rfl
      have hc : X.env.cells.lookup y = some c1 := hc
      have e2 : c = c1 := by
        rw [h2, hc] <;> rfl
      rw [e2]
      exact hc
  have look : ∀ {y}, scope.names.lookup y = some .free → ∃ c, (cloFrom X.env.cells scope.names []).lookup y = some c := fun {y} hl => by
    have hy : (y, NameKind.free) ∈ scope.names := PySem.mem_of_lookup hl
    exact mem_lookup (cloFrom_has (cells := X.env.cells) (acc := []) hy)
  have cellK : ∀ {c : Addr} {v : Option Value}, H c = none → s.heap.IsCell c v → h₁.IsCell c v := fun {c v} n ⟨o, ho, hd⟩ => by
    obtain ⟨sl, q⟩ := un.any ho n (by simp)
    exact ⟨_, kp _ _ q, hd⟩
  have noA : ∀ b : Addr, b ∉ (LamX.lamCx X A outer s1 HZ E scope f c').ex := fun b z => absurd (show b ∈ ([] : List Addr) from z) (by simp)
  refine ⟨⟨e0.mod, L.kind, rfl, rfl, Nat.le_refl _, fun y z c e1 e2 => I.ok.inj y z c (cm e1) (cm e2), fun y hy => ?_, fun y c z _ => ?_, fun _ => hd, Around.frames_deeper e0.frames, .inr ⟨rfl, rfl⟩, fun b z => absurd z (noA b), e0.bs, e0.bsz, fun b _ _ => noA b,
      fun b z => absurd z (noA b), e0.funs, e0.frf⟩,
    rfl, e0.bare, Un.kept kp, ⟨_, hns, fun i y v e1 e2 e3 => ?_⟩, fun y c e => ?_, e0.hok.fresh (Nat.le_refl _), fun y c e => ?_, fun q hq => absurd (show q ∈ ([] : List (Addr × Obj)) ++ [] from hq) (by simp), e0.hok.kept kp, I.len⟩
  · have hy : scope.names.lookup y = some .cell ∨ scope.names.lookup y = some .free := hy
    rcases hy with hy | hy
    · exact absurd rfl (L.own _ (PySem.mem_of_lookup hy)).1
    · exact look hy
  · have z : false = true := z
    cases z
  · have e3 : Vis scope y := e3
    have e1' : X.N[i]? = some y := e1
    rcases e3 with k | k | k
    · exact absurd (List.mem_of_getElem? e1') ((L.own _ (PySem.mem_of_lookup k)).2 rfl)
    · exact absurd rfl (L.own _ (PySem.mem_of_lookup k)).1
    · obtain ⟨m, hn, hl⟩ := I.loc
      have hvis : Vis X.env.scope y := (L.free _ (PySem.mem_of_lookup k) rfl).elim (fun k => .inr (.inl k)) (fun k => .inr (.inr k))
      obtain ⟨w', r, q⟩ := hl i y v e1 e2 hvis
      obtain ⟨c2, h2⟩ := look k
      refine ⟨w', r, .inr ⟨.inr k, c2, h2, ?_⟩⟩
      have c1 := cm h2
      rcases q with ⟨k', _⟩ | ⟨_, c3, e', z⟩
      · have k' : X.env.scope.names.lookup y = some .local := k'
        rcases L.free _ (PySem.mem_of_lookup k) rfl with k2 | k2 <;> rw [show X.env.scope.names.lookup y = _ from k2] at k' <;> cases k'
      · rw [c1] at e'
        cases e'
        exact cellK (I.freeC y _ c1) z
  · obtain ⟨w', z⟩ := I.cell y c (cm e)
    exact ⟨w', cellK (I.freeC y c (cm e)) z⟩
  · obtain ⟨v, o, ho, hd⟩ := I.cell y c (cm e)
    exact un.free c o ho (I.freeC y c (cm e)) (by simp)
theorem lam_makeD {T : List (Addr × Str)} {c P : Addr} {params : Arguments} {body : Expr} {scope : Scope} {pos pz : Pos} {z : Int} {jz : Nat} {Q : Value → Shared → Prop} (I : Inv X pins σ H s) (TB : LamX.TabB X.base X.mg c P) (hcode : X.env.code = .ref c)
    (hm : (P, X.env.qual ++ "<lambda>") ∈ T) (hu : ∀ p ∈ T, p.1 = P → p.2 = X.env.qual ++ "<lambda>") (hT : LamX.Tabs T H) (hd1 : params.defaults = [.Constant (.int z) jz pz]) (hk0 : params.kw_defaults = []) (hfree : ∀ y ∈ scope.names, y.2 = .free → ∃ c, X.env.cells.lookup y.1 = some c)
    (h : ∀ (f c' T0 : Addr) (u doc pm ctv : Value) (H1 : Hp) (s' : Shared), Inv X pins σ H1 s' → LamX.ExtN H H1 → LamX.Tabs T H1 →
      s'.heap.get? f = some (PySem.W.kdv_obj "<lambda>" (X.env.qual ++ "<lambda>") params (.expr body) scope (cloFrom X.env.cells scope.names []) (.ref T0) doc pm c' ctv) → H1 f = none → f ∉ frs X.stack → s'.heap.get? T0 = some (PySem.W.kdv_tup [u]) → H1 T0 = none → T0 ∉ frs X.stack → H1 c' = some (LamX.CodeO c' (X.env.qual ++ "<lambda>")) → Q (.ref f) s') :
    wpAny (model X.prog X.w) X.A (eval (.Lambda params body scope pos) X.env) Q X.xe s := by
  refine PySem.W.kdv_lam (by rw [hd1]; rfl) hk0 ?_
  rw [hd1]
  refine PySem.W.kdv_all1 (thn (pe_int.run pins s σ H (fun v H' => v = .int z ∧ H' = H) I ⟨rfl, rfl⟩) fun u s0 ⟨v, H0, I0, r0, ev, eH⟩ => PySem.W.kdv_all0 ?_)
  subst ev eH
  rw [makeFunction_eq]
  simp only [List.zip_nil_right, List.filterMap_nil, List.isEmpty_nil, if_true, pure_bind, List.isEmpty_cons, Bool.false_eq_true, if_false]
  refine wpAny_bind (wpAny_newTextTuple ?_)
  obtain ⟨ps, hP, ht, ha⟩ := hT _ hm
  have I2 : Inv X pins σ H0 { s0 with heap := s0.heap.push (PySem.W.kdv_tup [u]) } := I0.kept (t' := s0.toks) fun b o e => Heap.get?_push_of_some _ e
  have hT0 : (s0.heap.push (PySem.W.kdv_tup [u])).get? s0.heap.objs.size = some (PySem.W.kdv_tup [u]) := Heap.get?_push_size _ rfl
  have hT0n : H0 s0.heap.objs.size = none := I0.hok.fresh (Nat.le_refl _)
  have bP : (s0.heap.push (PySem.W.kdv_tup [u])).BuiltinsAt X.mg P := TB.bm.keeps I2.bk
  have hP' : (s0.heap.push (PySem.W.kdv_tup [u])).get? P = some { cls := .none, data := .fields ps } := I2.hok P _ hP
  have nofr : ∀ f, s0.heap.objs.size ≤ f → f ∉ frs X.stack := fun f hf z => by
    rcases List.mem_cons.mp (I0.stkSub _ z) with e | e
    · have h1 := I0.lt
      rw [← e] at h1
      exact Nat.lt_irrefl _ (Nat.lt_of_lt_of_le h1 hf)
    · exact I0.nofs hf e
  have sz2 : s0.heap.objs.size ≤ (s0.heap.push (PySem.W.kdv_tup [u])).objs.size := by rw [Heap.size_push]; omega
  have ltT : s0.heap.objs.size < (s0.heap.push (PySem.W.kdv_tup [u])).objs.size := by rw [Heap.size_push]; omega
  have nTP : s0.heap.objs.size ≠ P := fun z => by
    rw [← z, hT0n] at hP
    cases hP
  cases hc : codeAmong pos ps.toList with
  | none =>
    refine PySem.W.kdv_makeTail (s := { s0 with heap := s0.heap.push (PySem.W.kdv_tup [u]) }) (mg := X.mg) (c := c) (P := P) (ps := ps) (closure_ok hfree) I2.ok.glob (I2.mod.glob.keeps I2.bk) hcode (TB.code.keeps I2.bk) hP' ht hc TB.gP bP fun c' ctv doc h' tk hx hge hlt hrec htb => ?_
    obtain ⟨c2, oc, vs, t, e2, hoc, hd, hv⟩ := hrec
    cases e2
    have hsz : (s0.heap.push (PySem.W.kdv_tup [u])).objs.size ≤ h'.objs.size := Nat.le_trans hge (Nat.le_of_lt hlt)
    have nC : H0 c' = none := I2.hok.fresh hge
    have I1 := LamX.inv_table (t' := tk) (more := #[rawInt pos.line, rawInt pos.col, .ref c']) (h' := h'.push (PySem.W.kdv_obj "<lambda>" (X.env.qual ++ "<lambda>") params (.expr body) scope (cloFrom X.env.cells scope.names []) (.ref s0.heap.objs.size) doc ((X.mg "__name__").getD .none) c' ctv)) I2 hP
      (fun b o hb e => Heap.get?_push_of_some _ (hx b o hb e)) (Heap.get?_push_of_some _ htb) hge ⟨oc, vs, t, Heap.get?_push_of_some _ hoc, hd, hv⟩
    have hE : LamX.ExtN H0 (upd (upd H0 P (.tbl (ps ++ #[rawInt pos.line, rawInt pos.col, .ref c']))) c' (LamX.CodeO c' (X.env.qual ++ "<lambda>"))) := fun b o e n => by
      rw [upd_ne (ne_of_none e nC), upd_ne (fun z => n ps (Option.some.inj (e.symm.trans (by rw [z]; exact hP))))]
      exact e
    have eL : (ps ++ #[rawInt pos.line, rawInt pos.col, .ref c']).toList = ps.toList ++ [rawInt pos.line, rawInt pos.col, .ref c'] := by simp
    have nTc : s0.heap.objs.size ≠ c' := Nat.ne_of_lt (Nat.lt_of_lt_of_le ltT hge)
    refine h h'.objs.size c' s0.heap.objs.size u doc ((X.mg "__name__").getD .none) ctv _ _ I1 hE (fun p hp => ?_) (Heap.get?_push_size _ rfl) ?_ (nofr _ (Nat.le_trans sz2 hsz)) (Heap.get?_push_of_some _ (hx _ _ nTP hT0)) ?_ (nofr _ (Nat.le_refl _)) upd_same
    · by_cases hb : p.1 = P
      · rw [hu p hp hb, hb]
        refine ⟨_, by rw [upd_ne (ne_of_none hP nC), upd_same], by rw [eL]; exact PySem.TriplesOk_snoc _ _ _ _ ht, fun p' cv hcv => ?_⟩
        rw [eL] at hcv
        rcases LamX.among_app _ ht hcv with z | z
        · obtain ⟨c0, e1, e2⟩ := ha p' cv z
          exact ⟨c0, e1, hE _ _ e2 LamX.codeO_ne⟩
        · exact ⟨c', z, upd_same⟩
      · obtain ⟨ps', a1, a2, a3⟩ := hT p hp
        refine ⟨ps', by rw [upd_ne (ne_of_none a1 nC), upd_ne hb]; exact a1, a2, fun p' cv hcv => ?_⟩
        obtain ⟨c0, e1, e2⟩ := a3 p' cv hcv
        exact ⟨c0, e1, hE _ _ e2 LamX.codeO_ne⟩
    · have n1 : h'.objs.size ≠ c' := Nat.ne_of_gt hlt
      have n2 : h'.objs.size ≠ P := Nat.ne_of_gt (Nat.lt_of_lt_of_le (Heap.lt_size hP') hsz)
      rw [upd_ne n1, upd_ne n2]
      exact I2.hok.fresh hsz
    · rw [upd_ne nTc, upd_ne nTP]
      exact hT0n
  | some cv =>
    obtain ⟨c', e, hco⟩ := ha pos cv hc
    subst e
    refine PySem.W.kdv_makeTailHit (s := { s0 with heap := s0.heap.push (PySem.W.kdv_tup [u]) }) (mg := X.mg) (c := c) (P := P) (ps := ps) (closure_ok hfree) I2.ok.glob (I2.mod.glob.keeps I2.bk) hcode (TB.code.keeps I2.bk) hP' ht hc bP fun ctv doc h' tk hx hsz => ?_
    have I1 : Inv X pins σ H0 { s0 with heap := h'.push (PySem.W.kdv_obj "<lambda>" (X.env.qual ++ "<lambda>") params (.expr body) scope (cloFrom X.env.cells scope.names []) (.ref s0.heap.objs.size) doc ((X.mg "__name__").getD .none) c' ctv), toks := tk } := I2.kept fun b o e => Heap.get?_push_of_some _ (hx b o e)
    exact h h'.objs.size c' s0.heap.objs.size u doc ((X.mg "__name__").getD .none) ctv H0 _ I1 (LamX.ExtN.refl H0) hT (Heap.get?_push_size _ rfl) (I2.hok.fresh hsz) (nofr _ (Nat.le_trans sz2 hsz)) (Heap.get?_push_of_some _ (hx _ _ hT0)) hT0n (nofr _ (Nat.le_refl _)) hco
theorem pe_actD {CXg : CXT} {Eg : XK} {Ng : List Str} {qg : Str} {sg : Scope} {g f c T0 : Addr} {u doc cdg pm ctv : Value} {params : Arguments} {body : Expr} {scope : Scope} {k i : Nat} {a a0 : Str} {pn : List (Addr × Obj)} {xe : Value → Shared → Prop} {W : WX} {E : L2.St → XK} {tb : XK → TE} {p1 p2 : Pos}
    (I : Inv X pins σ H s) (L : LamSD X.N X.env.scope scope) (hf : s.heap.get? f = some (PySem.W.kdv_obj "<lambda>" (X.env.qual ++ "<lambda>") params (.expr body) scope (cloFrom X.env.cells scope.names []) (.ref T0) doc pm c ctv)) (hfn : H f = none) (hfr : f ∉ frs X.stack)
    (hT0 : s.heap.get? T0 = some (PySem.W.kdv_tup [u])) (hTn : H T0 = none) (hTr : T0 ∉ frs X.stack) (hl0 : scope.names.lookup a0 = some .local)
    (hbind : ∀ (q : Str) (cl : List (Str × Addr)) (dV doc pm cv ctv : Value), ∃ k, bindArgs (PySem.W.kdv_fn "<lambda>" q params (.expr body) scope cl dV doc pm cv ctv) ⟨[], []⟩ = seqItems? dV >>= k ∧ ∀ u, k (some #[u]) = pure [(a0, u)])
    (tk : L2N.Takes ((cxOf CXg X.prog X.w X.K X.mg X.base Ng qg sg g cdg X.A X.stack s H Eg).tr pn xe) W) (hW : ∀ cls d σ2 H2, E σ2 cls d H2 → W cls d σ2 H2) (hr : Room (k + 1) (X.A.deeper (envOfC qg sg s.heap.objs.size g cdg)))
    (hbody : ∀ (A : Around) (outer : List Env) (s : Shared) (H : Hp) (E : XK), Room k (A.deeper (LamX.lamEnv X scope s.heap.objs.size f c)) → PE (lamCxN X A outer s H E scope f c) body (tb E))
    (hN : Ng[i]? = some a) (hv : Vis sg a) (hd : (a == ("__debug__" : Str)) = false := by decide) (hcd : (a == ("__classdict__" : Str)) = false := by decide) :
    PE ((cxOf CXg X.prog X.w X.K X.mg X.base Ng qg sg g cdg X.A X.stack s H Eg).tr pn xe) (.Call (.Name a p1) [] [] p2) (fun σZ HZ Q => σZ[i]? = some (some (.ref f)) ∧ HZ c = some (LamX.CodeO c (X.env.qual ++ "<lambda>")) ∧ tb (E σZ) σ HZ Q) := by
  refine ⟨fun pz sz σz Hz Q Iz ⟨hs, hc, y⟩ => ?_⟩
  refine wpAny_Call_Name_kw (thn ((pe_var (pos := p1) (i := i) hN hv hd hcd).run pz sz σz Hz (fun v H1 => v = .ref f ∧ H1 = Hz) Iz ⟨.ref f, hs, rfl, rfl⟩) fun u' s1 ⟨v, H1, I1, r1, ev, eH⟩ => ?_)
  subst ev eH
  cases (show u' = Value.ref f from r1)
  have of1 := I1.base.keep f _ hf hfn hfr (fun z => nomatch (show f ∈ ([] : List Addr) from z))
  have oT1 := I1.base.keep T0 _ hT0 hTn hTr (fun z => nomatch (show T0 ∈ ([] : List Addr) from z))
  refine PySem.W.callWith_F0 ⟨_, _, _, _, of1⟩ ?_
  obtain ⟨⟨oc, vs, t, hoc, hdc, hvc⟩, _, _⟩ := I1.hok c _ hc
  have run : codeAny (model X.prog X.w) (X.A.deeper (envOfC qg sg s.heap.objs.size g cdg)) (.call (.ref f) ⟨[], []⟩) (CR (L2N.CX X.prog X.w) (envOfC qg sg s.heap.objs.size g cdg :: X.stack) X.prog X.w H1 s1 Q (E σz)) s1 := by
    obtain ⟨kk, hb1, hb2⟩ := hbind (X.env.qual ++ "<lambda>") (cloFrom X.env.cells scope.names []) (.ref T0) doc pm (.ref c) ctv
    have hB : BindsTo s1 (PySem.W.kdv_fn "<lambda>" (X.env.qual ++ "<lambda>") params (.expr body) scope (cloFrom X.env.cells scope.names []) (.ref T0) doc pm (.ref c) ctv) ⟨[], []⟩ [(a0, u)] := BindsTo.of_defaults rfl oT1 rfl hb1 (hb2 u)
    refine PySem.W.kla_callFunE hr.depth of1 rfl L.co L.gen rfl ⟨c, oc, vs, t, rfl, hoc, hdc, hvc⟩ (hB _ _ _ _ ?_)
    refine wpAny_newFunctionEnv (fun y hy => (L.own y hy).1) (fun y hy => by rw [List.mem_singleton.mp hy]; exact hl0) (fun g1 hns hsb => ⟨I1.nolimit.fresh _ hsb, ?_⟩) L.kind
    have kp : ∀ b o, s1.heap.get? b = some o → g1.get? b = some o := fun b o e => hsb.extBut b o (Nat.ne_of_lt (Heap.lt_size e)) (Heap.get?_push_of_some _ e)
    have J := lam_startD (E := E σz) (f := f) (c' := c) (tk := s1.toks + ([(a0, u)] : List (Str × Value)).length) I L I1.env0 hr.hd I1.base hns kp
    refine PySem.W.kla_codeExpr (wpAny_mono ((hbody _ _ s1 H1 (E σz) (hr.deeper _)).run [] _ _ H1 Q (J.wish _) y) (fun v s3 ⟨w3, H3, J3, rv, q⟩ => ⟨w3, H3, J3.os, J3.bare, J3.base, J3.hok, rv, q⟩) fun e s3 z => z)
  refine wpAny_call (codeAny_mono run fun rs s2 hq => ?_)
  cases rs with
  | error e => exact tk e s2 (L2N.XE.of_call I1 (fun cls d H' h => hW cls d σz H' h) hq)
  | ok fl =>
    cases fl with
    | ret u => exact I1.after hq
    | next => exact False.elim hq
    | brk => exact False.elim hq
    | cont => exact False.elim hq
end
theorem pe_lamD {X : Cx} {T : List (Addr × Str)} {TT : (XK → Hp → VK → Prop) → Hp → VK → Prop} {x a a0 : Str} {g c P : Addr} {k : Nat} {pg : Arguments} {bg : List Stmt} {sg : Scope} {dV kV doc pm cdv ct oc : Value} {an od : Option Addr} {osl : Array (Option Value)} {Ng : List Str}
    {params : Arguments} {body : Expr} {scope : Scope} {t : XK → TE} {p lpos pos pz : Pos} {z : Int} {jz : Nat} (hg : Gl X x) (hm : X.mg x = some (.ref g)) (hk : PySem.W.keepIn X.K (.ref g) = true)
    (lk : X.K.lookup g = some ⟨oc, od, .func (PySem.W.fnOf x x pg bg sg dV kV doc pm an cdv ct), osl⟩) (hcg : PySem.W.codeIn X.K cdv x = true) (hb : Binds X.K (PySem.W.fnOf x x pg bg sg dV kV doc pm an cdv ct) [a] []) (Sg : FnScope Ng [a] sg) (hNg : Ng[0]? = some a) (hva : Vis sg a)
    (hG : GivesN X Ng x sg g cdv bg a (X.env.qual ++ "<lambda>") TT) (TB : LamX.TabB X.base X.mg c P) (hcode : X.env.code = .ref c) (hmT : (P, X.env.qual ++ "<lambda>") ∈ T) (hu : ∀ p ∈ T, p.1 = P → p.2 = X.env.qual ++ "<lambda>") (hr : Room (k + 2) X.A) (k40 : 40 ≤ k + 1) (L : LamSD X.N X.env.scope scope) (hd1 : params.defaults = [.Constant (.int z) jz pz]) (hk0 : params.kw_defaults = []) (hl0 : scope.names.lookup a0 = some .local)
    (hbind : ∀ (q : Str) (cl : List (Str × Addr)) (dV doc pm cv ctv : Value), ∃ k, bindArgs (PySem.W.kdv_fn "<lambda>" q params (.expr body) scope cl dV doc pm cv ctv) ⟨[], []⟩ = seqItems? dV >>= k ∧ ∀ u, k (some #[u]) = pure [(a0, u)])
    (hbody : ∀ (A : Around) (outer : List Env) (s : Shared) (H : Hp) (E : XK) (f c2 : Addr), Room k (A.deeper (LamX.lamEnv X scope s.heap.objs.size f c2)) → PE (lamCxN X A outer s H E scope f c2) body (t E))
    (hdb : (x == ("__debug__" : Str)) = false := by decide) (hd : (a == ("__debug__" : Str)) = false := by decide) (hcd : (a == ("__classdict__" : Str)) = false := by decide) :
    PE X (.Call (.Name x p) [.Lambda params body scope lpos] [] pos) (LamX.tLam T TT t) := by
  refine ⟨fun pins s σ H Q I ⟨hT, y⟩ => ?_⟩
  refine wpAny_Call_Name_kw (ld_glob I hg hm (PySem.W.callWith_K (h₀ := X.base) I.ok.mod.kin hk ?_ (by rfl) (by rfl)) hdb)
  show wpAny _ _ (spliced ((false, eval (.Lambda params body scope lpos) X.env) :: backTo pos (starEach [] X.env))) _ _ s
  refine Calls.spliced_cons (lam_makeD I TB hcode hmT hu hT hd1 hk0 (L.has I.ok) fun f c2 T0 u doc2 pm2 ctv H1 s1 I1 eN T1 hf hfn hfr hT0 hTn hTr hco => Calls.spliced_nil ⟨I1.kIn, ?_⟩)
  have run : codeAny (model X.prog X.w) X.A (.call (.ref g) ⟨[.ref f], []⟩) (CR CX0 X.stack X.prog X.w H1 s1 Q E0) s1 := by
    refine LamX.run_ofS (N := Ng) (ps := [a]) (us := [.ref f]) (vs := [.ref f]) lk hcg Sg hr I1.env0 (hb s1 [.ref f] I1.kIn rfl) (.cons rfl .nil) rfl fun hr2 => ?_
    obtain ⟨t2, ht2, hq2⟩ := hG _ f c2 s1 H1 Q (fun E H' Q' => t E σ H' Q') hr2 k40 (fun W pn xe E p1 p2 tk hW => pe_actD (i := 0) I1 L hf hfn hfr hT0 hTn hTr hl0 hbind tk hW hr2 (fun A outer s H E hr3 => hbody A outer s H E f c2 hr3) hNg hva hd hcd) hco (y H1 eN T1)
    exact ⟨t2, ht2.nox, hq2⟩
  refine wpAny_call (codeAny_mono run fun rs s2 hq => ?_)
  cases rs with
  | error e => exact (show False from hq).elim
  | ok fl =>
    cases fl with
    | ret u => exact I1.after hq
    | next => exact False.elim hq
    | brk => exact False.elim hq
    | cont => exact False.elim hq
end OPL
/-! ### paths -/
section OPP
open PySem.Spec PyProof.Rows
theorem op_mulS {X : Cx} : OpR X (binaryOp .Mult) (fun x y H Q => ∃ (z : Str) (n : Int), x = .str z ∧ y = .int n ∧ MulOk z n ∧ Q (.str (Txt.mul z n)) H) := by
  intro pins s σ H x y v u Q I rx ry h
  obtain ⟨z, n, rfl, rfl, ok, q⟩ := h
  obtain ⟨t1, rfl⟩ := rx
  obtain ⟨t2, rfl⟩ := ry
  exact SB.mul ok fun t' k => ⟨.str _, H, I.tok k, ⟨t', rfl⟩, q⟩
end OPP
def okp (z : Str) : Bool := decide (z.length ≤ 60) && decide (V.str (Txt.stripChars z (Str.ofString "01")) = V.str (Str.ofString ""))
theorem pcs_goes : ∀ p : List Bool, (pcs p).takeWhile (Str.ofString "01").cps.contains = pcs p
  | [] => rfl
  | true :: p => by
    show (49 :: pcs p).takeWhile _ = 49 :: pcs p
    rw [List.takeWhile_cons, if_pos (by decide +kernel), pcs_goes p]
  | false :: p => by
    show (48 :: pcs p).takeWhile _ = 48 :: pcs p
    rw [List.takeWhile_cons, if_pos (by decide +kernel), pcs_goes p]
theorem strip_ptx (p : List Bool) : Txt.stripChars (ptx p) (Str.ofString "01") = Str.ofString "" := by
  have e1 : stripLo (Str.ofString "01").cps.contains true (ptx p) = p.length := by
    show ((ptx p).cps.toList.takeWhile _).length = p.length
    rw [ptx_cps, pcs_goes]
    exact List.length_map _
  have e2 : stripHi (Str.ofString "01").cps.contains true (ptx p) p.length = p.length := by
    show (ptx p).length - (((ptx p).cps.toList.drop p.length).reverse.takeWhile _).length = p.length
    have : (ptx p).cps.toList.drop p.length = [] := by
      rw [ptx_cps]
      exact List.drop_eq_nil_of_le (Nat.le_of_eq (List.length_map _))
    rw [this, ptx_len]
    rfl
  cases p with
  | nil => decide +kernel
  | cons b p =>
    show (if stripSame (Str.ofString "01").cps.contains true true (ptx (b :: p)) = true then _ else stripped (Str.ofString "01").cps.contains true true (ptx (b :: p))) = _
    have no : ¬ stripSame (Str.ofString "01").cps.contains true true (ptx (b :: p)) = true := by
      unfold stripSame
      rw [e1, e2]
      intro z
      rw [Bool.and_eq_true] at z
      have z1 : (b :: p).length = 0 := eq_of_beq z.1
      cases z1
    rw [if_neg no]
    unfold stripped
    rw [e1, e2]
    show (⟨(ptx (b :: p)).cps.extract (b :: p).length (b :: p).length⟩ : Str) = ⟨#[]⟩
    congr 1
    simp
    omega
theorem okp_ptx {p : List Bool} (h : p.length ≤ 60) : okp (ptx p) = true := by
  unfold okp
  rw [ptx_len, strip_ptx, decide_eq_true h, decide_eq_true rfl]
  rfl
def spChkP (C : Addr) : Sp := fun vs H Q E => ∃ z : Str, vs = [.str z] ∧ z.length ≤ 1000 ∧ (okp z = true → Q .non H) ∧ (okp z = false → E (.ref C) none H)
/-- what a path asks of a term -/
def PathW (CP CN : Addr) (z : Str) (t : Tree) (E : XK) (H : Hp) (R : Tree → Prop) : Prop := (okp z = false ∧ ∀ H', Same H H' → E (.ref CP) none H') ∨
  ∃ p : List Bool, z = ptx p ∧ p.length ≤ 60 ∧ (t.st p = none → ∀ H', Same H H' → E (.ref CN) none H') ∧ ∀ u, t.st p = some u → R u
def spAlong (K : PySem.W.Frag) (C CP CN : Addr) : Sp := fun vs H Q E => ∃ (x d a b c : Addr) (m : Nat) (z : Str) (ts : List Tree) (t : Tree), vs = [.ref x, .int m, .str z] ∧ z.length ≤ 1000 ∧ PoolA K C x d a b c H ts ∧ ts[m]? = some t ∧
  PathW CP CN z t E H fun u => ∀ (l : Addr) (ms : List V) (k : Nat) (H' : Hp), Same H H' → H l = none → H' l = some (.lst (ms ++ [.int (k : Int)])) → ts[k]? = some u → Q (.ref l) H'
def spSubT (K : PySem.W.Frag) (CI CP CN : Addr) : Sp := fun vs H Q E => ∃ (v : V) (d : PyData) (z : Str), vs = [v, .str z] ∧ z.length ≤ 1000 ∧ NT K H v d ∧ ndD d ≤ 1000 ∧ (okd d = false → ∀ H', Same H H' → E (.ref CI) none H') ∧
  ∀ t : Tree, d = t.d → t.sz ≤ 12 → t.dp ≤ 6 → PathW CP CN z t E H fun u => ∀ (x : V) (H' : Hp), Same H H' → TA K H' x u → Q x H'
def Tree.pts : Tree → List Bool → List (List Bool)
  | .L, p => [p]
  | .N l r, p => ([p] ++ l.pts (p ++ [false])) ++ r.pts (p ++ [true])
theorem Tree.pts_len : ∀ (t : Tree) (p : List Bool), (t.pts p).length = t.nodes
  | .L, p => rfl
  | .N l r, p => by
    show (([p] ++ l.pts (p ++ [false])) ++ r.pts (p ++ [true])).length = l.nodes + r.nodes + 1
    rw [List.length_append, List.length_append, pts_len l, pts_len r, List.length_singleton]
    omega
theorem Tree.pts_le : ∀ (t : Tree) (p q : List Bool), q ∈ t.pts p → q.length ≤ p.length + t.dp
  | .L, p, q, h => by
    rw [List.mem_singleton.mp h]
    exact Nat.le_add_right _ _
  | .N l r, p, q, h => by
    have h : q ∈ ([p] ++ l.pts (p ++ [false])) ++ r.pts (p ++ [true]) := h
    show q.length ≤ p.length + (max l.dp r.dp + 1)
    rcases List.mem_append.mp h with h | h
    · rcases List.mem_append.mp h with h | h
      · rw [List.mem_singleton.mp h]
        omega
      · have := pts_le l _ _ h
        rw [List.length_append, List.length_singleton] at this
        omega
    · have := pts_le r _ _ h
      rw [List.length_append, List.length_singleton] at this
      omega
theorem Tree.pts_pos (t : Tree) (p : List Bool) : 0 < (t.pts p).length := by
  rw [pts_len]
  cases t <;> exact Nat.succ_pos _
def spPts (K : PySem.W.Frag) (n : Nat) : Sp := fun vs H Q _ => ∃ (v : V) (t : Tree) (p : List Bool), vs = [v, .str (ptx p)] ∧ TA K H v t ∧ t.dp < n ∧ n ≤ 30 ∧ t.nodes ≤ 1000 ∧ p.length + t.dp ≤ 60 ∧ ∀ (l : Addr) (H' : Hp), Same H H' → H l = none → H' l = some (.lst (ptxs (t.pts p))) → Q (.ref l) H'
def spAnyP (K : PySem.W.Frag) : Sp := fun vs H Q _ => ∃ (r c : Addr) (v : V) (t : Tree), vs = [.ref r, v] ∧ RngC H r c ∧ TA K H v t ∧ t.dp ≤ 6 ∧ t.sz ≤ 12 ∧ ∀ (p : List Bool) (H' : Hp), p.length ≤ 8 → RngC H' r c → But r H H' → Q (.str (ptx p)) H'
def spBadP : Sp := fun vs H Q _ => ∃ r c : Addr, vs = [.ref r] ∧ RngC H r c ∧ ∀ (z : Str) (H' : Hp), okp z = false → z.length ≤ 1000 → RngC H' r c → But r H H' → Q (.str z) H'
def spStN (K : PySem.W.Frag) : Sp := fun vs H Q _ => ∃ (v : V) (t : Tree) (p : List Bool), vs = [v, .str (ptx p)] ∧ TA K H v t ∧ t.dp ≤ 60 ∧ (t.st p = none → ∀ H', Same H H' → Q .non H') ∧ ∀ u, t.st p = some u → ∀ (x : V) (H' : Hp), TA K H' x u → Same H H' → Q x H'
theorem ptx_nil : Str.ofString "" = ptx [] := rfl
theorem ptx_cut1 (p : List Bool) : cutS (ptx p) none (some 1) = ptx (p.take 1) := by
  unfold cutS
  rw [ptx_cps, ptx_len, HT.sIx_none, show HT.sIx p.length p.length (some 1) = min 1 p.length from HT.sIx_nat _ _ 1]
  cases p with
  | nil => rfl
  | cons b p =>
    have e : min 1 (b :: p).length = 1 := by
      rw [List.length_cons]
      omega
    rw [e]
    rfl
theorem ptx_11 (p : List Bool) : ptx p ++ Str.ofString "11" = ptx (p ++ [true, true]) := by
  show (⟨(pcs p).toArray ++ #[49, 49]⟩ : Str) = ⟨(pcs (p ++ [true, true])).toArray⟩
  congr 1
  apply Array.toList_inj.mp
  unfold pcs
  simp
def tvD (t : Tree) : PyData := .tuple [.str ("value" : Str), t.d]
theorem tvD_shaped {t : Tree} (h : t.dp ≤ 20) : SeqAt.shaped (tvD t) = true := by
  have e1 : (tvD t).canLay0 = (PyData.canLay0 (.str ("value" : Str)) && (PyData.canLay0 t.d && true)) := rfl
  have e2 : (tvD t).depth = max (PyData.depth (.str ("value" : Str))) (max t.d.depth 0) + 1 := rfl
  have e3 : PyData.depth (.str ("value" : Str)) ≤ 1 := by first | exact Nat.le_refl _ | exact Nat.zero_le _
  have e4 := t.d_depth
  unfold SeqAt.shaped
  rw [e1, t.d_lay, decide_eq_true (by omega)]
  decide +kernel
theorem tvD_depth {t : Tree} (h : t.dp ≤ 6) : (tvD t).depth < 12 := by
  have e2 : (tvD t).depth = max (PyData.depth (.str ("value" : Str))) (max t.d.depth 0) + 1 := rfl
  have e3 : PyData.depth (.str ("value" : Str)) ≤ 1 := by first | exact Nat.le_refl _ | exact Nat.zero_le _
  have e4 := t.d_depth
  omega
theorem tree_wide7 : ∀ t : Tree, wide t.d = true
  | .L => rfl
  | .N l r => by
    show (decide (2 ≤ 1000) && (wide l.d && (wide r.d && true))) = true
    rw [tree_wide7 l, tree_wide7 r]
    decide
theorem tvD_wide (t : Tree) : wide (tvD t) = true := by
  show (decide (2 ≤ 1000) && (true && (wide t.d && true))) = true
  rw [tree_wide7]
  decide
theorem dp_tvD {K : PySem.W.Frag} {H : Hp} {q : Addr} {x : V} {t : Tree} (h : SqT K H q [.str ("value" : Str), x]) (w : TA K H x t) : Dp K H (.ref q) (tvD t) := Dp.tup h (.cons (.str _) (.cons w .nil))
/-! ### steps of both kinds -/
def Tree.eqb : Tree → Tree → Bool
  | .L, .L => true
  | .N a b, .N c d => a.eqb c && b.eqb d
  | .L, .N _ _ => false
  | .N _ _, .L => false
theorem Tree.eqb_eq : ∀ {a b : Tree}, a.eqb b = true → a = b
  | .L, .L, _ => rfl
  | .N a b, .N c d, h => by
    have h : (a.eqb c && b.eqb d) = true := h
    rw [Bool.and_eq_true] at h
    rw [eqb_eq h.1, eqb_eq h.2]
  | .L, .N _ _, h => by cases h
  | .N _ _, .L, h => by cases h
theorem Tree.eqb_refl : ∀ a : Tree, a.eqb a = true
  | .L => rfl
  | .N a b => by
    show (a.eqb a && b.eqb b) = true
    rw [eqb_refl a, eqb_refl b]
    rfl
theorem Tree.eqvT : ∀ a b : Tree, PyData.eqv a.d b.d = a.eqb b
  | .L, .L => rfl
  | .L, .N _ _ => rfl
  | .N _ _, .L => rfl
  | .N a b, .N c d => by
    show (PyData.eqv a.d c.d && (PyData.eqv b.d d.d && true)) = (a.eqb c && b.eqb d)
    rw [eqvT a c, eqvT b d, Bool.and_true]
def Tree.ct0 : Tree → Option Tree
  | .N (.N a b) (.N a' c) => if a.eqb a' = true then some (.N a (.N b c)) else none
  | .N .L _ => none
  | .N (.N _ _) .L => none
  | .L => none
def Tree.r0 (on : Bool) (t : Tree) : Option Tree := if on = true then t.ex0 else t.ct0
def Tree.rwt (on : Bool) (t : Tree) (p : List Bool) : Option Tree := (t.st p).bind fun u => (u.r0 on).bind fun u' => t.rp p u'
theorem Tree.rp_some (x : Tree) : ∀ (t : Tree) (p : List Bool) (u : Tree), t.st p = some u → ∃ t', t.rp p x = some t'
  | t, [], u, _ => ⟨x, t.rp_nil x⟩
  | .L, _ :: _, _, h => by cases h
  | .N l r, false :: p, u, h => by
    obtain ⟨l', e⟩ := rp_some x l p u h
    refine ⟨.N l' r, ?_⟩
    show (l.rp p x).map (fun l' => Tree.N l' r) = _
    rw [e]
    rfl
  | .N l r, true :: p, u, h => by
    obtain ⟨r', e⟩ := rp_some x r p u h
    refine ⟨.N l r', ?_⟩
    show (r.rp p x).map (fun r' => Tree.N l r') = _
    rw [e]
    rfl
/-- what holds of a subterm and of what stands in its place -/
theorem Tree.rp_rel {R : Tree → Tree → Prop} (hl : ∀ a a' b, R a a' → R (.N a b) (.N a' b)) (hr : ∀ a b b', R b b' → R (.N a b) (.N a b')) : ∀ (t : Tree) (p : List Bool) (u x t' : Tree), t.st p = some u → t.rp p x = some t' → R u x → R t t'
  | t, [], u, x, t', h1, h2, h3 => by
    rw [st_nil] at h1
    rw [rp_nil] at h2
    cases h1
    cases h2
    exact h3
  | .L, _ :: _, _, _, _, h, _, _ => by cases h
  | .N l r, false :: p, u, x, t', h1, h2, h3 => by
    have h2 : (l.rp p x).map (fun l' => Tree.N l' r) = some t' := h2
    cases e : l.rp p x with
    | none => rw [e] at h2; cases h2
    | some l' =>
      rw [e] at h2
      cases h2
      exact hl _ _ _ (rp_rel hl hr l p u x l' h1 e h3)
  | .N l r, true :: p, u, x, t', h1, h2, h3 => by
    have h2 : (r.rp p x).map (fun r' => Tree.N l r') = some t' := h2
    cases e : r.rp p x with
    | none => rw [e] at h2; cases h2
    | some r' =>
      rw [e] at h2
      cases h2
      exact hr _ _ _ (rp_rel hl hr r p u x r' h1 e h3)
theorem Tree.rwt_parts {on : Bool} {t t' : Tree} {p : List Bool} (h : t.rwt on p = some t') : ∃ u u', t.st p = some u ∧ u.r0 on = some u' ∧ t.rp p u' = some t' := by
  unfold rwt at h
  cases e : t.st p with
  | none => rw [e] at h; cases h
  | some u =>
    rw [e] at h
    have h : (u.r0 on).bind (fun u' => t.rp p u') = some t' := h
    cases e2 : u.r0 on with
    | none => rw [e2] at h; cases h
    | some u' =>
      rw [e2] at h
      exact ⟨u, u', rfl, e2, h⟩
theorem Tree.r0_ind {R : Tree → Tree → Prop} (he : ∀ a b c, R (.N a (.N b c)) (.N (.N a b) (.N a c))) (hc : ∀ a b c, R (.N (.N a b) (.N a c)) (.N a (.N b c))) : ∀ (on : Bool) (u u' : Tree), u.r0 on = some u' → R u u'
  | true, .N a (.N b c), u', h => by
    have h : some (Tree.N (.N a b) (.N a c)) = some u' := h
    cases h
    exact he a b c
  | true, .N a .L, u', h => by
    have h : (none : Option Tree) = some u' := h
    cases h
  | true, .L, u', h => by
    have h : (none : Option Tree) = some u' := h
    cases h
  | false, .N (.N a b) (.N a' c), u', h => by
    have h : (if a.eqb a' = true then some (Tree.N a (.N b c)) else none) = some u' := h
    by_cases e : a.eqb a' = true
    · rw [if_pos e] at h
      cases h
      rw [← eqb_eq e]
      exact hc a b c
    · rw [if_neg e] at h
      cases h
  | false, .N .L r, u', h => by
    have h : (none : Option Tree) = some u' := h
    cases h
  | false, .N (.N a b) .L, u', h => by
    have h : (none : Option Tree) = some u' := h
    cases h
  | false, .L, u', h => by
    have h : (none : Option Tree) = some u' := h
    cases h
/-- a relation that the steps keep -/
theorem Tree.rwt_ind {R : Tree → Tree → Prop} (he : ∀ a b c, R (.N a (.N b c)) (.N (.N a b) (.N a c))) (hc : ∀ a b c, R (.N (.N a b) (.N a c)) (.N a (.N b c))) (hl : ∀ a a' b, R a a' → R (.N a b) (.N a' b)) (hr : ∀ a b b', R b b' → R (.N a b) (.N a b')) {on : Bool} {t t' : Tree} {p : List Bool} (h : t.rwt on p = some t') : R t t' := by
  obtain ⟨u, u', h1, h2, h3⟩ := rwt_parts h
  exact rp_rel hl hr t p u u' t' h1 h3 (r0_ind he hc on u u' h2)
theorem Tree.rwt_dp {on : Bool} {t t' : Tree} {p : List Bool} (h : t.rwt on p = some t') : t'.dp ≤ t.dp + 1 := by
  refine rwt_ind (R := fun a b => b.dp ≤ a.dp + 1) ?_ ?_ ?_ ?_ h
  · intro a b c
    show max (max a.dp b.dp + 1) (max a.dp c.dp + 1) + 1 ≤ max a.dp (max b.dp c.dp + 1) + 1 + 1
    omega
  · intro a b c
    show max a.dp (max b.dp c.dp + 1) + 1 ≤ max (max a.dp b.dp + 1) (max a.dp c.dp + 1) + 1 + 1
    omega
  · intro a a' b h
    show max a'.dp b.dp + 1 ≤ max a.dp b.dp + 1 + 1
    omega
  · intro a b b' h
    show max a.dp b'.dp + 1 ≤ max a.dp b.dp + 1 + 1
    omega
theorem Tree.rwt_len {on : Bool} {t t' : Tree} {p : List Bool} (h : t.rwt on p = some t') : p.length ≤ t.dp := by
  obtain ⟨u, u', h1, _⟩ := rwt_parts h
  have := st_len t p u h1
  omega
inductive Stp : Tree → Tree → Prop
  | refl (t : Tree) : Stp t t
  | step {t u v : Tree} {on : Bool} {p : List Bool} : Stp t u → u.rwt on p = some v → Stp t v
theorem Stp.ind {R : Tree → Tree → Prop} (h0 : ∀ t, R t t) (h2 : ∀ a b c, R a b → R b c → R a c) (he : ∀ a b c, R (.N a (.N b c)) (.N (.N a b) (.N a c))) (hc : ∀ a b c, R (.N (.N a b) (.N a c)) (.N a (.N b c))) (hl : ∀ a a' b, R a a' → R (.N a b) (.N a' b)) (hr : ∀ a b b', R b b' → R (.N a b) (.N a b')) {t u : Tree} (h : Stp t u) : R t u := by
  induction h with
  | refl => exact h0 _
  | step _ h2' ih => exact h2 _ _ _ ih (Tree.rwt_ind he hc hl hr h2')
def spR0 (K : PySem.W.Frag) (on : Bool) : Sp := fun vs H Q _ => ∃ (v : V) (t : Tree), vs = [v] ∧ TA K H v t ∧ t.dp ≤ 60 ∧ (t.r0 on = none → ∀ H', Same H H' → Q .non H') ∧ ∀ u, t.r0 on = some u → ∀ (x : V) (H' : Hp), TA K H' x u → Same H H' → Q x H'
def spRwN (K : PySem.W.Frag) (n : Nat) : Sp := fun vs H Q _ => ∃ (v : V) (t : Tree) (p : List Bool) (on : Bool), vs = [v, .str (ptx p), .bl on] ∧ TA K H v t ∧ t.dp ≤ 60 ∧ p.length < n ∧ n ≤ 62 ∧ (t.rwt on p = none → ∀ H', Same H H' → Q .non H') ∧ ∀ u, t.rwt on p = some u → ∀ (x : V) (H' : Hp), TA K H' x u → Same H H' → Q x H'
def spFits (K : PySem.W.Frag) : Sp := fun vs H Q _ => ∃ (v : V) (t : Tree) (top : Int), vs = [v, .int top] ∧ TA K H v t ∧ t.dp ≤ 8 ∧ (∀ H', Same H H' → (t.sz : Int) ≤ top → t.dp ≤ 6 → Q (.bl true) H') ∧ ∀ H', Same H H' → Q (.bl false) H'
def StepAt (K : PySem.W.Frag) (H : Hp) (t : Tree) (v : V) : Prop := ∃ (q : Addr) (p : List Bool) (on : Bool) (t' : Tree), v = .ref q ∧ SqT K H q [.str (ptx p), .bl on] ∧ t.rwt on p = some t'
theorem StepAt.tp {K : PySem.W.Frag} {H H' : Hp} {t : Tree} {v : V} (e : Tp H H') (h : StepAt K H t v) : StepAt K H' t v := by
  obtain ⟨q, p, on, t', h1, h2, h3⟩ := h
  exact ⟨q, p, on, t', h1, e.sqT h2, h3⟩
def spStps (K : PySem.W.Frag) : Sp := fun vs H Q _ => ∃ (v : V) (t : Tree), vs = [v] ∧ TA K H v t ∧ t.dp ≤ 8 ∧ t.nodes ≤ 400 ∧ ∀ (l : Addr) (xs : List V) (H' : Hp), Same H H' → H l = none → H' l = some (.lst xs) → xs.length ≤ 1000 → (∀ x ∈ xs, StepAt K H' t x) → Q (.ref l) H'
def spRwd (K : PySem.W.Frag) : Sp := fun vs H Q _ => ∃ (r c : Addr) (v : V) (t : Tree) (turns top : Int), vs = [.ref r, v, .int turns, .int top] ∧ RngC H r c ∧ TA K H v t ∧ t.dp ≤ 6 ∧ t.sz ≤ 12 ∧ 0 ≤ turns ∧ turns ≤ 1000 ∧ top ≤ 12 ∧
  ∀ (x : V) (t' : Tree) (H' : Hp), TA K H' x t' → Stp t t' → t'.dp ≤ 6 → t'.sz ≤ 12 → (t' = t ∨ (t'.sz : Int) ≤ top) → RngC H' r c → But r H H' → Q x H'
/-! ### steps by numbers -/
theorem PoolA.inj {K : PySem.W.Frag} {C x d a b c : Addr} {H : Hp} {ts : List Tree} (p : PoolA K C x d a b c H ts) {t : Tree} {i j : Nat} (h1 : ts[i]? = some t) (h2 : ts[j]? = some t) : i = j := by
  obtain ⟨dx, es, ps, cs, _, _, _, _, _, _, _, _, g, _⟩ := p
  exact g.inj t i j h1 h2
theorem Tree.st_app : ∀ (t : Tree) (p q : List Bool), t.st (p ++ q) = (t.st p).bind fun u => u.st q
  | t, [], q => by rw [st_nil]; rfl
  | .L, b :: p, q => by cases b <;> rfl
  | .N l r, false :: p, q => st_app l p q
  | .N l r, true :: p, q => st_app r p q
def spPR (K : PySem.W.Frag) (C : Addr) (on : Bool) : Sp := fun vs H Q _ => ∃ (x d a b c : Addr) (m : Nat) (ts : List Tree) (t : Tree), vs = [.ref x, .int m] ∧ PoolA K C x d a b c H ts ∧ ts.length ≤ 900000 ∧ ts[m]? = some t ∧ t ≠ .L ∧ (t.r0 on = none → ∀ H', Same H H' → Q .non H') ∧
  ∀ u, t.r0 on = some u → ∀ (n : Nat) (ts' : List Tree) (H' : Hp), PoolA K C x d a b c H' ts' → Ex4 d a b c H H' → Pre ts ts' → ts'[n]? = some u → ts'.length ≤ ts.length + 3 → Q (.int n) H'
def spPW (K : PySem.W.Frag) (C : Addr) : Sp := fun vs H Q _ => ∃ (x d a b c : Addr) (m : Nat) (on : Bool) (ts : List Tree) (t : Tree), vs = [.ref x, .int m, .bl on] ∧ PoolA K C x d a b c H ts ∧ ts.length ≤ 900000 ∧ ts[m]? = some t ∧ (t.r0 on = none → ∀ H', Same H H' → Q .non H') ∧
  ∀ u, t.r0 on = some u → ∀ (n : Nat) (ts' : List Tree) (H' : Hp), PoolA K C x d a b c H' ts' → Ex4 d a b c H H' → Pre ts ts' → ts'[n]? = some u → ts'.length ≤ ts.length + 3 → Q (.int n) H'
abbrev jV (x : Nat) : V := V.int (x : Int)
def spAl8 (K : PySem.W.Frag) (C CP CN : Addr) : Sp := fun vs H Q E => ∃ (x d a b c : Addr) (m : Nat) (z : Str) (ts : List Tree) (t : Tree), vs = [.ref x, .int m, .str z] ∧ z.length ≤ 1000 ∧ PoolA K C x d a b c H ts ∧ ts[m]? = some t ∧
  ((okp z = false ∧ ∀ H', Same H H' → E (.ref CP) none H') ∨ ∃ p, z = ptx p ∧ p.length ≤ 60 ∧ (t.st p = none → ∀ H', Same H H' → E (.ref CN) none H') ∧
    ∀ u, t.st p = some u → ∀ (l : Addr) (ks : List Nat) (H' : Hp), Same H H' → H l = none → H' l = some (.lst (ks.map jV)) → ks.length = p.length + 1 → (∀ j u', j ≤ p.length → t.st (p.take j) = some u' → ∃ k, ks[j]? = some k ∧ ts[k]? = some u') → Q (.ref l) H')
def spRA (K : PySem.W.Frag) (C CP CN CR : Addr) : Sp := fun vs H Q E => ∃ (x d a b c : Addr) (m : Nat) (z : Str) (on : Bool) (ts : List Tree) (t : Tree), vs = [.ref x, .int m, .str z, .bl on] ∧ z.length ≤ 1000 ∧ PoolA K C x d a b c H ts ∧ ts.length ≤ 800000 ∧ ts[m]? = some t ∧
  ((okp z = false ∧ ∀ H', Same H H' → E (.ref CP) none H') ∨ ∃ p, z = ptx p ∧ p.length ≤ 60 ∧ (t.st p = none → ∀ H', Same H H' → E (.ref CN) none H') ∧ (∀ u, t.st p = some u → u.r0 on = none → ∀ H', Same H H' → E (.ref CR) none H') ∧
    ∀ t', t.rwt on p = some t' → ∀ (n : Nat) (ts' : List Tree) (H' : Hp), PoolA K C x d a b c H' ts' → Ex4 d a b c H H' → Pre ts ts' → ts'[n]? = some t' → Q (.int n) H')
/-- expand, contract -/
def spST (K : PySem.W.Frag) (CI CP CN CR : Addr) (on : Option Bool) : Sp := fun vs H Q E => ∃ (v : V) (d : PyData) (z : Str) (o : Bool), (vs = match on with | none => [v, .str z, .bl o] | some _ => [v, .str z]) ∧ (∀ b, on = some b → o = b) ∧ z.length ≤ 1000 ∧ NT K H v d ∧ ndD d ≤ 1000 ∧ (okd d = false → ∀ H', Same H H' → E (.ref CI) none H') ∧
  ∀ t : Tree, d = t.d → t.sz ≤ 12 → t.dp ≤ 6 → ((okp z = false ∧ ∀ H', Same H H' → E (.ref CP) none H') ∨ ∃ p, z = ptx p ∧ p.length ≤ 60 ∧ (t.st p = none → ∀ H', Same H H' → E (.ref CN) none H') ∧ (∀ u, t.st p = some u → u.r0 o = none → ∀ H', Same H H' → E (.ref CR) none H') ∧
    ∀ t', t.rwt o p = some t' → ∀ (x : V) (H' : Hp), Same H H' → TA K H' x t' → Q x H')
theorem Tree.rp_st (x : Tree) : ∀ (t : Tree) (p : List Bool) (u t' : Tree), t.st p = some u → t.rp p x = some t' → t'.st p = some x ∧ t'.rp p u = some t
  | t, [], u, t', h1, h2 => by
    rw [st_nil] at h1
    rw [rp_nil] at h2
    cases h1
    cases h2
    exact ⟨st_nil _, rp_nil _ _⟩
  | .L, _ :: _, _, _, h, _ => by cases h
  | .N l r, false :: p, u, t', h1, h2 => by
    have h2 : (l.rp p x).map (fun l' => Tree.N l' r) = some t' := h2
    cases e : l.rp p x with
    | none => rw [e] at h2; cases h2
    | some l' =>
      rw [e] at h2
      cases h2
      obtain ⟨a1, a2⟩ := rp_st x l p u l' h1 e
      refine ⟨a1, ?_⟩
      show (l'.rp p u).map (fun l' => Tree.N l' r) = _
      rw [a2]
      rfl
  | .N l r, true :: p, u, t', h1, h2 => by
    have h2 : (r.rp p x).map (fun r' => Tree.N l r') = some t' := h2
    cases e : r.rp p x with
    | none => rw [e] at h2; cases h2
    | some r' =>
      rw [e] at h2
      cases h2
      obtain ⟨a1, a2⟩ := rp_st x r p u r' h1 e
      refine ⟨a1, ?_⟩
      show (r'.rp p u).map (fun r' => Tree.N l r') = _
      rw [a2]
      rfl
theorem Tree.r0_back (on : Bool) : ∀ (u u' : Tree), u.r0 on = some u' → u'.r0 (!on) = some u := by
  cases on with
  | true =>
    intro u u' h
    match u, h with
    | .N a (.N b c), h =>
      have h : some (Tree.N (.N a b) (.N a c)) = some u' := h
      cases h
      show (if a.eqb a = true then some (Tree.N a (.N b c)) else none) = _
      rw [if_pos (eqb_refl a)]
    | .N a .L, h => exact nomatch (show (none : Option Tree) = some u' from h)
    | .L, h => exact nomatch (show (none : Option Tree) = some u' from h)
  | false =>
    intro u u' h
    match u, h with
    | .N (.N a b) (.N a' c), h =>
      have h : (if a.eqb a' = true then some (Tree.N a (.N b c)) else none) = some u' := h
      by_cases e : a.eqb a' = true
      · rw [if_pos e] at h
        cases h
        rw [← eqb_eq e]
        rfl
      · rw [if_neg e] at h
        cases h
    | .N .L r, h => exact nomatch (show (none : Option Tree) = some u' from h)
    | .N (.N a b) .L, h => exact nomatch (show (none : Option Tree) = some u' from h)
    | .L, h => exact nomatch (show (none : Option Tree) = some u' from h)
theorem Tree.rwt_back {on : Bool} {t t' : Tree} {p : List Bool} (h : t.rwt on p = some t') : t'.rwt (!on) p = some t := by
  obtain ⟨u, u', h1, h2, h3⟩ := rwt_parts h
  obtain ⟨a1, a2⟩ := rp_st u' t p u t' h1 h3
  unfold rwt
  rw [a1]
  show (u'.r0 (!on)).bind (fun x => t'.rp p x) = some t
  rw [r0_back on u u' h2]
  exact a2
theorem Tree.rwt_small {t t' : Tree} {p : List Bool} (h : t.rwt false p = some t') : t'.dp ≤ t.dp ∧ t'.sz ≤ t.sz := by
  obtain ⟨u, u', h1, h2, h3⟩ := rwt_parts h
  refine rp_rel (R := fun a b => b.dp ≤ a.dp ∧ b.sz ≤ a.sz) ?_ ?_ t p u u' t' h1 h3 ?_
  · intro a a' b h
    show max a'.dp b.dp + 1 ≤ max a.dp b.dp + 1 ∧ a'.sz + b.sz ≤ a.sz + b.sz
    omega
  · intro a b b' h
    show max a.dp b'.dp + 1 ≤ max a.dp b.dp + 1 ∧ a.sz + b'.sz ≤ a.sz + b.sz
    omega
  · have hb := r0_back false u u' h2
    match u', hb with
    | .N a (.N b c), hb =>
      have hb : some (Tree.N (.N a b) (.N a c)) = some u := hb
      cases hb
      show max a.dp (max b.dp c.dp + 1) + 1 ≤ max (max a.dp b.dp + 1) (max a.dp c.dp + 1) + 1 ∧ a.sz + (b.sz + c.sz) ≤ (a.sz + b.sz) + (a.sz + c.sz)
      omega
    | .N a .L, hb => exact nomatch (show (none : Option Tree) = some u from hb)
    | .L, hb => exact nomatch (show (none : Option Tree) = some u from hb)
def dueD (t : Tree) (p : List Bool) (on : Bool) : PyData := match t.st p with
  | none => eD 3
  | some _ => match t.rwt on p with
    | none => eD 4
    | some t' => tvD t'
/-- how a step came out -/
def Out (K : PySem.W.Frag) (G : Hp) (e : Addr) (t : Tree) (p : List Bool) (on : Bool) : Prop := (t.st p = none ∧ SqT K G e [.str (en 3), .non]) ∨ (∃ u, t.st p = some u ∧ u.r0 on = none ∧ SqT K G e [.str (en 4), .non]) ∨ ∃ (x : V) (t' : Tree), t.rwt on p = some t' ∧ SqT K G e [.str ("value" : Str), x] ∧ TA K G x t'
theorem Out.tp {K : PySem.W.Frag} {G G' : Hp} {e : Addr} {t : Tree} {p : List Bool} {on : Bool} (k : Tp G G') (h : Out K G e t p on) : Out K G' e t p on := by
  rcases h with ⟨h1, h2⟩ | ⟨u, h1, h2, h3⟩ | ⟨x, t', h1, h2, h3⟩
  · exact .inl ⟨h1, k.sqT h2⟩
  · exact .inr (.inl ⟨u, h1, h2, k.sqT h3⟩)
  · exact .inr (.inr ⟨x, t', h1, k.sqT h2, ta_mono k h3⟩)
theorem rwt_none {t : Tree} {p : List Bool} {on : Bool} {u : Tree} (h1 : t.st p = some u) (h2 : u.r0 on = none) : t.rwt on p = none := by
  unfold Tree.rwt
  rw [h1]
  show (u.r0 on).bind (fun u' => t.rp p u') = none
  rw [h2]
  rfl
theorem Out.dp {K : PySem.W.Frag} {G : Hp} {e : Addr} {t : Tree} {p : List Bool} {on : Bool} (h : Out K G e t p on) : Dp K G (.ref e) (dueD t p on) := by
  unfold dueD
  rcases h with ⟨h1, h2⟩ | ⟨u, h1, h2, h3⟩ | ⟨x, t', h1, h2, h3⟩
  · rw [h1]
    exact dp_eD h2
  · rw [h1, rwt_none h1 h2]
    exact dp_eD h3
  · obtain ⟨u, u', a1, _⟩ := Tree.rwt_parts h1
    rw [a1, h1]
    exact dp_tvD h2 h3
theorem due_ok {t : Tree} (p : List Bool) (on : Bool) (hd : t.dp ≤ 6) : SeqAt.shaped (dueD t p on) = true ∧ (dueD t p on).depth < 14 ∧ wide (dueD t p on) = true := by
  unfold dueD
  cases t.st p with
  | none => exact ⟨eD_shaped 3 (by decide), Nat.lt_of_lt_of_le (eD_depth 3 (by decide)) (by decide), eD_wide 3⟩
  | some u =>
    cases e : t.rwt on p with
    | none => exact ⟨eD_shaped 4 (by decide), Nat.lt_of_lt_of_le (eD_depth 4 (by decide)) (by decide), eD_wide 4⟩
    | some t' =>
      have := Tree.rwt_dp e
      refine ⟨tvD_shaped (by omega), ?_, tvD_wide t'⟩
      have e2 : (tvD t').depth = max (PyData.depth (.str ("value" : Str))) (max t'.d.depth 0) + 1 := rfl
      have e3 : PyData.depth (.str ("value" : Str)) ≤ 1 := by first | exact Nat.le_refl _ | exact Nat.zero_le _
      have e4 := t'.d_depth
      show (tvD t').depth < 14
      omega
def spDue (K : PySem.W.Frag) : Sp := fun vs H Q _ => ∃ (v : V) (t : Tree) (p : List Bool) (on : Bool), vs = [v, .str (ptx p), .bl on] ∧ TA K H v t ∧ t.dp ≤ 6 ∧ p.length ≤ 8 ∧ ∀ (x : V) (H' : Hp), Dp K H' x (dueD t p on) → Same H H' → Q x H'
structure Fr08 (K : PySem.W.Frag) (T : List (Addr × Str)) (r c : Addr) (v : V) (t : Tree) (l : Addr) (xs : List V) (G : Hp) : Prop where
  R : RngC G r c
  tb : LamX.Tabs T G
  a : TA K G v t
  L : G l = some (.lst xs)
theorem Fr08.same {K : PySem.W.Frag} {T : List (Addr × Str)} {r c l : Addr} {v : V} {t : Tree} {xs : List V} {G G' : Hp} (h : Fr08 K T r c v t l xs G) (s : Same G G') : Fr08 K T r c v t l xs G' := ⟨h.R.same s, tabs_same s h.tb, ta_mono (Tp.same s) h.a, s _ _ h.L⟩
theorem Fr08.extN {K : PySem.W.Frag} {T : List (Addr × Str)} {r c l : Addr} {v : V} {t : Tree} {xs : List V} {G G' : Hp} (h : Fr08 K T r c v t l xs G) (e : LamX.ExtN G G') (t' : LamX.Tabs T G') : Fr08 K T r c v t l xs G' := ⟨h.R.extN e, t', ta_mono (Tp.extN e) h.a, e _ _ h.L (fun _ => nofun)⟩
def PthV (x : V) : Prop := ∃ p : List Bool, x = .str (ptx p) ∧ p.length ≤ 8
theorem cutV_takeN {xs : List V} {k : Nat} : cutV xs none (some (k : Int)) = xs.take k := by
  unfold cutV
  rw [HT.sIx_none, HT.sIx_nat, List.drop_zero, Nat.sub_zero]
  rcases Nat.le_total k xs.length with h | h
  · rw [Nat.min_eq_left h]
  · rw [Nat.min_eq_right h, List.take_of_length_le (Nat.le_refl _), List.take_of_length_le h]
/-! ### the kinds of fields: 1 position, 2 name, 3 size, 4 row -/
def fk (j : Nat) : Nat := if [1, 9, 17].contains j then 1 else if [14, 15].contains j then 2 else if j = 5 then 3 else if j = 19 then 4 else 0
def fnm (n : Nat) : Str := if n = 1 then "position" else if n = 2 then "name" else if n = 3 then "size" else "row"
theorem fk_in3 : ∀ j, j < 20 → inV (.str (en j)) [.str (en 1), .str (en 9), .str (en 17)] = decide (fk j = 1) := by decide +kernel
theorem fk_in2 : ∀ j, j < 20 → inV (.str (en j)) [.str (en 14), .str (en 15)] = decide (fk j = 2) := by decide +kernel
theorem fk_big : ∀ j, j < 20 → decide (V.str (en j) = V.str (en 5)) = decide (fk j = 3) := by decide +kernel
theorem fk_row : ∀ j, j < 20 → decide (V.str (en j) = V.str (en 19)) = decide (fk j = 4) := by decide +kernel
theorem fk_none0 : ∀ j, j < 20 → decide (fk j = 1) = false → decide (fk j = 2) = false → decide (fk j = 3) = false → decide (fk j = 4) = false → fk j = 0 := by decide +kernel
theorem fk_none (j : Nat) (h : j < 20) (c1' : decide (fk j = 1) = false) (c2' : decide (fk j = 2) = false) (c3' : decide (fk j = 3) = false) (c4' : decide (fk j = 4) = false) : fk j = 0 := fk_none0 j h c1' c2' c3' c4'
/-! ### labels: texts as lists of signs -/
def sL (l : List Nat) : Str := ⟨l.toArray⟩
theorem sL_cps (l : List Nat) : (sL l).cps.toList = l := rfl
theorem sL_len (l : List Nat) : (sL l).length = l.length := rfl
theorem sL_app (a b : List Nat) : sL a ++ sL b = sL (a ++ b) := by
  show (⟨a.toArray ++ b.toArray⟩ : Str) = ⟨(a ++ b).toArray⟩
  congr 1
  apply Array.toList_inj.mp
  simp
theorem sL_eta (z : Str) : sL z.cps.toList = z := rfl
theorem sL_inj {a b : List Nat} (h : sL a = sL b) : a = b := by
  have e := congrArg (fun z : Str => z.cps.toList) h
  exact e
def nmV (n : List Nat) : V := .str (sL n)
def nmK (n : List Nat) : L2.Key := Sum.inr (sL n)
theorem nmK_inj {a b : List Nat} (h : nmK a = nmK b) : a = b := sL_inj (Sum.inr.inj h)
theorem inV_nm (n : List Nat) (kn : List (List Nat)) : inV (nmV n) (kn.map nmV) = decide (n ∈ kn) := by
  unfold inV
  induction kn with
  | nil => rfl
  | cons a r ih =>
    rw [List.map_cons, List.any_cons, ih]
    by_cases e : a = n
    · have z : eqV (nmV a) (nmV n) = true := by rw [e]; simp [nmV, eqV]
      rw [z, decide_eq_true (List.mem_cons.mpr (.inl e.symm)), Bool.true_or]
    · have z : eqV (nmV a) (nmV n) = false := by
        simp only [nmV, eqV]
        exact decide_eq_false fun z => e (sL_inj z)
      rw [z, Bool.false_or]
      refine decide_eq_decide.mpr ⟨fun h => List.mem_cons_of_mem _ h, fun h => ?_⟩
      rcases List.mem_cons.mp h with h | h
      · exact absurd h.symm e
      · exact h
theorem flat_nms : ∀ kn : List (List Nat), (kn.map nmV).all flatV = true
  | [] => rfl
  | _ :: r => flat_nms r
def Asc (l : List Nat) : Prop := ∀ c ∈ l, c < 128
theorem Asc.app {a b : List Nat} (h1 : Asc a) (h2 : Asc b) : Asc (a ++ b) := fun c hc => (List.mem_append.mp hc).elim (h1 c) (h2 c)
theorem Asc.cons {a : Nat} {b : List Nat} (h1 : a < 128) (h2 : Asc b) : Asc (a :: b) := fun c hc => by
  rcases List.mem_cons.mp hc with rfl | hc
  · exact h1
  · exact h2 c hc
theorem asc_nil : Asc [] := fun _ z => nomatch z
theorem asc_ok {l : List Nat} (h : Asc l) : PyData.canLay0 (.str (sL l)) = true := by
  show ((l.toArray).all fun c => decide (c < 0x110000)) = true
  rw [List.all_toArray]
  refine List.all_eq_true.mpr fun c hc => decide_eq_true ?_
  have := h c hc
  omega
theorem asc_all {ls : List (List Nat)} (h : ∀ l ∈ ls, Asc l) : PyData.canLayAll0 (ls.map fun l => PyData.str (sL l)) = true := by
  induction ls with
  | nil => rfl
  | cons l ls ih =>
    show (PyData.canLay0 (.str (sL l)) && PyData.canLayAll0 (ls.map fun l => PyData.str (sL l))) = true
    rw [asc_ok (h l List.mem_cons_self), ih fun x hx => h x (List.mem_cons_of_mem _ hx)]
    rfl
def strsD (ls : List (List Nat)) : PyData := .list (ls.map fun l => PyData.str (sL l))
theorem strs_depth (ls : List (List Nat)) : (strsD ls).depth ≤ 2 := by
  have e : PyData.depthAll (ls.map fun l => PyData.str (sL l)) ≤ 1 := by
    induction ls with
    | nil => exact Nat.zero_le _
    | cons l ls ih =>
      show max (PyData.depth (.str (sL l))) (PyData.depthAll (ls.map fun l => PyData.str (sL l))) ≤ 1
      have e3 : PyData.depth (.str (sL l)) ≤ 1 := by first | exact Nat.le_refl _ | exact Nat.zero_le _
      omega
  show PyData.depthAll (ls.map fun l => PyData.str (sL l)) + 1 ≤ 2
  omega
theorem strs_shaped {ls : List (List Nat)} (h : ∀ l ∈ ls, Asc l) : SeqAt.shaped (strsD ls) = true := by
  have e1 : (strsD ls).canLay0 = true := asc_all h
  have e2 := strs_depth ls
  unfold SeqAt.shaped
  rw [e1, decide_eq_true (by omega)]
  rfl
theorem strs_wide {ls : List (List Nat)} (h : ls.length ≤ 1000) : wide (strsD ls) = true := by
  have e : wideAll (ls.map fun l => PyData.str (sL l)) = true := by
    clear h
    induction ls with
    | nil => rfl
    | cons l ls ih =>
      show (wide (.str (sL l)) && wideAll (ls.map fun l => PyData.str (sL l))) = true
      rw [ih]
      rfl
  show (decide ((ls.map fun l => PyData.str (sL l)).length ≤ 1000) && wideAll (ls.map fun l => PyData.str (sL l))) = true
  rw [e, List.length_map, decide_eq_true h]
  rfl
theorem strs_dp {K : PySem.W.Frag} {H : Hp} {t : Addr} {ls : List (List Nat)} (h : SqL K H t (ls.map nmV)) : Dp K H (.ref t) (strsD ls) := by
  refine Dp.lst h ?_
  clear h
  induction ls with
  | nil => exact .nil
  | cons e ds ih => exact .cons (.str _) ih
theorem strs_eqv {ls : List (List Nat)} (h : ∀ l ∈ ls, Asc l) : PyData.eqv (strsD ls) (strsD ls) = true := SeqAt.eqv_refl _ (SeqAt.canLay_of_shaped (strs_shaped h))
def okNmV (v : V) : Prop := ∃ l : List Nat, v = nmV l ∧ l.length ≤ 100
section
variable {J : It} {n : Nat} {G : Hp → Prop} {Y : Nat → Hp → V → Hp → Prop}
/-- a dict comprehension over it -/
theorem dc_it (w : Walk J n G Y) {g : TG} {tt : TT} {tk tv : TE} {vs : List Nat} {σ : L2.St} {H1 : Hp} {D : Addr} {Qd : Hp → Prop} (Pv : Nat → Hp → Prop) (h0 : Pv 0 (upd H1 D (.dK []))) (hG : ∀ i H, i ≤ n → Pv i H → G H)
    (hs : ∀ i x H H', i < n → Pv i H → Y i H x H' → g x (wipe σ vs) H' fun σ2 H2 => wipe σ2 vs = wipe σ vs ∧ tt σ2 H2 fun b H3 =>
      if b = true then tk σ2 H3 fun y H4 => tv σ2 H4 fun z H5 => ∃ kvs k, y = kV k ∧ H5 D = some (.dK kvs) ∧ kvs.length < sizeLine ∧ Pv (i + 1) (upd H5 D (.dK (putK kvs k z))) else Pv (i + 1) H3) (hd : ∀ H, Pv n H → Qd H) :
    ∃ W : Nat → Nat → Hp → Prop, (∃ m, W 0 m (upd H1 D (.dK []))) ∧ ∀ i m H, W i m H →
      (J.stop i H ∧ Qd H) ∨ (J.go i H ∧ ∃ Nx : Hp → Prop, (∀ H', Nx H' → ∃ m', m' < m ∧ W (i + 1) m' H') ∧ ∀ x H', J.yld i H x H' → g x (wipe σ vs) H' fun σ2 H2 => wipe σ2 vs = wipe σ vs ∧ tt σ2 H2 fun b H3 =>
        if b = true then tk σ2 H3 fun y H4 => tv σ2 H4 fun z H5 => ∃ kvs k, y = kV k ∧ H5 D = some (.dK kvs) ∧ kvs.length < sizeLine ∧ Nx (upd H5 D (.dK (putK kvs k z))) else Nx H3) := by
  refine ⟨fun i m H => m = n - i ∧ i ≤ n ∧ Pv i H, ⟨n, by simp, Nat.zero_le _, h0⟩, ?_⟩
  rintro i m H ⟨rfl, hi, p⟩
  have q := hG i H hi p
  by_cases hlt : i < n
  · refine .inr ⟨w.goes i H hlt q, Pv (i + 1), fun H' p' => ⟨n - (i + 1), by omega, rfl, hlt, p'⟩, fun x H' y => hs i x H H' hlt p (w.yields i H x H' hlt q y)⟩
  · have e : i = n := by omega
    subst e
    exact .inl ⟨w.stops H q, hd H p⟩
end
/-! ### ascending texts -/
abbrev leS (a b : Str) : Prop := ¬ (b.cps.toList < a.cps.toList)
theorem leS_of {a b : Str} (h : PySem.Spec.ltCps b.cps.toList a.cps.toList = false) : leS a b := by
  rw [PyProof.Rows.ltCps_eq] at h
  exact of_decide_eq_false h
theorem leS_trans {a b c : Str} (h1 : leS a b) (h2 : leS b c) : leS a c := List.le_trans (α := Nat) (l₁ := a.cps.toList) (l₂ := b.cps.toList) (l₃ := c.cps.toList) h1 h2
theorem leS_anti {a b : Str} (h1 : leS a b) (h2 : leS b a) : a = b := by
  have e : a.cps.toList = b.cps.toList := List.le_antisymm (α := Nat) h1 h2
  obtain ⟨⟨x⟩⟩ := a
  obtain ⟨⟨y⟩⟩ := b
  cases e
  rfl
theorem rising_pw : ∀ (l : List Str) (p : Str), PyProof.Rows.risingS p l = true → (p :: l).Pairwise leS
  | [], p, _ => by simp
  | x :: l, p, h => by
    have h : (!PySem.Spec.ltCps x.cps.toList p.cps.toList && PyProof.Rows.risingS x l) = true := h
    rw [Bool.and_eq_true] at h
    have h1 : leS p x := leS_of (by have := h.1; cases e : PySem.Spec.ltCps x.cps.toList p.cps.toList with | false => rfl | true => rw [e] at this; cases this)
    have h2 := rising_pw l x h.2
    refine List.pairwise_cons.mpr ⟨fun y hy => ?_, h2⟩
    rcases List.mem_cons.mp hy with rfl | hy
    · exact h1
    · exact leS_trans h1 ((List.pairwise_cons.mp h2).1 y hy)
theorem sorted_pw : ∀ (l : List Str), PyProof.Rows.sortedS l = true → l.Pairwise leS
  | [], _ => by simp
  | x :: l, h => rising_pw l x h
theorem sorted_eqS : ∀ {l m : List Str}, l.Perm m → l.Pairwise leS → m.Pairwise leS → l = m
  | [], m, h, _, _ => (List.nil_perm.mp h).symm
  | x :: l, [], h, _, _ => absurd (List.perm_nil.mp h) (by simp)
  | x :: l, y :: m, h, h1, h2 => by
    obtain ⟨a1, a2⟩ := List.pairwise_cons.mp h1
    obtain ⟨b1, b2⟩ := List.pairwise_cons.mp h2
    have e : x = y := by
      have hx := h.mem_iff.mp (List.mem_cons_self (a := x) (l := l))
      have hy := h.mem_iff.mpr (List.mem_cons_self (a := y) (l := m))
      rcases List.mem_cons.mp hx with z | z
      · exact z
      rcases List.mem_cons.mp hy with z' | z'
      · exact z'.symm
      exact leS_anti (a1 y z') (b1 x z)
    subst e
    rw [sorted_eqS (h.cons_inv) a2 b2]
/-! ### stores -/
def LOW : List Nat := (Str.ofString "abcdefghijklmnopqrstuvwxyz").cps.toList
theorem low_eq : LOW = [97, 98, 99, 100, 101, 102, 103, 104, 105, 106, 107, 108, 109, 110, 111, 112, 113, 114, 115, 116, 117, 118, 119, 120, 121, 122] := by decide +kernel
theorem low_iff (c : Nat) : c ∈ LOW ↔ 97 ≤ c ∧ c ≤ 122 := by
  rw [low_eq]
  constructor
  · intro h
    simp only [List.mem_cons, List.not_mem_nil, or_false] at h
    omega
  · intro h
    simp only [List.mem_cons, List.not_mem_nil, or_false]
    omega
def isLb (z : List Nat) : Bool := decide (1 ≤ z.length) && (decide (z.length ≤ 8) && z.all fun c => decide (c ∈ LOW))
theorem isLb_asc {z : List Nat} (h : isLb z = true) : Asc z := fun c hc => by
  have h2 := (Bool.and_eq_true_iff.mp (Bool.and_eq_true_iff.mp h).2).2
  have := (low_iff c).mp (of_decide_eq_true (List.all_eq_true.mp h2 c hc))
  omega
abbrev Cts := List (List Nat × Tree)
def lkC (cs : Cts) (z : List Nat) : Option Tree := (cs.find? fun e => decide (e.1 = z)).map (·.2)
def hasC (cs : Cts) (z : List Nat) : Bool := cs.any fun e => decide (e.1 = z)
def putC (cs : Cts) (z : List Nat) (t : Tree) : Cts := if hasC cs z = true then cs.map (fun e => if e.1 = z then (e.1, t) else e) else cs ++ [(z, t)]
def dropC (cs : Cts) (z : List Nat) : Cts := cs.filter fun e => !decide (e.1 = z)
theorem lk_has {cs : Cts} {z : List Nat} : hasC cs z = (lkC cs z).isSome := by
  unfold hasC lkC
  rw [Option.isSome_map, List.isSome_find?]
inductive CtAll (K : PySem.W.Frag) (H : Hp) : List (L2.Key × V) → Cts → Prop
  | nil : CtAll K H [] []
  | cons {z : List Nat} {t : Tree} {v : V} {kvs : List (L2.Key × V)} {cs : Cts} : TA K H v t → CtAll K H kvs cs → CtAll K H ((nmK z, v) :: kvs) ((z, t) :: cs)
theorem CtAll.tp {K : PySem.W.Frag} {H H' : Hp} {kvs : List (L2.Key × V)} {cs : Cts} (e : Tp H H') (h : CtAll K H kvs cs) : CtAll K H' kvs cs := by
  induction h with
  | nil => exact .nil
  | cons h _ ih => exact .cons (ta_mono e h) ih
theorem CtAll.keys {K : PySem.W.Frag} {H : Hp} {kvs : List (L2.Key × V)} {cs : Cts} (h : CtAll K H kvs cs) : kvs.map (·.1) = cs.map fun e => nmK e.1 := by
  induction h with
  | nil => rfl
  | cons _ _ ih => rw [List.map_cons, List.map_cons, ih]
theorem CtAll.len {K : PySem.W.Frag} {H : Hp} {kvs : List (L2.Key × V)} {cs : Cts} (h : CtAll K H kvs cs) : kvs.length = cs.length := by
  have := congrArg List.length h.keys
  rwa [List.length_map, List.length_map] at this
theorem nmK_dec (a b : List Nat) : decide (nmK a = nmK b) = decide (a = b) := decide_eq_decide.mpr ⟨nmK_inj, fun e => by rw [e]⟩
theorem CtAll.val {K : PySem.W.Frag} {H : Hp} {kvs : List (L2.Key × V)} {cs : Cts} (h : CtAll K H kvs cs) (z : List Nat) : (lkC cs z = none ∧ valV kvs (nmK z) = none) ∨ ∃ t v, lkC cs z = some t ∧ valV kvs (nmK z) = some v ∧ TA K H v t := by
  induction h with
  | nil => exact .inl ⟨rfl, rfl⟩
  | @cons y t v kvs cs ht _ ih =>
    unfold lkC valV
    rw [List.find?_cons, List.find?_cons]
    show _ ∨ _
    rw [show decide ((nmK y, v).1 = nmK z) = decide (y = z) from nmK_dec y z]
    by_cases e : y = z
    · rw [decide_eq_true e]
      exact .inr ⟨t, v, rfl, rfl, ht⟩
    · rw [decide_eq_false e]
      exact ih
theorem CtAll.any {K : PySem.W.Frag} {H : Hp} {kvs : List (L2.Key × V)} {cs : Cts} (h : CtAll K H kvs cs) (z : List Nat) : (kvs.any fun kv => decide (kv.1 = nmK z)) = hasC cs z := by
  unfold hasC
  induction h with
  | nil => rfl
  | @cons y t v kvs cs _ _ ih =>
    rw [List.any_cons, List.any_cons, ih]
    rw [show decide ((nmK y, v).1 = nmK z) = decide (y = z) from nmK_dec y z]
theorem CtAll.app {K : PySem.W.Frag} {H : Hp} {kvs ls : List (L2.Key × V)} {cs es : Cts} (h : CtAll K H kvs cs) (h2 : CtAll K H ls es) : CtAll K H (kvs ++ ls) (cs ++ es) := by
  induction h with
  | nil => exact h2
  | cons h _ ih => exact .cons h ih
theorem CtAll.put {K : PySem.W.Frag} {H : Hp} {kvs : List (L2.Key × V)} {cs : Cts} (h : CtAll K H kvs cs) {z : List Nat} {t : Tree} {v : V} (hv : TA K H v t) : CtAll K H (putK kvs (nmK z) v) (putC cs z t) := by
  unfold putK putC
  rw [h.any z]
  by_cases e : hasC cs z = true
  · rw [if_pos e, if_pos e]
    clear e
    induction h with
    | nil => exact .nil
    | @cons y u x kvs cs hx _ ih =>
      rw [List.map_cons, List.map_cons]
      by_cases e : y = z
      · subst e
        rw [if_pos rfl, if_pos rfl]
        exact .cons hv ih
      · rw [if_neg (fun q => e (nmK_inj q)), if_neg e]
        exact .cons hx ih
  · rw [if_neg e, if_neg e]
    exact h.app (.cons hv .nil)
theorem CtAll.drop {K : PySem.W.Frag} {H : Hp} {kvs : List (L2.Key × V)} {cs : Cts} (h : CtAll K H kvs cs) {z : List Nat} : CtAll K H (dropK kvs (nmK z)) (dropC cs z) := by
  unfold dropK dropC
  induction h with
  | nil => exact .nil
  | @cons y u x kvs cs hx _ ih =>
    rw [List.filter_cons, List.filter_cons]
    by_cases e : y = z
    · subst e
      rw [if_neg (by simp), if_neg (by simp)]
      exact ih
    · rw [if_pos (show decide ((nmK y, x).1 ≠ nmK z) = true from decide_eq_true fun q => e (nmK_inj q)), if_pos (show (!decide ((y, u).1 = z)) = true by rw [decide_eq_false e]; rfl)]
      exact .cons hx ih
/-- a dict at c holds these contents -/
def CtA (K : PySem.W.Frag) (H : Hp) (c : Addr) (cs : Cts) : Prop := ∃ kvs, H c = some (.dK kvs) ∧ CtAll K H kvs cs
theorem CtA.same {K : PySem.W.Frag} {H H' : Hp} {c : Addr} {cs : Cts} (h : CtA K H c cs) (s : Same H H') : CtA K H' c cs := by
  obtain ⟨kvs, h1, h2⟩ := h
  exact ⟨kvs, s _ _ h1, h2.tp (Tp.same s)⟩
structure CtOk (cs : Cts) : Prop where
  nd : (cs.map (·.1)).Nodup
  len : cs.length ≤ 12
  lb : ∀ e ∈ cs, isLb e.1 = true
  fit : ∀ e ∈ cs, e.2.sz ≤ 12 ∧ e.2.dp ≤ 6
theorem ctok_nil : CtOk [] := ⟨List.nodup_nil, Nat.zero_le _, (fun _ h => nomatch h), (fun _ h => nomatch h)⟩
theorem lk_mem {cs : Cts} {z : List Nat} {t : Tree} (h : lkC cs z = some t) : (z, t) ∈ cs := by
  unfold lkC at h
  obtain ⟨e, h1, rfl⟩ := Option.map_eq_some_iff.mp h
  have h2 := List.find?_some h1
  have h2 : e.1 = z := of_decide_eq_true h2
  rw [← h2]
  exact List.mem_of_find?_eq_some h1
theorem has_mem {cs : Cts} {z : List Nat} : hasC cs z = true ↔ z ∈ cs.map (·.1) := by
  unfold hasC
  rw [List.any_eq_true]
  constructor
  · rintro ⟨e, h1, h2⟩
    rw [← of_decide_eq_true h2]
    exact List.mem_map.mpr ⟨e, h1, rfl⟩
  · intro h
    obtain ⟨e, h1, h2⟩ := List.mem_map.mp h
    exact ⟨e, h1, decide_eq_true h2⟩
theorem put_keys {cs : Cts} {z : List Nat} {t : Tree} (h : hasC cs z = true) : (putC cs z t).map (·.1) = cs.map (·.1) := by
  unfold putC
  rw [if_pos h, List.map_map]
  refine List.map_congr_left fun e _ => ?_
  show (if e.1 = z then (e.1, t) else e).1 = e.1
  by_cases c : e.1 = z
  · rw [if_pos c]
  · rw [if_neg c]
theorem CtOk.rep {cs : Cts} (h : CtOk cs) {z : List Nat} {t : Tree} (hz : hasC cs z = true) (h1 : t.sz ≤ 12) (h2 : t.dp ≤ 6) : CtOk (putC cs z t) := by
  have ek := put_keys (t := t) hz
  have el : (putC cs z t).length = cs.length := by
    have := congrArg List.length ek
    rwa [List.length_map, List.length_map] at this
  refine ⟨by rw [ek]; exact h.nd, by rw [el]; exact h.len, fun e he => ?_, fun e he => ?_⟩
  · have hm : e.1 ∈ (putC cs z t).map (·.1) := List.mem_map.mpr ⟨e, he, rfl⟩
    rw [ek] at hm
    obtain ⟨e0, h3, h4⟩ := List.mem_map.mp hm
    rw [← h4]
    exact h.lb e0 h3
  · unfold putC at he
    rw [if_pos hz] at he
    obtain ⟨e0, h3, rfl⟩ := List.mem_map.mp he
    by_cases c : e0.1 = z
    · rw [if_pos c]
      exact ⟨h1, h2⟩
    · rw [if_neg c]
      exact h.fit e0 h3
theorem CtOk.new {cs : Cts} (h : CtOk cs) {z : List Nat} {t : Tree} (hz : hasC cs z = false) (hl : cs.length < 12) (hb : isLb z = true) (h1 : t.sz ≤ 12) (h2 : t.dp ≤ 6) : CtOk (putC cs z t) := by
  have e : putC cs z t = cs ++ [(z, t)] := by unfold putC; rw [if_neg (by rw [hz]; decide)]
  rw [e]
  refine ⟨?_, by rw [List.length_append, List.length_singleton]; omega, fun e he => ?_, fun e he => ?_⟩
  · rw [List.map_append, List.nodup_append]
    refine ⟨h.nd, by simp, fun a ha b hb2 => ?_⟩
    have : b = z := by simpa using hb2
    subst this
    intro e2
    subst e2
    rw [has_mem.mpr ha] at hz
    cases hz
  · rcases List.mem_append.mp he with he | he
    · exact h.lb e he
    · rw [List.mem_singleton.mp he]
      exact hb
  · rcases List.mem_append.mp he with he | he
    · exact h.fit e he
    · rw [List.mem_singleton.mp he]
      exact ⟨h1, h2⟩
theorem CtOk.drop {cs : Cts} (h : CtOk cs) {z : List Nat} : CtOk (dropC cs z) := by
  have hs : (dropC cs z).Sublist cs := List.filter_sublist
  exact ⟨(hs.map _).nodup h.nd, Nat.le_trans hs.length_le h.len, fun e he => h.lb e (hs.subset he), fun e he => h.fit e (hs.subset he)⟩
/-! ### commands and what becomes of them -/
inductive SE where
  | lab | dup (z : List Nat) | unk (z : List Nat) | term | path | pnf | nrw | big (n : Nat) | lim | empty | cmd (i : Nat)
inductive Cmd where
  | add (z : List Nat) (ot : Option Tree) | combine (z l r : List Nat) | extract (z s : List Nat) (rt : Bool) | rewrite (z : List Nat) (p : Option (List Bool)) (con : Bool) | delete (z : List Nat)
def fitsT (t : Tree) : Bool := decide (t.sz ≤ 12) && decide (t.dp ≤ 6)
def withN (cs : Cts) (z : List Nat) (t : Tree) : Except SE Cts := if 12 ≤ cs.length then .error .lim else .ok (putC cs z t)
def chkL (cs : Cts) (z : List Nat) : Option SE := if isLb z = false then some .lab else if hasC cs z = true then some (.dup z) else none
def opAdd (cs : Cts) (z : List Nat) (ot : Option Tree) : Except SE Cts := match chkL cs z with
  | some e => .error e
  | none => match ot with
    | none => .error .term
    | some t => withN cs z t
def opCmb (cs : Cts) (z l r : List Nat) : Except SE Cts := match chkL cs z with
  | some e => .error e
  | none => match lkC cs l with
    | none => .error (.unk l)
    | some a => match lkC cs r with
      | none => .error (.unk r)
      | some b => if fitsT (.N a b) = true then withN cs z (.N a b) else .error (.big (Tree.N a b).sz)
def opExt (cs : Cts) (z s : List Nat) (rt : Bool) : Except SE Cts := match chkL cs z with
  | some e => .error e
  | none => match lkC cs s with
    | none => .error (.unk s)
    | some .L => .error .pnf
    | some (.N a b) => withN cs z (if rt = true then b else a)
def opRwr (cs : Cts) (z : List Nat) (op : Option (List Bool)) (con : Bool) : Except SE Cts := match lkC cs z with
  | none => .error (.unk z)
  | some t => match op with
    | none => .error .path
    | some p => match t.st p with
      | none => .error .pnf
      | some u => match u.r0 (!con) with
        | none => .error .nrw
        | some _ => match t.rwt (!con) p with
          | none => .error .nrw
          | some t' => if fitsT t' = true then .ok (putC cs z t') else .error (.big t'.sz)
def opDel (cs : Cts) (z : List Nat) : Except SE Cts := match lkC cs z with
  | none => .error (.unk z)
  | some _ => .ok (dropC cs z)
def appC (cs : Cts) : Cmd → Except SE Cts
  | .add z ot => opAdd cs z ot
  | .combine z l r => opCmb cs z l r
  | .extract z s rt => opExt cs z s rt
  | .rewrite z p con => opRwr cs z p con
  | .delete z => opDel cs z
theorem chkL_none {cs : Cts} {z : List Nat} (h : chkL cs z = none) : isLb z = true ∧ hasC cs z = false := by
  unfold chkL at h
  by_cases c : isLb z = false
  · rw [if_pos c] at h
    cases h
  · rw [if_neg c] at h
    by_cases c2 : hasC cs z = true
    · rw [if_pos c2] at h
      cases h
    · exact ⟨by cases e : isLb z with | true => rfl | false => exact absurd e c, by cases e : hasC cs z with | false => rfl | true => exact absurd e c2⟩
theorem withN_ok {cs cs' : Cts} {z : List Nat} {t : Tree} (h : CtOk cs) (hc : chkL cs z = none) (hw : withN cs z t = .ok cs') (h1 : t.sz ≤ 12) (h2 : t.dp ≤ 6) : CtOk cs' := by
  obtain ⟨a, b⟩ := chkL_none hc
  unfold withN at hw
  by_cases c : 12 ≤ cs.length
  · rw [if_pos c] at hw
    cases hw
  · rw [if_neg c] at hw
    cases hw
    exact h.new b (by omega) a h1 h2
theorem fitsT_iff {t : Tree} : fitsT t = true ↔ t.sz ≤ 12 ∧ t.dp ≤ 6 := by
  unfold fitsT
  rw [Bool.and_eq_true, decide_eq_true_eq, decide_eq_true_eq]
theorem app_ok {cs cs' : Cts} {c : Cmd} (h : CtOk cs) (hf : ∀ z t, c = .add z (some t) → t.sz ≤ 12 ∧ t.dp ≤ 6) (ha : appC cs c = .ok cs') : CtOk cs' := by
  cases c with
  | add z ot =>
    have ha : opAdd cs z ot = .ok cs' := ha
    unfold opAdd at ha
    split at ha
    · cases ha
    · rename_i hc
      cases ot with
      | none => cases ha
      | some t => exact withN_ok h hc ha (hf z t rfl).1 (hf z t rfl).2
  | combine z l r =>
    have ha : opCmb cs z l r = .ok cs' := ha
    unfold opCmb at ha
    split at ha
    · cases ha
    · rename_i hc
      split at ha
      · cases ha
      · split at ha
        · cases ha
        · split at ha
          · rename_i hfit
            exact withN_ok h hc ha (fitsT_iff.mp hfit).1 (fitsT_iff.mp hfit).2
          · cases ha
  | extract z s rt =>
    have ha : opExt cs z s rt = .ok cs' := ha
    unfold opExt at ha
    split at ha
    · cases ha
    · rename_i hc
      split at ha
      · cases ha
      · cases ha
      · rename_i a b hl
        have hf := h.fit _ (lk_mem hl)
        have e1 : (Tree.N a b).sz = a.sz + b.sz := rfl
        have e2 : (Tree.N a b).dp = max a.dp b.dp + 1 := rfl
        have hf1 : a.sz + b.sz ≤ 12 := e1 ▸ hf.1
        have hf2 : max a.dp b.dp + 1 ≤ 6 := e2 ▸ hf.2
        refine withN_ok h hc ha ?_ ?_
        · cases rt
          · show a.sz ≤ 12; omega
          · show b.sz ≤ 12; omega
        · cases rt
          · show a.dp ≤ 6; omega
          · show b.dp ≤ 6; omega
  | rewrite z p con =>
    have ha : opRwr cs z p con = .ok cs' := ha
    unfold opRwr at ha
    split at ha
    · cases ha
    · rename_i hl
      split at ha
      · cases ha
      · split at ha
        · cases ha
        · split at ha
          · cases ha
          · split at ha
            · cases ha
            · split at ha
              · rename_i hfit
                cases ha
                exact h.rep (by rw [lk_has, hl]; rfl) (fitsT_iff.mp hfit).1 (fitsT_iff.mp hfit).2
              · cases ha
  | delete z =>
    have ha : opDel cs z = .ok cs' := ha
    unfold opDel at ha
    split at ha
    · cases ha
    · cases ha
      exact h.drop
/-! ### errors of a store -/
structure EAd where
  (lab dup unk term path pnf nrw big lim empty cmd : Addr)
def SEX (A : EAd) (H : Hp) (E : XK) : SE → Prop
  | .lab => ∀ H', Same H H' → E (.ref A.lab) none H'
  | .dup z => ∀ (e : Addr) (H' : Hp), Same H H' → H e = none → H' e = some (.xd [("name", nmV z)]) → E (.ref A.dup) (some e) H'
  | .unk z => ∀ (e : Addr) (H' : Hp), Same H H' → H e = none → H' e = some (.xd [("name", nmV z)]) → E (.ref A.unk) (some e) H'
  | .term => ∀ H', Same H H' → E (.ref A.term) none H'
  | .path => ∀ H', Same H H' → E (.ref A.path) none H'
  | .pnf => ∀ H', Same H H' → E (.ref A.pnf) none H'
  | .nrw => ∀ H', Same H H' → E (.ref A.nrw) none H'
  | .big n => ∀ (e : Addr) (H' : Hp), Same H H' → H e = none → H' e = some (.xd [("size", .int (n : Int))]) → E (.ref A.big) (some e) H'
  | .lim => ∀ H', Same H H' → E (.ref A.lim) none H'
  | .empty => ∀ H', Same H H' → E (.ref A.empty) none H'
  | .cmd i => ∀ (e : Addr) (H' : Hp), Same H H' → H e = none → H' e = some (.xd [("position", .int (i : Int))]) → E (.ref A.cmd) (some e) H'
theorem SEX.same {A : EAd} {H H1 : Hp} {E : XK} {e : SE} (h : SEX A H E e) (s : Same H H1) : SEX A H1 E e := by
  cases e with
  | dup z => exact fun a H' k n f => h a H' (s.trans k) (s.free n) f
  | unk z => exact fun a H' k n f => h a H' (s.trans k) (s.free n) f
  | big z => exact fun a H' k n f => h a H' (s.trans k) (s.free n) f
  | cmd z => exact fun a H' k n f => h a H' (s.trans k) (s.free n) f
  | lab => exact fun H' k => h H' (s.trans k)
  | term => exact fun H' k => h H' (s.trans k)
  | path => exact fun H' k => h H' (s.trans k)
  | pnf => exact fun H' k => h H' (s.trans k)
  | nrw => exact fun H' k => h H' (s.trans k)
  | lim => exact fun H' k => h H' (s.trans k)
  | empty => exact fun H' k => h H' (s.trans k)
/-! ### the object -/
structure SAd where
  (x p f : Addr)
def Own (a : SAd) (b : Addr) : Prop := b = a.x ∨ b = a.p ∨ b = a.f
structure Sto where
  (cur : Cts) (past fut : List Cts)
inductive CtsAll (K : PySem.W.Frag) (H : Hp) : List V → List Cts → Prop
  | nil : CtsAll K H [] []
  | cons {c : Addr} {cs : Cts} {vs : List V} {css : List Cts} : CtA K H c cs → CtsAll K H vs css → CtsAll K H (.ref c :: vs) (cs :: css)
theorem CtsAll.len {K : PySem.W.Frag} {H : Hp} {vs : List V} {css : List Cts} (h : CtsAll K H vs css) : vs.length = css.length := by
  induction h with
  | nil => rfl
  | cons _ _ ih => exact congrArg (· + 1) ih
theorem CtsAll.app {K : PySem.W.Frag} {H : Hp} {vs ws : List V} {css es : List Cts} (h : CtsAll K H vs css) (h2 : CtsAll K H ws es) : CtsAll K H (vs ++ ws) (css ++ es) := by
  induction h with
  | nil => exact h2
  | cons h _ ih => exact .cons h ih
def stf (c p f : Addr) : List (Str × V) := [("contents", .ref c), ("past", .ref p), ("future", .ref f)]
def StA (K : PySem.W.Frag) (C : Addr) (a : SAd) (S : Sto) (H : Hp) : Prop := ∃ (dx c : Addr) (ps fs : List V),
  H a.x = some (.ins C dx (stf c a.p a.f)) ∧ CtA K H c S.cur ∧ H a.p = some (.lst ps) ∧ CtsAll K H ps S.past ∧ H a.f = some (.lst fs) ∧ CtsAll K H fs S.fut ∧ a.p ≠ a.f
/-- all but what is the store's own stays -/
def FrS (a : SAd) (H H' : Hp) : Prop := ∀ b o, H b = some o → ¬ Own a b → H' b = some o
/-- dicts and tuples stay -/
structure Kp (H H' : Hp) : Prop where
  tp : Tp H H'
  dk : ∀ b kvs, H b = some (.dK kvs) → H' b = some (.dK kvs)
theorem Kp.refl (H : Hp) : Kp H H := ⟨Tp.refl H, fun _ _ h => h⟩
theorem Kp.trans {H H1 H2 : Hp} (a : Kp H H1) (b : Kp H1 H2) : Kp H H2 := ⟨a.tp.trans b.tp, fun c k h => b.dk c k (a.dk c k h)⟩
theorem Kp.same {H H' : Hp} (s : Same H H') : Kp H H' := ⟨Tp.same s, fun b k h => s _ _ h⟩
theorem CtA.kp {K : PySem.W.Frag} {H H' : Hp} {c : Addr} {cs : Cts} (h : CtA K H c cs) (k : Kp H H') : CtA K H' c cs := by
  obtain ⟨kvs, h1, h2⟩ := h
  exact ⟨kvs, k.dk _ _ h1, h2.tp k.tp⟩
theorem CtsAll.kp {K : PySem.W.Frag} {H H' : Hp} {vs : List V} {css : List Cts} (h : CtsAll K H vs css) (k : Kp H H') : CtsAll K H' vs css := by
  induction h with
  | nil => exact .nil
  | cons h _ ih => exact .cons (h.kp k) ih
/-- a change of a list or an instance keeps dicts and tuples -/
theorem Kp.but {r : Addr} {H H' : Hp} (hr : (∃ ys, H r = some (.lst ys)) ∨ ∃ C dx fs, H r = some (.ins C dx fs)) (e : But r H H') : Kp H H' := by
  have ne : ∀ {b : Addr} {o : HO}, H b = some o → (∀ ys, o ≠ .lst ys) → (∀ C dx fs, o ≠ .ins C dx fs) → b ≠ r := fun {b o} h h1 h2 z => by
    subst z
    rcases hr with ⟨ys, q⟩ | ⟨C, dx, fs, q⟩
    · rw [q] at h
      cases h
      exact h1 _ rfl
    · rw [q] at h
      cases h
      exact h2 _ _ _ rfl
  refine ⟨fun b xs h => ?_, fun b kvs h => e _ _ (ne h (fun _ z => nomatch z) fun _ _ _ z => nomatch z) h⟩
  rcases h with h | ⟨o, h⟩
  · exact .inl (e _ _ (ne h (fun _ z => nomatch z) fun _ _ _ z => nomatch z) h)
  · exact .inr ⟨o, e _ _ (ne h (fun _ z => nomatch z) fun _ _ _ z => nomatch z) h⟩
theorem StA.kp_of {K : PySem.W.Frag} {C : Addr} {a : SAd} {S : Sto} {H H' : Hp} (h : StA K C a S H) (f : FrS a H H') : Kp H H' := by
  obtain ⟨dx, c, ps, fs, h1, _, h2, _, h3, _, _⟩ := h
  have ne : ∀ {b : Addr} {o : HO}, H b = some o → (∀ ys, o ≠ .lst ys) → (∀ C dx fs, o ≠ .ins C dx fs) → ¬ Own a b := fun {b o} hb n1 n2 z => by
    rcases z with rfl | rfl | rfl
    · rw [h1] at hb
      cases hb
      exact n2 _ _ _ rfl
    · rw [h2] at hb
      cases hb
      exact n1 _ rfl
    · rw [h3] at hb
      cases hb
      exact n1 _ rfl
  refine ⟨fun b xs h => ?_, fun b kvs h => f _ _ h (ne h (fun _ z => nomatch z) fun _ _ _ z => nomatch z)⟩
  rcases h with h | ⟨o, h⟩
  · exact .inl (f _ _ h (ne h (fun _ z => nomatch z) fun _ _ _ z => nomatch z))
  · exact .inr ⟨o, f _ _ h (ne h (fun _ z => nomatch z) fun _ _ _ z => nomatch z)⟩
theorem StA.same {K : PySem.W.Frag} {C : Addr} {a : SAd} {S : Sto} {H H' : Hp} (h : StA K C a S H) (s : Same H H') : StA K C a S H' := by
  obtain ⟨dx, c, ps, fs, h1, h3, h4, h5, h6, h7, h8⟩ := h
  have k := Kp.same s
  exact ⟨dx, c, ps, fs, s _ _ h1, h3.kp k, s _ _ h4, h5.kp k, s _ _ h6, h7.kp k, h8⟩
theorem FrS.same {a : SAd} {H H' : Hp} (s : Same H H') : FrS a H H' := fun b o h _ => s b o h
/-! ### stores: promises -/
theorem goes_set (S : Str) (c : Nat) : S.cps.contains c = decide (c ∈ S.cps.toList) := by
  by_cases h : c ∈ S.cps.toList
  · rw [decide_eq_true h]
    exact Array.contains_iff_mem.mpr (Array.mem_toList_iff.mp h)
  · rw [decide_eq_false h]
    cases e : S.cps.contains c with
    | false => rfl
    | true => exact absurd (Array.mem_toList_iff.mpr (Array.contains_iff_mem.mp e)) h
theorem tw_all {p : Nat → Bool} : ∀ {l : List Nat}, l.all p = true → l.takeWhile p = l
  | [], _ => rfl
  | c :: l, h => by
    rw [List.all_cons, Bool.and_eq_true] at h
    rw [List.takeWhile_cons, if_pos h.1, tw_all h.2]
theorem tw_some {p : Nat → Bool} : ∀ {l : List Nat}, l.all p = false → ∃ c r, l.drop (l.takeWhile p).length = c :: r ∧ p c = false
  | [], h => by cases h
  | c :: l, h => by
    rw [List.takeWhile_cons]
    cases e : p c with
    | false => exact ⟨c, l, rfl, e⟩
    | true =>
      rw [if_pos rfl]
      rw [List.all_cons, e, Bool.true_and] at h
      exact tw_some h
theorem strip_set (S : Str) (z : List Nat) : decide (V.str (Txt.stripChars (sL z) S) = V.str (Str.ofString "")) = z.all fun c => decide (c ∈ S.cps.toList) := by
  have eg : S.cps.contains = fun c => decide (c ∈ S.cps.toList) := funext (goes_set S)
  have hne : ∀ y : Str, 0 < y.length → decide (V.str y = V.str (Str.ofString "")) = false := fun y hy => decide_eq_false fun h => by
    injection h with h
    rw [h] at hy
    exact absurd hy (by decide)
  show decide (V.str (if stripSame S.cps.contains true true (sL z) = true then sL z else stripped S.cps.contains true true (sL z)) = V.str (Str.ofString "")) = _
  rw [eg]
  cases ha : z.all fun c => decide (c ∈ S.cps.toList) with
  | true =>
    have e1 : stripLo (fun c => decide (c ∈ S.cps.toList)) true (sL z) = z.length := by
      show (z.takeWhile _).length = z.length
      rw [tw_all ha]
    have e2 : stripHi (fun c => decide (c ∈ S.cps.toList)) true (sL z) z.length = z.length := by
      show z.length - ((z.drop z.length).reverse.takeWhile _).length = z.length
      rw [List.drop_length]
      rfl
    cases z with
    | nil =>
      rw [if_pos (show stripSame (fun c => decide (c ∈ S.cps.toList)) true true (sL []) = true from rfl)]
      decide +kernel
    | cons b p =>
      have no : ¬ stripSame (fun c => decide (c ∈ S.cps.toList)) true true (sL (b :: p)) = true := by
        unfold stripSame
        rw [e1, e2]
        intro z
        rw [Bool.and_eq_true] at z
        have z1 : (b :: p).length = 0 := eq_of_beq z.1
        cases z1
      rw [if_neg no]
      unfold stripped
      rw [e1, e2]
      have e3 : (⟨(sL (b :: p)).cps.extract (b :: p).length (b :: p).length⟩ : Str) = Str.ofString "" := by
        show (⟨_⟩ : Str) = ⟨#[]⟩
        congr 1
        simp
        omega
      exact decide_eq_true (congrArg V.str e3)
  | false =>
    obtain ⟨c, r, h1, h2⟩ := tw_some ha
    have hl : (z.takeWhile fun c => decide (c ∈ S.cps.toList)).length < z.length := by
      have := congrArg List.length h1
      rw [List.length_drop, List.length_cons] at this
      omega
    have hz : 0 < (sL z).length := Nat.lt_of_le_of_lt (Nat.zero_le _) (show _ < z.length from hl)
    have e1 : stripLo (fun c => decide (c ∈ S.cps.toList)) true (sL z) = (z.takeWhile fun c => decide (c ∈ S.cps.toList)).length := rfl
    have e2 : (z.takeWhile fun c => decide (c ∈ S.cps.toList)).length < stripHi (fun c => decide (c ∈ S.cps.toList)) true (sL z) (z.takeWhile fun c => decide (c ∈ S.cps.toList)).length := by
      show _ < z.length - ((z.drop (z.takeWhile fun c => decide (c ∈ S.cps.toList)).length).reverse.takeWhile fun c => decide (c ∈ S.cps.toList)).length
      rw [h1, List.reverse_cons]
      have h3 : ((r.reverse ++ [c]).takeWhile fun c => decide (c ∈ S.cps.toList)).length ≤ r.length := by
        have key : ∀ l : List Nat, ((l ++ [c]).takeWhile fun c => decide (c ∈ S.cps.toList)).length ≤ l.length := fun l => by
          induction l with
          | nil =>
            show (([c] : List Nat).takeWhile _).length ≤ 0
            rw [List.takeWhile_cons, h2]
            exact Nat.zero_le _
          | cons x l ih =>
            rw [List.cons_append, List.takeWhile_cons]
            by_cases q : decide (x ∈ S.cps.toList) = true
            · rw [if_pos q, List.length_cons, List.length_cons]
              omega
            · rw [if_neg q]
              exact Nat.zero_le _
        have := key r.reverse
        rwa [List.length_reverse] at this
      have h4 := congrArg List.length h1
      rw [List.length_drop, List.length_cons] at h4
      omega
    by_cases q : stripSame (fun c => decide (c ∈ S.cps.toList)) true true (sL z) = true
    · rw [if_pos q]
      exact hne _ hz
    · rw [if_neg q]
      refine hne _ ?_
      unfold stripped
      rw [e1]
      show 0 < ((sL z).cps.extract _ _).size
      rw [Array.size_extract]
      have hhi : stripHi (fun c => decide (c ∈ S.cps.toList)) true (sL z) (z.takeWhile fun c => decide (c ∈ S.cps.toList)).length ≤ (sL z).cps.size := Nat.sub_le _ _
      omega
theorem strip_low (z : List Nat) : decide (V.str (Txt.stripChars (sL z) (Str.ofString "abcdefghijklmnopqrstuvwxyz")) = V.str (Str.ofString "")) = z.all fun c => decide (c ∈ LOW) := strip_set _ z
def S01 : List Nat := (Str.ofString "01").cps.toList
theorem okp_all (z : List Nat) : okp (sL z) = (decide (z.length ≤ 60) && z.all fun c => decide (c ∈ S01)) := by
  unfold okp
  rw [strip_set]
  rfl
/-- a label at a value -/
def lbV (z : List Nat) : V := .str (sL z)
def spIsLb : Sp := fun vs H Q _ => ∃ z : List Nat, vs = [nmV z] ∧ z.length ≤ 10000 ∧ Q (.bl (isLb z)) H
def spChkL (K : PySem.W.Frag) (A : EAd) : Sp := fun vs H Q E => ∃ (c : Addr) (cs : Cts) (z : List Nat), vs = [.ref c, nmV z] ∧ CtA K H c cs ∧ z.length ≤ 100 ∧ (chkL cs z = none → Q .non H) ∧ ∀ e, chkL cs z = some e → SEX A H E e
def spKnown (K : PySem.W.Frag) (A : EAd) : Sp := fun vs H Q E => ∃ (c : Addr) (cs : Cts) (z : List Nat), vs = [.ref c, nmV z] ∧ CtA K H c cs ∧ z.length ≤ 100 ∧ (lkC cs z = none → SEX A H E (.unk z)) ∧ ∀ t, lkC cs z = some t → ∀ v, TA K H v t → Q v H
def spMadeT (K : PySem.W.Frag) (A : EAd) : Sp := fun vs H Q E => ∃ (v : V) (t : Tree), vs = [v] ∧ TA K H v t ∧ t.dp ≤ 8 ∧ t.sz ≤ 500 ∧ (fitsT t = true → ∀ H', Same H H' → Q .non H') ∧ (fitsT t = false → SEX A H E (.big t.sz))
def WithR (K : PySem.W.Frag) (A : EAd) (H : Hp) (Q : VK) (E : XK) (r : Except SE Cts) : Prop := (∀ e, r = .error e → SEX A H E e) ∧ ∀ cs', r = .ok cs' → ∀ (c' : Addr) (H' : Hp), Same H H' → H c' = none → CtA K H' c' cs' → Q (.ref c') H'
theorem WithR.same {K : PySem.W.Frag} {A : EAd} {H H1 : Hp} {Q : VK} {E : XK} {r : Except SE Cts} (h : WithR K A H Q E r) (s : Same H H1) : WithR K A H1 Q E r :=
  ⟨fun e he => (h.1 e he).same s, fun cs' he c' H' k n f => h.2 cs' he c' H' (s.trans k) (s.free n) f⟩
def spWithN (K : PySem.W.Frag) (A : EAd) : Sp := fun vs H Q E => ∃ (c : Addr) (cs : Cts) (z : List Nat) (v : V) (t : Tree), vs = [.ref c, nmV z, v] ∧ CtA K H c cs ∧ cs.length ≤ 10000 ∧ TA K H v t ∧ WithR K A H Q E (withN cs z t)
/-- a term, or no term -/
def OtV (K : PySem.W.Frag) (H : Hp) (v : V) (ot : Option Tree) : Prop := ∃ d : PyData, NT K H v d ∧ ndD d ≤ 1000 ∧ ((okd d = false ∧ ot = none) ∨ ∃ t : Tree, d = t.d ∧ ot = some t ∧ t.sz ≤ 12 ∧ t.dp ≤ 6)
def spAAdd (K : PySem.W.Frag) (A : EAd) : Sp := fun vs H Q E => ∃ (c : Addr) (cs : Cts) (z : List Nat) (v : V) (ot : Option Tree), vs = [.ref c, nmV z, v] ∧ CtA K H c cs ∧ CtOk cs ∧ z.length ≤ 100 ∧ OtV K H v ot ∧ WithR K A H Q E (opAdd cs z ot)
def spACmb (K : PySem.W.Frag) (A : EAd) : Sp := fun vs H Q E => ∃ (c : Addr) (cs : Cts) (z l r : List Nat), vs = [.ref c, nmV z, nmV l, nmV r] ∧ CtA K H c cs ∧ CtOk cs ∧ z.length ≤ 100 ∧ l.length ≤ 100 ∧ r.length ≤ 100 ∧ WithR K A H Q E (opCmb cs z l r)
def spAExt (K : PySem.W.Frag) (A : EAd) : Sp := fun vs H Q E => ∃ (c : Addr) (cs : Cts) (z s : List Nat) (rt : Bool), vs = [.ref c, nmV z, nmV s, .bl rt] ∧ CtA K H c cs ∧ CtOk cs ∧ z.length ≤ 100 ∧ s.length ≤ 100 ∧ WithR K A H Q E (opExt cs z s rt)
/-- a path's text -/
def PthT (z : Str) (op : Option (List Bool)) : Prop := z.length ≤ 1000 ∧ ((op = none ∧ okp z = false) ∨ ∃ p, op = some p ∧ z = ptx p ∧ p.length ≤ 60)
def spARwr (K : PySem.W.Frag) (A : EAd) : Sp := fun vs H Q E => ∃ (c : Addr) (cs : Cts) (z : List Nat) (pt : Str) (op : Option (List Bool)) (con : Bool), vs = [.ref c, nmV z, .str pt, .bl con] ∧ CtA K H c cs ∧ CtOk cs ∧ z.length ≤ 100 ∧ PthT pt op ∧ WithR K A H Q E (opRwr cs z op con)
def spADel (K : PySem.W.Frag) (A : EAd) : Sp := fun vs H Q E => ∃ (c : Addr) (cs : Cts) (z : List Nat), vs = [.ref c, nmV z] ∧ CtA K H c cs ∧ CtOk cs ∧ z.length ≤ 100 ∧ WithR K A H Q E (opDel cs z)
/-! ### methods -/
structure StT (K : PySem.W.Frag) (mg : Str → Option Value) (C : Addr) : Prop where
  cl : Cls K C
  n0 : PySem.W.findIn K (.ref C) "contents" = some none
  n1 : PySem.W.findIn K (.ref C) "past" = some none
  n2 : PySem.W.findIn K (.ref C) "future" = some none
  mgC : mg "Store" = some (.ref C)
structure CstS (mg : Str → Option Value) : Prop where
  c12 : ∃ t, mg "MAX_LABELS" = some (.int 12 t)
  c8 : ∃ t, mg "MAX_LABEL" = some (.int 8 t)
  cl : ∃ t, mg "LABEL_LETTERS" = some (.str "abcdefghijklmnopqrstuvwxyz" t)
theorem Tree.rwt_sz2 {on : Bool} {t t' : Tree} {p : List Bool} (h : t.rwt on p = some t') : t'.sz ≤ 2 * t.sz := by
  refine rwt_ind (R := fun a b => b.sz ≤ 2 * a.sz) ?_ ?_ ?_ ?_ h
  · intro a b c
    show (a.sz + b.sz) + (a.sz + c.sz) ≤ 2 * (a.sz + (b.sz + c.sz))
    omega
  · intro a b c
    show a.sz + (b.sz + c.sz) ≤ 2 * ((a.sz + b.sz) + (a.sz + c.sz))
    omega
  · intro a a' b h
    show a'.sz + b.sz ≤ 2 * (a.sz + b.sz)
    omega
  · intro a b b' h
    show a.sz + b'.sz ≤ 2 * (a.sz + b.sz)
    omega
theorem val_at : ∀ {kvs : List (L2.Key × V)}, (kvs.map (·.1)).Nodup → ∀ {i : Nat} {k : L2.Key} {v : V}, kvs[i]? = some (k, v) → valV kvs k = some v
  | [], _, i, k, v, h => by simp at h
  | (k0, v0) :: r, hn, 0, k, v, h => by
    cases h
    exact valV_pos rfl
  | (k0, v0) :: r, hn, i + 1, k, v, h => by
    rw [List.map_cons, List.nodup_cons] at hn
    have h : r[i]? = some (k, v) := h
    have hm : k ∈ r.map (·.1) := List.mem_map.mpr ⟨_, List.mem_of_getElem? h, rfl⟩
    rw [valV_neg (fun e => hn.1 (by rw [show k0 = k from e]; exact hm))]
    exact val_at hn.2 h
theorem take_snocS {α : Type} {l : List α} {i : Nat} {x : α} (h : l[i]? = some x) : l.take (i + 1) = l.take i ++ [x] := by
  rw [List.take_add_one, h]
  rfl
theorem drop_skip {kvs : List (L2.Key × V)} {i : Nat} {k : L2.Key} {v : V} (h : kvs[i]? = some (k, v)) : dropK (kvs.take (i + 1)) k = dropK (kvs.take i) k := by
  unfold dropK
  rw [take_snocS h, List.filter_append, List.filter_cons, if_neg (by simp)]
  simp
theorem notin_take {kvs : List (L2.Key × V)} (hn : (kvs.map (·.1)).Nodup) {i : Nat} {k : L2.Key} {v : V} (h : kvs[i]? = some (k, v)) : k ∉ (kvs.take i).map (·.1) := by
  intro hm
  rw [← List.take_append_drop i kvs, List.map_append, List.nodup_append] at hn
  refine hn.2.2 k hm k ?_ rfl
  have : (kvs.drop i)[0]? = some (k, v) := by rw [List.getElem?_drop]; exact h
  exact List.mem_map.mpr ⟨_, List.mem_of_getElem? this, rfl⟩
theorem drop_step {kvs : List (L2.Key × V)} (hn : (kvs.map (·.1)).Nodup) {i : Nat} {k z : L2.Key} {v : V} (h : kvs[i]? = some (k, v)) (hk : ¬ k = z) : putK (dropK (kvs.take i) z) k v = dropK (kvs.take (i + 1)) z := by
  have h2 := notin_take hn h
  unfold putK
  rw [if_neg]
  · unfold dropK
    rw [take_snocS h, List.filter_append, List.filter_cons, if_pos (decide_eq_true hk)]
    rfl
  · intro e
    obtain ⟨x, hx, ex⟩ := List.any_eq_true.mp e
    refine h2 ?_
    rw [← of_decide_eq_true ex]
    exact List.mem_map.mpr ⟨x, (List.mem_filter.mp hx).1, rfl⟩
theorem put_step {kvs : List (L2.Key × V)} (hn : (kvs.map (·.1)).Nodup) {i : Nat} {k : L2.Key} {v : V} (h : kvs[i]? = some (k, v)) : putK (kvs.take i) k v = kvs.take (i + 1) := by
  have h2 := notin_take hn h
  unfold putK
  rw [if_neg]
  · rw [take_snocS h]
  · intro e
    obtain ⟨x, hx, ex⟩ := List.any_eq_true.mp e
    exact h2 (by rw [← of_decide_eq_true ex]; exact List.mem_map.mpr ⟨x, hx, rfl⟩)
theorem CtAll.nodup {K : PySem.W.Frag} {H : Hp} {kvs : List (L2.Key × V)} {cs : Cts} (h : CtAll K H kvs cs) (hn : (cs.map (·.1)).Nodup) : (kvs.map (·.1)).Nodup := by
  rw [h.keys]
  have e : (cs.map fun e => nmK e.1) = (cs.map (·.1)).map nmK := by rw [List.map_map]; rfl
  rw [e]
  exact List.Pairwise.map nmK (fun a b h z => h (nmK_inj z)) hn
theorem CtAll.keyAt {K : PySem.W.Frag} {H : Hp} {kvs : List (L2.Key × V)} {cs : Cts} (h : CtAll K H kvs cs) : ∀ {i : Nat} {k : L2.Key} {v : V}, kvs[i]? = some (k, v) → ∃ z t, k = nmK z ∧ cs[i]? = some (z, t) ∧ TA K H v t := by
  induction h with
  | nil => intro i k v e; simp at e
  | cons ht _ ih =>
    intro i k v e
    cases i with
    | zero => cases e; exact ⟨_, _, rfl, rfl, ht⟩
    | succ i => exact ih (i := i) e
theorem Tree.d_injS : ∀ {a b : Tree}, a.d = b.d → a = b
  | .L, .L, _ => rfl
  | .L, .N _ _, h => by
    have h : PyData.tuple [] = PyData.tuple [_, _] := h
    injection h with h
    cases h
  | .N _ _, .L, h => by
    have h : PyData.tuple [_, _] = PyData.tuple [] := h
    injection h with h
    cases h
  | .N a b, .N c d, h => by
    have h : PyData.tuple [a.d, b.d] = PyData.tuple [c.d, d.d] := h
    injection h with h
    injection h with h1 h2
    injection h2 with h2 _
    rw [d_injS h1, d_injS h2]
section OPN
open PySem PySem.Spec PyProof.Rows
/-! ### o.m(e, .., k = v, ..) -/
def tMethN (C : Addr) (m : Str) (n l : Nat) (sp : Sp) (gV : List V → List V → List V) (E : XK) (ta : TE) (t tk : L2.TA) : TE := fun σ H Q => ta σ H fun x H1 => ∃ (a dx : Addr) (fs : List (Str × V)), x = .ref a ∧ H1 a = some (.ins C dx fs) ∧ fs.lookup m = none ∧ t σ H1 fun vs H2 => tk σ H2 fun zs H3 => (V.ref a :: vs).length = n ∧ zs.length = l ∧ sp (gV (.ref a :: vs) zs) H3 Q E
theorem pe_methN {X : Cx} {CX : CXT} {k n : Nat} {f C : Addr} {fd : FuncData} {ps ks : List Str} {sp : Sp} {E : XK} {m : Str} {apos pos : Pos} {o e : Expr} {es : List Expr} {kws : List Keyword} {ta : TE} {t tk : L2.TA} {g : List Value → List Value → List Value} {gV : List V → List V → List V} {pl : Sem Bool}
    (he : PE X o ta) (c : Cls X.K C) (hm : Meth X.K C m f) (F : FnOk X.prog X.w X.K X.mg X.base CX k f fd ps sp) (hr : Room k X.A) (hb : KBn X.K fd ps n ks g gV) (hx : Passes CX X E) (ha : PA X (e :: es) t) (hkw : PK X kws tk)
    (hall : (backToKw pos (keywordEach kws X.env)).all (·.1.isSome) = true := by rfl) (hks : (backToKw pos (keywordEach kws X.env)).filterMap (·.1) = ks := by rfl) (hst : starEach (e :: es) X.env = (false, eval e X.env) :: starEach es X.env := by rfl)
    (hpl : ((backTo pos (starEach (e :: es) X.env)).any (·.1) || (backToKw pos (keywordEach kws X.env)).any (·.1.isNone)) = false := by rfl)
    (ht : eval (.Call (.Attribute o m apos) (e :: es) kws pos) X.env = (do
      let ov ← eval o X.env
      standAt apos.atName
      let (f, first) ← holding [ov] (getMethod ov m pl)
      callWith pos f first (backTo pos (starEach (e :: es) X.env)) (backToKw pos (keywordEach kws X.env))) := by rfl) :
    PE X (.Call (.Attribute o m apos) (e :: es) kws pos) (tMethN C m n ks.length sp gV E ta t tk) := by
  refine ⟨fun pins s σ H Q I h => ?_⟩
  refine PySem.W.methodCall_KW (pl := pl) (thn (he.run pins s σ H _ I h) fun u s1 ⟨x, H1, I1, rx, a, dx, fs, ex, ea, l, q⟩ => ?_) ht
  subst ex
  obtain rfl : u = Value.ref a := rx
  refine getmeth_ok I1 ea c hm l ?_
  refine PySem.W.callWith_KW (first := [.ref a]) (h₀ := X.base) I.ok.mod.kin hm.kp hall (thn (ha.run pos pins s1 σ H1 _ I1 q) fun us s2 ⟨vs, H2, I2, r, q2⟩ => ?_) hpl hst
  refine thn (hkw.run pos pins s2 σ H2 _ I2 q2) fun ws s3 ⟨zs, H3, I3, rz, l1, l2, q3⟩ => ⟨I3.kIn, ?_⟩
  rw [hks]
  exact run_fnN (us := .ref a :: us) (vs := .ref a :: vs) F hr hb hx I3 (.cons rfl r) rz l1 l2 q3
end OPN
section OPN
open PySem PySem.Spec PyProof.Rows
theorem pe_methN0 {X : Cx} {CX : CXT} {k n : Nat} {f C : Addr} {fd : FuncData} {ps ks : List Str} {sp : Sp} {E : XK} {m : Str} {apos pos : Pos} {o : Expr} {kws : List Keyword} {ta : TE} {tk : L2.TA} {g : List Value → List Value → List Value} {gV : List V → List V → List V} {pl : Sem Bool}
    (he : PE X o ta) (c : Cls X.K C) (hm : Meth X.K C m f) (F : FnOk X.prog X.w X.K X.mg X.base CX k f fd ps sp) (hr : Room k X.A) (hb : KBn X.K fd ps n ks g gV) (hx : Passes CX X E) (hkw : PK X kws tk)
    (hall : (backToKw pos (keywordEach kws X.env)).all (·.1.isSome) = true := by rfl) (hks : (backToKw pos (keywordEach kws X.env)).filterMap (·.1) = ks := by rfl)
    (hpl : ((backTo pos (starEach [] X.env)).any (·.1) || (backToKw pos (keywordEach kws X.env)).any (·.1.isNone)) = false := by rfl)
    (ht : eval (.Call (.Attribute o m apos) [] kws pos) X.env = (do
      let ov ← eval o X.env
      standAt apos.atName
      let (f, first) ← holding [ov] (getMethod ov m pl)
      callWith pos f first (backTo pos (starEach [] X.env)) (backToKw pos (keywordEach kws X.env))) := by rfl) :
    PE X (.Call (.Attribute o m apos) [] kws pos) (tMethN C m n ks.length sp gV E ta tNil tk) := by
  refine ⟨fun pins s σ H Q I h => ?_⟩
  refine PySem.W.methodCall_KW (pl := pl) (thn (he.run pins s σ H _ I h) fun u s1 ⟨x, H1, I1, rx, a, dx, fs, ex, ea, l, q⟩ => ?_) ht
  subst ex
  obtain rfl : u = Value.ref a := rx
  refine getmeth_ok I1 ea c hm l ?_
  refine PySem.W.callWith_KW0 (first := [.ref a]) (h₀ := X.base) I.ok.mod.kin hm.kp hall ?_ hpl
  refine thn (hkw.run pos pins s1 σ H1 _ I1 q) fun ws s3 ⟨zs, H3, I3, rz, l1, l2, q3⟩ => ⟨I3.kIn, ?_⟩
  rw [hks]
  exact run_fnN (us := [.ref a]) (vs := [.ref a]) F hr hb hx I3 (.cons rfl .nil) rz l1 l2 q3
end OPN
/-! ### stores: the methods' promises -/
structure Mt (K : PySem.W.Frag) (C : Addr) (nm qual : Str) (st : Stmt) (ps : List Str) (f : Addr) (fd : FuncData) : Prop where
  F : Fun K nm qual st f fd
  b : Binds K fd ps []
  m : Meth K C nm f
theorem stf_ne1 : ¬ (("contents" : Str) = "past") := by decide +kernel
theorem stf_ne2 : ¬ (("contents" : Str) = "future") := by decide +kernel
theorem stf_ne3 : ¬ (("past" : Str) = "future") := by decide +kernel
theorem lk_hd (a : Str) (v : V) (r : List (Str × V)) : ((a, v) :: r).lookup a = some v := by
  rw [List.lookup_cons, beq_self_eq_true]
theorem lk_tl {a b : Str} (v : V) (r : List (Str × V)) (h : ¬ a = b) : ((b, v) :: r).lookup a = r.lookup a := by
  rw [List.lookup_cons, beq_false_of_ne h]
theorem stf_c (c p f : Addr) : (stf c p f).lookup ("contents" : Str) = some (.ref c) := lk_hd _ _ _
theorem stf_p (c p f : Addr) : (stf c p f).lookup ("past" : Str) = some (.ref p) := by
  unfold stf
  rw [lk_tl _ _ (fun z => stf_ne1 z.symm)]
  exact lk_hd _ _ _
theorem stf_f (c p f : Addr) : (stf c p f).lookup ("future" : Str) = some (.ref f) := by
  unfold stf
  rw [lk_tl _ _ (fun z => stf_ne2 z.symm), lk_tl _ _ (fun z => stf_ne3 z.symm)]
  exact lk_hd _ _ _
theorem stf_no (c p f : Addr) {m : Str} (h1 : ¬ m = "contents") (h2 : ¬ m = "past") (h3 : ¬ m = "future") : (stf c p f).lookup m = none := by
  unfold stf
  rw [lk_tl _ _ h1, lk_tl _ _ h2, lk_tl _ _ h3]
  rfl
theorem pf_hd (a : Str) (v w : V) (r : List (Str × V)) : putF a v ((a, w) :: r) = (a, v) :: r := if_pos rfl
theorem pf_tl {a b : Str} (v w : V) (r : List (Str × V)) (h : ¬ b = a) : putF a v ((b, w) :: r) = (b, w) :: putF a v r := if_neg h
theorem stf_putc (c p f c' : Addr) : putF "contents" (.ref c') (stf c p f) = stf c' p f := pf_hd _ _ _ _
theorem stf_putf (c p f f' : Addr) : putF "future" (.ref f') (stf c p f) = stf c p f' := by
  unfold stf
  rw [pf_tl _ _ _ stf_ne2, pf_tl _ _ _ stf_ne3, pf_hd]
theorem stf_new (c p f : Addr) : putF "future" (.ref f) (putF "past" (.ref p) (putF "contents" (.ref c) [])) = stf c p f := by
  have e1 : putF "contents" (.ref c) ([] : List (Str × V)) = [(("contents" : Str), V.ref c)] := rfl
  rw [e1, pf_tl _ _ _ stf_ne1]
  have e2 : putF "past" (.ref p) ([] : List (Str × V)) = [(("past" : Str), V.ref p)] := rfl
  rw [e2, pf_tl _ _ _ stf_ne2, pf_tl _ _ _ stf_ne3]
  rfl
def spSInit (K : PySem.W.Frag) (C : Addr) : Sp := fun vs H Q _ => ∃ (x dx : Addr), vs = [.ref x] ∧ H x = some (.ins C dx []) ∧ ∀ (p f : Addr) (H' : Hp), H p = none → H f = none → StA K C ⟨x, p, f⟩ ⟨[], [], []⟩ H' → But x H H' → Q .non H'
def spSLen (K : PySem.W.Frag) (C : Addr) : Sp := fun vs H Q _ => ∃ (a : SAd) (S : Sto), vs = [.ref a.x] ∧ StA K C a S H ∧ Q (.int (S.cur.length : Nat)) H
def spSRec (K : PySem.W.Frag) (C : Addr) : Sp := fun vs H Q _ => ∃ (a : SAd) (S : Sto) (c : Addr) (cs : Cts), vs = [.ref a.x, .ref c] ∧ StA K C a S H ∧ CtA K H c cs ∧ S.past.length ≤ 10000 ∧ ∀ (f' : Addr) (H' : Hp), H f' = none → StA K C ⟨a.x, a.p, f'⟩ ⟨cs, S.past ++ [S.cur], []⟩ H' → FrS a H H' → Q .non H'
/-- what a method leaves that records -/
def MthR (K : PySem.W.Frag) (C : Addr) (A : EAd) (a : SAd) (S : Sto) (H : Hp) (Q : VK) (E : XK) (r : Except SE Cts) : Prop := (∀ e, r = .error e → SEX A H E e) ∧ ∀ cs', r = .ok cs' → ∀ (f' : Addr) (H' : Hp), H f' = none → StA K C ⟨a.x, a.p, f'⟩ ⟨cs', S.past ++ [S.cur], []⟩ H' → FrS a H H' → Q .non H'
def StH (K : PySem.W.Frag) (C : Addr) (a : SAd) (S : Sto) (H : Hp) : Prop := StA K C a S H ∧ CtOk S.cur ∧ S.past.length ≤ 10000
def spSAdd (K : PySem.W.Frag) (C : Addr) (A : EAd) : Sp := fun vs H Q E => ∃ (a : SAd) (S : Sto) (z : List Nat) (v : V) (ot : Option Tree), vs = [.ref a.x, nmV z, v] ∧ StH K C a S H ∧ z.length ≤ 100 ∧ OtV K H v ot ∧ MthR K C A a S H Q E (opAdd S.cur z ot)
def spSCmb (K : PySem.W.Frag) (C : Addr) (A : EAd) : Sp := fun vs H Q E => ∃ (a : SAd) (S : Sto) (z l r : List Nat), vs = [.ref a.x, nmV z, nmV l, nmV r] ∧ StH K C a S H ∧ z.length ≤ 100 ∧ l.length ≤ 100 ∧ r.length ≤ 100 ∧ MthR K C A a S H Q E (opCmb S.cur z l r)
def spSExt (K : PySem.W.Frag) (C : Addr) (A : EAd) : Sp := fun vs H Q E => ∃ (a : SAd) (S : Sto) (z s : List Nat) (rt : Bool), vs = [.ref a.x, nmV z, nmV s, .bl rt] ∧ StH K C a S H ∧ z.length ≤ 100 ∧ s.length ≤ 100 ∧ MthR K C A a S H Q E (opExt S.cur z s rt)
def spSRwr (K : PySem.W.Frag) (C : Addr) (A : EAd) : Sp := fun vs H Q E => ∃ (a : SAd) (S : Sto) (z : List Nat) (pt : Str) (op : Option (List Bool)) (con : Bool), vs = [.ref a.x, nmV z, .str pt, .bl con] ∧ StH K C a S H ∧ z.length ≤ 100 ∧ PthT pt op ∧ MthR K C A a S H Q E (opRwr S.cur z op con)
def spSDel (K : PySem.W.Frag) (C : Addr) (A : EAd) : Sp := fun vs H Q E => ∃ (a : SAd) (S : Sto) (z : List Nat), vs = [.ref a.x, nmV z] ∧ StH K C a S H ∧ z.length ≤ 100 ∧ (lkC S.cur z = none → SEX A H E (.unk z)) ∧ ∀ t, lkC S.cur z = some t → ∀ (v : V) (f' : Addr) (H' : Hp), TA K H' v t → H f' = none → StA K C ⟨a.x, a.p, f'⟩ ⟨dropC S.cur z, S.past ++ [S.cur], []⟩ H' → FrS a H H' → Q v H'
def spSHist (K : PySem.W.Frag) (C : Addr) : Sp := fun vs H Q _ => ∃ (a : SAd) (S : Sto), vs = [.ref a.x] ∧ StA K C a S H ∧ ∀ p, H p = none → Q (.ref p) (upd H p (.tup [.int (S.past.length : Nat), .int (S.fut.length : Nat)]))
def spSTerm (K : PySem.W.Frag) (C : Addr) (A : EAd) : Sp := fun vs H Q E => ∃ (a : SAd) (S : Sto) (z : List Nat), vs = [.ref a.x, nmV z] ∧ StA K C a S H ∧ z.length ≤ 100 ∧ (lkC S.cur z = none → SEX A H E (.unk z)) ∧ ∀ t, lkC S.cur z = some t → ∀ v, TA K H v t → Q v H
/-- sorted labels -/
def SrtL (ls ks : List (List Nat)) : Prop := ls.Perm ks ∧ PyProof.Rows.sortedS (ls.map sL) = true
theorem SrtL.uniq {ls ms ks : List (List Nat)} (h1 : SrtL ls ks) (h2 : SrtL ms ks) : ls = ms := by
  have e := sorted_eqS ((h1.1.trans h2.1.symm).map sL) (sorted_pw _ h1.2) (sorted_pw _ h2.2)
  have inj : ∀ {a b : List (List Nat)}, a.map sL = b.map sL → a = b := fun {a b} h => by
    induction a generalizing b with
    | nil =>
      cases b with
      | nil => rfl
      | cons y b => cases h
    | cons x a ih =>
      cases b with
      | nil => cases h
      | cons y b =>
        rw [List.map_cons, List.map_cons] at h
        injection h with h1 h2
        rw [sL_inj h1, ih h2]
  exact inj e
def spSLabs (K : PySem.W.Frag) (C : Addr) : Sp := fun vs H Q _ => ∃ (a : SAd) (S : Sto), vs = [.ref a.x] ∧ StA K C a S H ∧ S.cur.length ≤ 12 ∧ ∀ (ls : List (List Nat)) (p : Addr), SrtL ls (S.cur.map (·.1)) → H p = none → Q (.ref p) (upd H p (.lst (ls.map nmV)))
theorem map_sL_of {ys : List Str} {ks : List (List Nat)} (h : ys.Perm (ks.map sL)) : ∃ ls : List (List Nat), ys = ls.map sL ∧ ls.Perm ks := by
  refine ⟨ys.map fun z => z.cps.toList, ?_, ?_⟩
  · rw [List.map_map]
    have e : (sL ∘ fun z : Str => z.cps.toList) = id := funext fun z => sL_eta z
    rw [e, List.map_id]
  · have h2 := h.map fun z : Str => z.cps.toList
    rw [List.map_map] at h2
    have e : ((fun z : Str => z.cps.toList) ∘ sL) = id := funext fun z => sL_cps z
    rwa [e, List.map_id] at h2
def sgV (c : Nat) : V := .str (sL [c])
section OPLS
open PySem PySem.Spec PyProof.Rows
/-! ### list(text): a list of its signs -/
theorem call_list_sg {X : Cx} (hc : X.calm = true) : CallR X (.type "list") (fun xs H Q => ∃ cs : List Nat, xs = [.str (sL cs)] ∧ cs.length ≤ 10000 ∧ ∀ l, H l = none → Q (.ref l) (upd H l (.lst (cs.map sgV)))) := by
  intro pins s σ H xs us Q I r h
  obtain ⟨cs, rfl, hz, q⟩ := h
  obtain ⟨u, rfl, t, rfl⟩ := vals1 r
  refine PySem.call_list_str (I.ok.hd hc) (sL cs) t (fun h' tk acc' c' kp e it => ?_) (Nat.le_trans (show cs.length ≤ 10000 from hz) (by decide))
  have hv : Vals (cs.map sgV) acc'.toList := vals_of_at (by rw [List.length_map, Array.length_toList]; exact (show cs.length = (sL cs).cps.size from rfl).trans it.1.symm) fun j x v h1 h2 => by
    obtain ⟨c, w, h3, rfl⟩ := it.2 j v (by rw [← Array.getElem?_toList]; exact h2)
    rw [List.getElem?_map] at h1
    obtain ⟨c2, h4, rfl⟩ := Option.map_eq_some_iff.mp h1
    have h5 : (sL cs).cps.toList[j]? = some c := by rw [Array.getElem?_toList]; exact h3
    have h6 : cs[j]? = some c := h5
    rw [h4] at h6
    cases h6
    exact ⟨_, rfl⟩
  refine ⟨.ref s.heap.objs.size, upd H s.heap.objs.size (.lst (cs.map sgV)), I.laid (t' := tk) kp (Nat.le_refl _) (show ObjOk X.prog X.w _ h' _ (.lst (cs.map sgV)) from ⟨?_, acc'.toList, c', hv, ?_⟩), rfl, q _ (I.hok.fresh (Nat.le_refl _))⟩
  · rw [List.length_map]
    exact Nat.le_trans hz (by decide)
  · rw [Array.toArray_toList]
    exact e
end OPLS
/-! ### stores: the law's side -/
theorem join_sg : ∀ hs : List Nat, Txt.join (Str.ofString "") (hs.map fun x => sL [x]) = sL hs := by
  have hS : Str.ofString "" = sL [] := by decide +kernel
  have hJ : ∀ (x : Nat) (hs : List Nat), Str.join (Str.ofString "") ((x :: hs).map fun x => sL [x]) = sL (x :: hs) := by
    intro x hs
    induction hs generalizing x with
    | nil => rfl
    | cons y hs ih =>
      show sL [x] ++ Str.ofString "" ++ Str.join (Str.ofString "") ((y :: hs).map fun x => sL [x]) = sL (x :: y :: hs)
      rw [ih y, hS, sL_app, sL_app]
      rfl
  intro hs
  rw [TL.join_eq]
  cases hs with
  | nil => decide +kernel
  | cons x hs => exact hJ x hs
/-- a label of the law's pool begins or ends with one of a to n -/
def LbN (z : List Nat) : Prop := ∃ (x : Nat) (hs : List Nat), x ≤ 110 ∧ (z = hs ++ [x] ∨ z = x :: hs)
def spLabs (K : PySem.W.Frag) : Sp := fun vs H Q _ => ∃ (r c : Addr), vs = [.ref r] ∧ RngC H r c ∧ ∀ (l : Addr) (ls : List (List Nat)) (H' : Hp), ls.length = 14 → (∀ z ∈ ls, isLb z = true) → (∀ z ∈ ls, LbN z) → H l = none → H' l = some (.lst (ls.map nmV)) → RngC H' r c → But r H H' → Q (.ref l) H'
def spLIsL : Sp := fun vs H Q _ => ∃ z : List Nat, vs = [nmV z] ∧ z.length ≤ 100 ∧ ∀ H', Same H H' → Q (.bl (isLb z)) H'
def cmdW : Cmd → Str
  | .add _ _ => "add"
  | .combine _ _ _ => "combine"
  | .extract _ _ _ => "extract"
  | .rewrite _ _ _ => "rewrite"
  | .delete _ => "delete"
/-- a command as it stands at a tuple -/
def CmdT (K : PySem.W.Frag) (H : Hp) (q : Addr) : Cmd → Prop
  | .add z ot => ∃ v, SqT K H q [.str "add", nmV z, v] ∧ OtV K H v ot
  | .combine z l r => SqT K H q [.str "combine", nmV z, nmV l, nmV r]
  | .extract z s rt => SqT K H q [.str "extract", nmV z, nmV s, .bl rt]
  | .rewrite z op con => ∃ pt, SqT K H q [.str "rewrite", nmV z, .str pt, .bl con] ∧ PthT pt op
  | .delete z => SqT K H q [.str "delete", nmV z]
/-- the commands that are asked with valid terms -/
def CmdF : Cmd → Prop
  | .add z ot => z.length ≤ 100 ∧ ∃ t, ot = some t ∧ t.sz ≤ 12 ∧ t.dp ≤ 6
  | .combine z l r => z.length ≤ 100 ∧ l.length ≤ 100 ∧ r.length ≤ 100
  | .extract z s _ => z.length ≤ 100 ∧ s.length ≤ 100
  | .rewrite z _ _ => z.length ≤ 100
  | .delete z => z.length ≤ 100
theorem CmdT.tp {K : PySem.W.Frag} {H H' : Hp} {q : Addr} {c : Cmd} (e : Tp H H') (hf : CmdF c) (h : CmdT K H q c) : CmdT K H' q c := by
  cases c with
  | add z ot =>
    obtain ⟨_, t, rfl, h3, h4⟩ := hf
    obtain ⟨v, h1, d, hN, hn, hO⟩ := h
    rcases hO with ⟨_, h⟩ | ⟨t', rfl, h, a, b⟩
    · cases h
    · cases h
      exact ⟨v, e.sqT h1, _, NT.tp e hN, hn, .inr ⟨t, rfl, rfl, a, b⟩⟩
  | combine z l r => exact e.sqT h
  | extract z s rt => exact e.sqT h
  | rewrite z op con =>
    obtain ⟨pt, h1, h2⟩ := h
    exact ⟨pt, e.sqT h1, h2⟩
  | delete z => exact e.sqT h
theorem CmdF.fit {c : Cmd} (h : CmdF c) : ∀ z t, c = .add z (some t) → t.sz ≤ 12 ∧ t.dp ≤ 6 := by
  intro z t e
  subst e
  obtain ⟨_, t', e2, h1, h2⟩ := h
  cases e2
  exact ⟨h1, h2⟩
/-! ### words of what becomes of a command -/
def seW : SE → Str
  | .lab => en 13
  | .dup _ => en 14
  | .unk _ => en 15
  | .term => en 0
  | .path => en 2
  | .pnf => en 3
  | .nrw => en 4
  | .big _ => en 5
  | .lim => en 16
  | .empty => en 18
  | .cmd _ => en 17
def seV : SE → V
  | .dup z => nmV z
  | .unk z => nmV z
  | .big n => .int (n : Int)
  | .cmd i => .int (i : Int)
  | _ => .non
def seF : SE → PyData
  | .dup z => .str (sL z)
  | .unk z => .str (sL z)
  | .big n => .int (n : Int)
  | .cmd i => .int (i : Int)
  | _ => .none
theorem se_dp {K : PySem.W.Frag} {H : Hp} (e : SE) : Dp K H (seV e) (seF e) := by
  cases e <;> first | exact .non | exact .str _ | exact .int _
/-- the value of a command that succeeds -/
def cmR (cs : Cts) : Cmd → PyData
  | .delete z => match lkC cs z with
    | some t => t.d
    | none => .none
  | _ => .none
def outR (cs : Cts) (c : Cmd) : PyData := match appC cs c with
  | .error e => .tuple [.str (seW e), seF e]
  | .ok _ => .tuple [.str "value", cmR cs c]
/-- a store after a command -/
def nxC (cs : Cts) (c : Cmd) : Cts := match appC cs c with
  | .error _ => cs
  | .ok cs' => cs'
def okC (cs : Cts) (c : Cmd) : Bool := match appC cs c with
  | .error _ => false
  | .ok _ => true
theorem nxC_ok {cs : Cts} {c : Cmd} (h : CtOk cs) (hf : CmdF c) : CtOk (nxC cs c) := by
  unfold nxC
  cases e : appC cs c with
  | error _ => exact h
  | ok cs' => exact app_ok h hf.fit e
def seNm : SE → Prop
  | .dup z => Asc z
  | .unk z => Asc z
  | _ => True
theorem pair_shaped {w : Str} {d : PyData} (hw : PyData.canLay0 (.str w) = true) (hd : d.canLay0 = true) (hl : d.depth ≤ 60) : SeqAt.shaped (.tuple [.str w, d]) = true := by
  have e1 : (PyData.tuple [.str w, d]).canLay0 = (PyData.canLay0 (.str w) && (d.canLay0 && true)) := rfl
  have e2 : (PyData.tuple [.str w, d]).depth = max (PyData.depth (.str w)) (max d.depth 0) + 1 := rfl
  have e3 : PyData.depth (.str w) ≤ 1 := by first | exact Nat.le_refl _ | exact Nat.zero_le _
  unfold SeqAt.shaped
  rw [e1, hw, hd, decide_eq_true (by omega)]
  rfl
theorem se_lay {e : SE} (h : seNm e) : (seF e).canLay0 = true := by
  cases e with
  | dup z => exact asc_ok h
  | unk z => exact asc_ok h
  | big n => rfl
  | cmd n => rfl
  | _ => rfl
theorem en_lay : ∀ j, j < 20 → PyData.canLay0 (.str (en j)) = true := by decide +kernel
theorem seW_lay (e : SE) : PyData.canLay0 (.str (seW e)) = true := by
  cases e <;> exact en_lay _ (by decide)
theorem se_depth (e : SE) : (seF e).depth ≤ 1 := by
  cases e <;> first | exact Nat.le_refl _ | exact Nat.zero_le _
theorem val_lay : PyData.canLay0 (.str ("value" : Str)) = true := by decide +kernel
theorem tree_wideS : ∀ t : Tree, wide t.d = true
  | .L => rfl
  | .N l r => by
    show (decide (2 ≤ 1000) && (wide l.d && (wide r.d && true))) = true
    rw [tree_wideS l, tree_wideS r]
    decide
/-- the names in a command are ascii -/
def CmdN : Cmd → Prop
  | .add z _ => Asc z
  | .combine z l r => Asc z ∧ Asc l ∧ Asc r
  | .extract z s _ => Asc z ∧ Asc s
  | .rewrite z _ _ => Asc z
  | .delete z => Asc z
theorem withN_nm {cs : Cts} {z : List Nat} {t : Tree} {e : SE} (h : withN cs z t = .error e) : seNm e := by
  unfold withN at h
  by_cases c : 12 ≤ cs.length
  · rw [if_pos c] at h
    cases h
    trivial
  · rw [if_neg c] at h
    cases h
theorem chkL_nm {cs : Cts} {z : List Nat} {e : SE} (hz : Asc z) (h : chkL cs z = some e) : seNm e := by
  unfold chkL at h
  by_cases c : isLb z = false
  · rw [if_pos c] at h
    cases h
    trivial
  · rw [if_neg c] at h
    by_cases c2 : hasC cs z = true
    · rw [if_pos c2] at h
      cases h
      exact hz
    · rw [if_neg c2] at h
      cases h
theorem app_nm {cs : Cts} {c : Cmd} {e : SE} (hn : CmdN c) (h : appC cs c = .error e) : seNm e := by
  cases c with
  | add z ot =>
    have h : opAdd cs z ot = .error e := h
    unfold opAdd at h
    split at h
    · rename_i hc
      cases h
      exact chkL_nm hn hc
    · cases ot with
      | none => cases h; trivial
      | some t => exact withN_nm h
  | combine z l r =>
    have h : opCmb cs z l r = .error e := h
    unfold opCmb at h
    split at h
    · rename_i hc
      cases h
      exact chkL_nm hn.1 hc
    · split at h
      · cases h
        exact hn.2.1
      · split at h
        · cases h
          exact hn.2.2
        · split at h
          · exact withN_nm h
          · cases h
            trivial
  | extract z s rt =>
    have h : opExt cs z s rt = .error e := h
    unfold opExt at h
    split at h
    · rename_i hc
      cases h
      exact chkL_nm hn.1 hc
    · split at h
      · cases h
        exact hn.2
      · cases h
        trivial
      · exact withN_nm h
  | rewrite z p con =>
    have h : opRwr cs z p con = .error e := h
    unfold opRwr at h
    split at h
    · cases h
      exact hn
    · split at h
      · cases h; trivial
      · split at h
        · cases h; trivial
        · split at h
          · cases h; trivial
          · split at h
            · cases h; trivial
            · split at h
              · cases h
              · cases h; trivial
  | delete z =>
    have h : opDel cs z = .error e := h
    unfold opDel at h
    split at h
    · cases h
      exact hn
    · cases h
theorem cmR_ok {cs : Cts} (h : CtOk cs) (c : Cmd) : (cmR cs c).canLay0 = true ∧ (cmR cs c).depth ≤ 7 := by
  cases c with
  | delete z =>
    show (match lkC cs z with | some t => t.d | none => .none : PyData).canLay0 = true ∧ (match lkC cs z with | some t => t.d | none => .none : PyData).depth ≤ 7
    cases e : lkC cs z with
    | none => exact ⟨rfl, Nat.zero_le _⟩
    | some t =>
      have h1 := h.fit _ (lk_mem e)
      have h2 : t.dp ≤ 6 := h1.2
      exact ⟨Tree.d_lay t, by rw [Tree.d_depth]; omega⟩
  | _ => exact ⟨rfl, Nat.zero_le _⟩
theorem outR_ok {cs : Cts} {c : Cmd} (h : CtOk cs) (hn : CmdN c) : SeqAt.shaped (outR cs c) = true ∧ (outR cs c).depth < 14 ∧ wide (outR cs c) = true := by
  unfold outR
  cases e : appC cs c with
  | error er =>
    have e3 : PyData.depth (.str (seW er)) ≤ 1 := by first | exact Nat.le_refl _ | exact Nat.zero_le _
    have e4 := se_depth er
    refine ⟨pair_shaped (seW_lay er) (se_lay (app_nm hn e)) (by omega), ?_, ?_⟩
    · show max (PyData.depth (.str (seW er))) (max (seF er).depth 0) + 1 < 14
      omega
    · cases er <;> rfl
  | ok cs' =>
    have e3 : PyData.depth (.str ("value" : Str)) ≤ 1 := by first | exact Nat.le_refl _ | exact Nat.zero_le _
    have e4 := cmR_ok h c
    refine ⟨pair_shaped val_lay e4.1 (by omega), ?_, ?_⟩
    · show max (PyData.depth (.str ("value" : Str))) (max (cmR cs c).depth 0) + 1 < 14
      omega
    · show (true && (true && (wide (cmR cs c) && true))) = true
      have : wide (cmR cs c) = true := by
        cases c with
        | delete z =>
          show wide (match lkC cs z with | some t => t.d | none => .none : PyData) = true
          cases lkC cs z with
          | none => rfl
          | some t => exact tree_wideS t
        | _ => rfl
      rw [this]
      rfl
def spFitsX (K : PySem.W.Frag) : Sp := fun vs H Q _ => ∃ (v : V) (t : Tree) (top : Int), vs = [v, .int top] ∧ TA K H v t ∧ t.dp < 40 ∧ ∀ H', Same H H' → Q (.bl (decide ((t.sz : Int) ≤ top) && decide (t.dp < 7))) H'
/-! ### stores: the law's defs, promises -/
section OPAE
open PySem PySem.Spec PyProof.Rows
def iAnyE (K : PySem.W.Frag) (te : TE) : TI := fun σ H R => te σ H fun x H1 => ∃ a, x = .ref a ∧ ((∃ xs, SqL K H1 a xs ∧ R (Itl K a) H1) ∨ ∃ xs, SqT K H1 a xs ∧ R (Itt K a) H1)
theorem pi_anyE {X : Cx} {tg l : Expr} {te : TE} (hl : PE X l te) : PI X tg l (iAnyE X.K te) := by
  refine ⟨fun pins s σ H R I h => ?_⟩
  refine thn (hl.run pins s σ H _ I h) fun v s1 ⟨x, H1, I1, r1, q1⟩ => ?_
  obtain ⟨a, e, q1⟩ := q1
  subst e
  cases r1
  rcases q1 with ⟨xs, hq, q⟩ | ⟨xs, hq, q⟩
  · obtain ⟨its, rv, p, hz⟩ := I1.list hq
    refine wpAny_pyIter_list p.isList ?_
    refine ⟨s1.heap.objs.size, [s1.heap.objs.size], _, _, H1, rfl, I1.kept (t' := s1.toks) fun b o e => Heap.get?_push_of_some _ e, turn_list a _, ⟨_, Heap.get?_push_size _ rfl, rfl, rfl⟩, fun b hb => ?_, q⟩
    have e : b = s1.heap.objs.size := by simpa using hb
    subst e
    exact I1.fpOk (Nat.le_refl _) (I1.hok.fresh (Nat.le_refl _))
  · obtain ⟨its, rv, p, hz⟩ := I1.tuple hq
    refine wpAny_pyIter_tuple (show s1.heap.IsTuple a its.toArray from p) ?_
    refine ⟨s1.heap.objs.size, [s1.heap.objs.size], _, _, H1, rfl, I1.kept (t' := s1.toks) fun b o e => Heap.get?_push_of_some _ e, turn_tuple a _, ⟨_, Heap.get?_push_size _ rfl, rfl, rfl⟩, fun b hb => ?_, q⟩
    have e : b = s1.heap.objs.size := by simpa using hb
    subst e
    exact I1.fpOk (Nat.le_refl _) (I1.hok.fresh (Nat.le_refl _))
end OPAE
def RunV (K : PySem.W.Frag) (H : Hp) (cs : Cts) (c : Cmd) (v : V) : Prop := match c with
  | .delete z => ∃ t, lkC cs z = some t ∧ TA K H v t
  | _ => v = .non
def spRun (K : PySem.W.Frag) (C : Addr) (A : EAd) : Sp := fun vs H Q E => ∃ (a : SAd) (S : Sto) (q : Addr) (c : Cmd), vs = [.ref a.x, .ref q] ∧ StH K C a S H ∧ CmdT K H q c ∧ CmdF c ∧ (∀ e, appC S.cur c = .error e → SEX A H E e) ∧
  ∀ cs', appC S.cur c = .ok cs' → ∀ (v : V) (f' : Addr) (H' : Hp), RunV K H' S.cur c v → H f' = none → StA K C ⟨a.x, a.p, f'⟩ ⟨cs', S.past ++ [S.cur], []⟩ H' → FrS a H H' → Q v H'
/-- what a making command computes -/
def cmpC (cs : Cts) : Cmd → Except SE Tree
  | .add _ ot => match ot with
    | none => .error .term
    | some t => .ok t
  | .combine _ l r => match lkC cs l with
    | none => .error (.unk l)
    | some a => match lkC cs r with
      | none => .error (.unk r)
      | some b => if fitsT (.N a b) = true then .ok (.N a b) else .error (.big (Tree.N a b).sz)
  | .extract _ s rt => match lkC cs s with
    | none => .error (.unk s)
    | some .L => .error .pnf
    | some (.N a b) => .ok (if rt = true then b else a)
  | .rewrite z op con => match lkC cs z with
    | none => .error (.unk z)
    | some t => match op with
      | none => .error .path
      | some p => match t.st p with
        | none => .error .pnf
        | some _ => match t.rwt (!con) p with
          | none => .error .nrw
          | some t' => if fitsT t' = true then .ok t' else .error (.big t'.sz)
  | .delete _ => .error .term
def mkC : Cmd → Option (List Nat)
  | .add z _ => some z
  | .combine z _ _ => some z
  | .extract z _ _ => some z
  | _ => none
theorem app_mk {cs : Cts} {c : Cmd} {z : List Nat} (h : mkC c = some z) : appC cs c = match chkL cs z with
    | some e => .error e
    | none => match cmpC cs c with
      | .error e => .error e
      | .ok t => withN cs z t := by
  cases c with
  | add y ot =>
    have h : y = z := Option.some.inj h
    subst h
    show opAdd cs _ ot = _
    unfold opAdd
    dsimp only [cmpC]
    cases chkL cs y with
    | some e => rfl
    | none =>
      cases ot with
      | none => rfl
      | some t => rfl
  | combine y l r =>
    have h : y = z := Option.some.inj h
    subst h
    show opCmb cs _ l r = _
    unfold opCmb
    dsimp only [cmpC]
    cases chkL cs y with
    | some e => rfl
    | none =>
      cases lkC cs l with
      | none => rfl
      | some a =>
        cases lkC cs r with
        | none => rfl
        | some b =>
          show (if fitsT (.N a b) = true then withN cs y (.N a b) else .error (.big (Tree.N a b).sz)) = match (if fitsT (.N a b) = true then Except.ok (.N a b) else .error (.big (Tree.N a b).sz)) with
            | .error e => .error e
            | .ok t => withN cs y t
          by_cases e : fitsT (.N a b) = true
          · rw [if_pos e, if_pos e]
          · rw [if_neg e, if_neg e]
  | extract y s rt =>
    have h : y = z := Option.some.inj h
    subst h
    show opExt cs _ s rt = _
    unfold opExt
    dsimp only [cmpC]
    cases chkL cs y with
    | some e => rfl
    | none =>
      cases lkC cs s with
      | none => rfl
      | some t => cases t <;> rfl
  | rewrite y op con => cases h
  | delete y => cases h
theorem app_rw {cs : Cts} {z : List Nat} {op : Option (List Bool)} {con : Bool} : appC cs (.rewrite z op con) = match cmpC cs (.rewrite z op con) with
    | .error e => .error e
    | .ok t => .ok (putC cs z t) := by
  show opRwr cs z op con = _
  unfold opRwr
  dsimp only [cmpC]
  cases lkC cs z with
  | none => rfl
  | some t =>
    cases op with
    | none => rfl
    | some p =>
      dsimp only
      cases e1 : t.st p with
      | none => rfl
      | some u =>
        dsimp only
        cases e2 : u.r0 (!con) with
        | none =>
          rw [rwt_none e1 e2]
        | some u' =>
          cases e3 : t.rwt (!con) p with
          | none => rfl
          | some t' =>
            dsimp only
            by_cases e : fitsT t' = true
            · rw [if_pos e, if_pos e]
            · rw [if_neg e, if_neg e]
/-- the pair that the law computes -/
def CmpV (K : PySem.W.Frag) (H : Hp) (r : Except SE Tree) (w : Str) (v : V) : Prop := match r with
  | .error e => w = seW e ∧ v = seV e
  | .ok t => w = "" ∧ TA K H v t ∧ t.sz ≤ 12 ∧ t.dp ≤ 6
def spCmp (K : PySem.W.Frag) : Sp := fun vs H Q _ => ∃ (d q : Addr) (cs : Cts) (c : Cmd), vs = [.ref d, .ref q] ∧ CtA K H d cs ∧ CtOk cs ∧ CmdT K H q c ∧ CmdF c ∧ (mkC c).isSome = true ∧ ∀ (p : Addr) (w : Str) (v : V) (H' : Hp), Same H H' → SqT K H' p [.str w, v] → CmpV K H' (cmpC cs c) w v → Q (.ref p) H'
/-- the law's commands rewrite at short paths -/
def CmdS : Cmd → Prop
  | .rewrite _ op _ => ∀ p, op = some p → p.length ≤ 8
  | _ => True
def spRwr (K : PySem.W.Frag) : Sp := fun vs H Q _ => ∃ (d q : Addr) (cs : Cts) (z : List Nat) (op : Option (List Bool)) (con : Bool), vs = [.ref d, .ref q] ∧ CtA K H d cs ∧ CtOk cs ∧ CmdT K H q (.rewrite z op con) ∧ (∀ p, op = some p → p.length ≤ 8) ∧ ∀ (p : Addr) (w : Str) (v : V) (H' : Hp), Same H H' → SqT K H' p [.str w, v] → CmpV K H' (cmpC cs (.rewrite z op con)) w v → Q (.ref p) H'
/-- a command's outcome: ((word, field), contents) -/
def spRes (K : PySem.W.Frag) : Sp := fun vs H Q _ => ∃ (d q : Addr) (cs : Cts) (c : Cmd), vs = [.ref d, .ref q] ∧ CtA K H d cs ∧ CtOk cs ∧ CmdT K H q c ∧ CmdF c ∧ CmdS c ∧ ∀ (p e d' : Addr) (H' : Hp), Same H H' → SqT K H' p [.ref e, .ref d'] → Dp K H' (.ref e) (outR cs c) → (∃ fv, SqT K H' e [.str (if okC cs c then "value" else match appC cs c with | .error er => seW er | .ok _ => "value"), fv]) → CtA K H' d' (nxC cs c) → Q (.ref p) H'
def spMat (K : PySem.W.Frag) (C : Addr) : Sp := fun vs H Q _ => ∃ (a : SAd) (S : Sto) (d : Addr) (cs : Cts), vs = [.ref a.x, .ref d] ∧ StH K C a S H ∧ CtA K H d cs ∧ CtOk cs ∧ cs.Perm S.cur ∧ ∀ H', Same H H' → Q (.bl true) H'
/-- the law's commands rewrite at paths -/
def CmdP : Cmd → Prop
  | .rewrite _ op _ => op.isSome = true
  | _ => True
def spCmdL (K : PySem.W.Frag) : Sp := fun vs H Q _ => ∃ (r c lp d : Addr) (ls : List (List Nat)) (cs : Cts), vs = [.ref r, .ref lp, .ref d] ∧ RngC H r c ∧ H lp = some (.lst (ls.map nmV)) ∧ lp ≠ r ∧ lp ≠ c ∧ 0 < ls.length ∧ ls.length ≤ 100 ∧ (∀ z ∈ ls, isLb z = true) ∧ CtA K H d cs ∧ CtOk cs ∧ ∀ (q : Addr) (cm : Cmd) (H' : Hp), CmdT K H' q cm → CmdF cm → CmdN cm → CmdS cm → CmdP cm → (∀ z, mkC cm = some z → z ∈ ls) → RngC H' r c → But r H H' → Q (.ref q) H'
/-! ### methods with a keyword -/
structure DSx (K : PySem.W.Frag) (nm qual : Str) (st : Stmt) (ps : List Str) (kw : Str) (f : Addr) (fd : FuncData) : Prop where
  F : Fun K nm qual st f fd
  b : ∃ ds, Vals [.bl false] ds ∧ Binds K fd ps ds
  kb : KBn K fd ps 3 [kw] (fun us ws => us ++ ws) (fun vs zs => vs ++ zs)
  m : PySem.W.keepIn K (.ref f) = true
/-! ### contents up to their order -/
theorem nd_perm {cs cs' : Cts} (p : cs.Perm cs') (h : (cs.map (·.1)).Nodup) : (cs'.map (·.1)).Nodup := (p.map _).nodup_iff.mp h
theorem CtOk.perm {cs cs' : Cts} (h : CtOk cs) (p : cs.Perm cs') : CtOk cs' :=
  ⟨nd_perm p h.nd, by rw [← p.length_eq]; exact h.len, fun e he => h.lb e (p.mem_iff.mpr he), fun e he => h.fit e (p.mem_iff.mpr he)⟩
theorem lk_of_mem {cs : Cts} (h : (cs.map (·.1)).Nodup) {z : List Nat} {t : Tree} (m : (z, t) ∈ cs) : lkC cs z = some t := by
  induction cs with
  | nil => cases m
  | cons e cs ih =>
    rw [List.map_cons, List.nodup_cons] at h
    unfold lkC
    rw [List.find?_cons]
    rcases List.mem_cons.mp m with rfl | m
    · rw [show decide ((z, t).1 = z) = true from decide_eq_true rfl]
      rfl
    · have hne : ¬ e.1 = z := fun q => h.1 (by rw [q]; exact List.mem_map.mpr ⟨_, m, rfl⟩)
      rw [decide_eq_false hne]
      exact ih h.2 m
theorem lk_perm {cs cs' : Cts} (p : cs.Perm cs') (h : (cs.map (·.1)).Nodup) (z : List Nat) : lkC cs z = lkC cs' z := by
  cases e : lkC cs z with
  | some t => exact (lk_of_mem (nd_perm p h) (p.mem_iff.mp (lk_mem e))).symm
  | none =>
    cases e2 : lkC cs' z with
    | none => rfl
    | some t =>
      have := lk_of_mem h (p.mem_iff.mpr (lk_mem e2))
      rw [this] at e
      cases e
theorem has_perm {cs cs' : Cts} (p : cs.Perm cs') (h : (cs.map (·.1)).Nodup) (z : List Nat) : hasC cs z = hasC cs' z := by
  rw [lk_has, lk_has, lk_perm p h]
theorem put_perm {cs cs' : Cts} (p : cs.Perm cs') (h : (cs.map (·.1)).Nodup) (z : List Nat) (t : Tree) : (putC cs z t).Perm (putC cs' z t) := by
  unfold putC
  rw [has_perm p h z]
  by_cases c : hasC cs' z = true
  · rw [if_pos c, if_pos c]
    exact p.map _
  · rw [if_neg c, if_neg c]
    exact p.append (.refl _)
theorem drop_perm {cs cs' : Cts} (p : cs.Perm cs') (z : List Nat) : (dropC cs z).Perm (dropC cs' z) := p.filter _
/-- alike: the same error, or contents alike -/
def RelP (r r' : Except SE Cts) : Prop := (∃ e, r = .error e ∧ r' = .error e) ∨ ∃ a b, r = .ok a ∧ r' = .ok b ∧ a.Perm b
theorem relP_err (e : SE) : RelP (.error e) (.error e) := .inl ⟨e, rfl, rfl⟩
theorem withN_perm {cs cs' : Cts} (p : cs.Perm cs') (h : (cs.map (·.1)).Nodup) (z : List Nat) (t : Tree) : RelP (withN cs z t) (withN cs' z t) := by
  unfold withN
  rw [p.length_eq]
  by_cases c : 12 ≤ cs'.length
  · rw [if_pos c, if_pos c]
    exact relP_err _
  · rw [if_neg c, if_neg c]
    exact .inr ⟨_, _, rfl, rfl, put_perm p h z t⟩
theorem chkL_perm {cs cs' : Cts} (p : cs.Perm cs') (h : (cs.map (·.1)).Nodup) (z : List Nat) : chkL cs z = chkL cs' z := by
  unfold chkL
  rw [has_perm p h]
theorem app_perm {cs cs' : Cts} (p : cs.Perm cs') (h : (cs.map (·.1)).Nodup) (c : Cmd) : RelP (appC cs c) (appC cs' c) := by
  cases c with
  | add z ot =>
    show RelP (opAdd cs z ot) (opAdd cs' z ot)
    unfold opAdd
    rw [chkL_perm p h]
    split
    · exact relP_err _
    · cases ot with
      | none => exact relP_err _
      | some t => exact withN_perm p h z t
  | combine z l r =>
    show RelP (opCmb cs z l r) (opCmb cs' z l r)
    unfold opCmb
    rw [chkL_perm p h, lk_perm p h l, lk_perm p h r]
    split
    · exact relP_err _
    · split
      · exact relP_err _
      · split
        · exact relP_err _
        · split
          · exact withN_perm p h z _
          · exact relP_err _
  | extract z s rt =>
    show RelP (opExt cs z s rt) (opExt cs' z s rt)
    unfold opExt
    rw [chkL_perm p h, lk_perm p h s]
    split
    · exact relP_err _
    · split
      · exact relP_err _
      · exact relP_err _
      · exact withN_perm p h z _
  | rewrite z op con =>
    show RelP (opRwr cs z op con) (opRwr cs' z op con)
    unfold opRwr
    rw [lk_perm p h z]
    split
    · exact relP_err _
    · split
      · exact relP_err _
      · split
        · exact relP_err _
        · split
          · exact relP_err _
          · split
            · exact relP_err _
            · split
              · exact .inr ⟨_, _, rfl, rfl, put_perm p h z _⟩
              · exact relP_err _
  | delete z =>
    show RelP (opDel cs z) (opDel cs' z)
    unfold opDel
    rw [lk_perm p h z]
    split
    · exact relP_err _
    · exact .inr ⟨_, _, rfl, rfl, drop_perm p z⟩
/-- what holds of the law's contents holds of the store's -/
theorem app_perm_err {cs cs' : Cts} (p : cs.Perm cs') (h : (cs.map (·.1)).Nodup) {c : Cmd} {e : SE} (he : appC cs c = .error e) : appC cs' c = .error e := by
  rcases app_perm p h c with ⟨e', h1, h2⟩ | ⟨_, _, h1, _, _⟩
  · rw [he] at h1
    cases h1
    exact h2
  · rw [he] at h1
    cases h1
theorem app_perm_ok {cs cs' ds : Cts} (p : cs.Perm cs') (h : (cs.map (·.1)).Nodup) {c : Cmd} (he : appC cs c = .ok ds) : ∃ ds', appC cs' c = .ok ds' ∧ ds.Perm ds' := by
  rcases app_perm p h c with ⟨e', h1, h2⟩ | ⟨a, b, h1, h2, h3⟩
  · rw [he] at h1
    cases h1
  · rw [he] at h1
    cases h1
    exact ⟨b, h2, h3⟩
/-! ### whose labels they are -/
theorem put_labs {P : List Nat → Prop} {cs : Cts} {z : List Nat} {t : Tree} (h : ∀ e ∈ cs, P e.1) (hz : P z) : ∀ e ∈ putC cs z t, P e.1 := by
  intro e he
  unfold putC at he
  by_cases c : hasC cs z = true
  · rw [if_pos c] at he
    obtain ⟨e0, h0, rfl⟩ := List.mem_map.mp he
    by_cases c2 : e0.1 = z
    · rw [if_pos c2]
      exact h e0 h0
    · rw [if_neg c2]
      exact h e0 h0
  · rw [if_neg c] at he
    rcases List.mem_append.mp he with he | he
    · exact h e he
    · rw [List.mem_singleton.mp he]
      exact hz
theorem withN_labs {P : List Nat → Prop} {cs cs' : Cts} {z : List Nat} {t : Tree} (h : ∀ e ∈ cs, P e.1) (hz : P z) (e : withN cs z t = .ok cs') : ∀ e ∈ cs', P e.1 := by
  unfold withN at e
  split at e
  · cases e
  · cases e
    exact put_labs h hz
theorem app_labs {P : List Nat → Prop} {cs cs' : Cts} {c : Cmd} (h : ∀ e ∈ cs, P e.1) (hm : ∀ z, mkC c = some z → P z) (ha : appC cs c = .ok cs') : ∀ e ∈ cs', P e.1 := by
  cases c with
  | add z ot =>
    have ha : opAdd cs z ot = .ok cs' := ha
    unfold opAdd at ha
    split at ha
    · cases ha
    · cases ot with
      | none => cases ha
      | some t => exact withN_labs h (hm z rfl) ha
  | combine z l r =>
    have ha : opCmb cs z l r = .ok cs' := ha
    unfold opCmb at ha
    split at ha
    · cases ha
    · split at ha
      · cases ha
      · split at ha
        · cases ha
        · split at ha
          · exact withN_labs h (hm z rfl) ha
          · cases ha
  | extract z s rt =>
    have ha : opExt cs z s rt = .ok cs' := ha
    unfold opExt at ha
    split at ha
    · cases ha
    · split at ha
      · cases ha
      · cases ha
      · exact withN_labs h (hm z rfl) ha
  | rewrite z p con =>
    have ha : opRwr cs z p con = .ok cs' := ha
    unfold opRwr at ha
    split at ha
    · cases ha
    · rename_i hl
      split at ha
      · cases ha
      · split at ha
        · cases ha
        · split at ha
          · cases ha
          · split at ha
            · cases ha
            · split at ha
              · cases ha
                exact put_labs h (h (z, _) (lk_mem hl))
              · cases ha
  | delete z =>
    have ha : opDel cs z = .ok cs' := ha
    unfold opDel at ha
    split at ha
    · cases ha
    · cases ha
      exact fun e he => h e (List.mem_filter.mp he).1
section OPN
open PySem PySem.Spec PyProof.Rows
/-! ### ==, != by an own __eq__; repr(o) by an own __repr__ -/
/-- the kind of the other side, and its type -/
inductive OSide (H : Hp) : V → Value → Prop where
  | int (i : Int) : OSide H (.int i) (.type "int")
  | str (z : Str) : OSide H (.str z) (.type "str")
  | lst {l : Addr} {xs : List V} (h : H l = some (.lst xs)) : OSide H (.ref l) (.type "list")
  | ins {a C dx : Addr} {fs : List (Str × V)} (h : H a = some (.ins C dx fs)) : OSide H (.ref a) (.ref C)
theorem OSide.looks {X : Cx} {pins : List (Addr × Obj)} {σ : L2.St} {H : Hp} {s : Shared} {y : V} {u t : Value} (I : Inv X pins σ H s) (o : OSide H y t) (r : RelV y u) : PySem.W.Looks (model X.prog X.w) s.heap (typeOf u) t := by
  cases o with
  | int i =>
    obtain ⟨k, rfl⟩ := (show ∃ t, u = Value.int i t from r)
    exact PySem.W.Looks.of_pure rfl
  | str z =>
    obtain ⟨k, rfl⟩ := (show ∃ t, u = Value.str z t from r)
    exact PySem.W.Looks.of_pure rfl
  | lst h =>
    cases (show u = Value.ref _ from r)
    obtain ⟨its, rv, pl, hz⟩ := I.list (SqL.of (K := X.K) h)
    obtain ⟨o, e1, e2, _⟩ := pl.isList
    exact e2 ▸ (PySem.W.Looks.ld e1).andThen .now
  | ins h =>
    cases (show u = Value.ref _ from r)
    obtain ⟨mB, J', _⟩ := ins_get I.hok h
    obtain ⟨od', J', _⟩ := J'.look
    exact J'.type
def rEqO (K : PySem.W.Frag) (C : Addr) (sp : Sp) (E : XK) : R2 := fun x y H Q => ∃ (a dx : Addr) (fs : List (Str × V)) (t : Value), x = .ref a ∧ H a = some (.ins C dx fs) ∧ OSide H y t ∧ PySem.W.notFirst K C t = true ∧ sp [x, y] H (fun z H' => ∃ b : Bool, z = .bl b ∧ Q (.bl b) H') E
theorem op_eqO {X : Cx} {CX : CXT} {C g : Addr} {n : Nat} {fd : FuncData} {ps : List Str} {sp : Sp} {E : XK} (hs : PySem.W.findIn X.K (.ref C) "__eq__" = some (some (.ref g))) (hf : PySem.W.isFn X.K (.ref g) = true) (F : FnOk X.prog X.w X.K X.mg X.base CX n g fd ps sp) (hr : Room n X.A) (hb : Binds X.K fd ps []) (hx : Passes CX X E) :
    OpR X (compareOp .Eq) (rEqO X.K C sp E) := by
  intro pins s σ H x y v u Q I rx ry h
  obtain ⟨a, dx, fs, t, rfl, ha, o, hn, q⟩ := h
  cases (show v = Value.ref a from rx)
  obtain ⟨mA, J, _⟩ := ins_get I.hok ha
  obtain ⟨od, J, _⟩ := J.look
  obtain ⟨m, hF⟩ := I.fr
  have e : compareOp .Eq (.ref a) u = richCompare .Eq (.ref a) u := rfl
  rw [e]
  refine PySem.W.cmp_K (op := .Eq) (tb := t) hr.units0 hF I.ok.mod.kin J (o.looks I ry) hn hs hf ?_
  refine wpAny_mono (run_fn (us := [.ref a, u]) (vs := [.ref a, y]) (dvs := []) (ds := []) F hr hb .nil hx I (.cons rfl (.cons ry .nil)) q) (fun w s' z => ?_) fun _ _ x => x
  obtain ⟨z', H', I', rz, b, rfl, qz⟩ := z
  cases (show w = Value.bool b from rz)
  exact ⟨V.bl b, H', I', rfl, qz⟩
theorem ns_some_of {K : PySem.W.Frag} {h : Heap} {N : Addr} {mg : Str → Option Value} {n : Str} {v : Value} (X : K.In h) (G : h.Ns N mg) (e : PySem.W.nsIn K N n = some (some v)) : mg n = some v := by
  obtain ⟨o, es, ep, ho, hd, _, hf⟩ := G
  unfold PySem.W.nsIn at e
  split at e
  · rename_i c d es' n' sl q
    have := X _ _ q
    rw [ho] at this
    cases this
    cases hd
    split at e
    · rename_i en he
      cases e
      rw [← hf]
      unfold nsFind findBy
      rw [← Array.find?_toList, he]
      rfl
    · split at e <;> cases e
  · cases e
/-- what the written part says of such a class, for != -/
structure NeC (K : PySem.W.Frag) (C f : Addr) : Prop where
  cls : ∃ nm q N bs hdct sn sub ab col dd k0 k1 k2 k3 k5 newId, K.lookup C = some (excClassObj nm q C N bs [.type "object"] hdct sn sub ab col dd k0 k1 k2 k3 k5 newId) ∧ PySem.W.nsOkIn K N = true ∧ PySem.W.nsIn K N "__eq__" = some (some (.ref f)) ∧ PySem.W.nsIn K N "__ne__" = some none
  fn : ∃ o, K.lookup f = some o ∧ o.cls = .type "function"
def rNeO (C : Addr) (sp : Sp) (E : XK) : R2 := fun x y H Q => ∃ (a dx : Addr) (fs : List (Str × V)) (b dy : Addr) (gs : List (Str × V)), x = .ref a ∧ y = .ref b ∧ H a = some (.ins C dx fs) ∧ H b = some (.ins C dy gs) ∧ sp [x, y] H (fun z H' => ∃ b : Bool, z = .bl b ∧ Q (.bl (!b)) H') E
theorem op_neO {X : Cx} {CX : CXT} {C g : Addr} {n : Nat} {fd : FuncData} {ps : List Str} {sp : Sp} {E : XK} (N : NeC X.K C g) (F : FnOk X.prog X.w X.K X.mg X.base CX n g fd ps sp) (hr : Room (n + 1) X.A) (hb : Binds X.K fd ps []) (hx : Passes CX X E) :
    OpR X (compareOp .NotEq) (rNeO C sp E) := by
  intro pins s σ H x y v u Q I rx ry h
  obtain ⟨a, dx, fs, b, dy, gs, rfl, rfl, ha, hb', q⟩ := h
  cases (show v = Value.ref a from rx)
  cases (show u = Value.ref b from ry)
  obtain ⟨mA, J, _⟩ := ins_get I.hok ha
  obtain ⟨od, J, _⟩ := J.look
  obtain ⟨mB, J', _⟩ := ins_get I.hok hb'
  obtain ⟨od', J', _⟩ := J'.look
  obtain ⟨nm, qn, NN, bs, hdct, sn, sub, ab, col, dd, k0, k1, k2, k3, k5, newId, hC, hok, he, hne⟩ := N.cls
  obtain ⟨fo, hf1, hf2⟩ := N.fn
  have hns : s.heap.Ns NN (s.heap.nsMap NN) := .of_isNs (PySem.W.isNs_of_in I.kIn hok)
  have meq : s.heap.nsMap NN "__eq__" = some (.ref g) := ns_some_of I.kIn hns he
  have mne : s.heap.nsMap NN "__ne__" = none := PySem.W.nsMap_none_of_in I.kIn hok hne
  have XX : s.heap.OwnEqNoNe a C g "object" [.type "object"] := ⟨_, fo, nm, qn, NN, bs, hdct, sn, sub, ab, col, dd, k0, k1, k2, k3, k5, newId, _, _, J.at_, J.cls, I.kIn _ _ hC, hns, meq, I.kIn _ _ hf1, hf2, PySem.F.cmp_object.mro, PySem.F.cmp_object.eq.lookup, mne⟩
  have r2 : Vals [V.ref a, V.ref b] [Value.ref a, Value.ref b] := .cons rfl (.cons rfl .nil)
  have hl : ([Value.ref a, Value.ref b] ++ []).length = ps.length := by
    have z := F.len _ _ _ _ q
    rw [List.append_nil]
    exact z
  obtain ⟨hp, gn, dr, tk, os⟩ := s
  refine compareOp_ne_ownEq PySem.F.cmp_object XX J'.at_ J'.cls (by have := hr.units; omega) (wpAny_mono (Q := EP X pins σ fun z H' => ∃ b : Bool, z = .bl b ∧ Q (.bl (!b)) H') (E := X.xe) (wpAny_call (codeAny_mono (F.run X.A.in1 X.stack _ H ⟨[.ref a, .ref b], []⟩ [.ref a, .ref b] [.ref a, .ref b] _ E hr.in1 I.env0.in1 (by have z := hb _ [.ref a, .ref b] I.kIn hl; rw [List.append_nil] at z; exact z) r2 q) fun r s' hq => ?_)) (fun v s' hv => ?_) fun _ _ y => y)
  · cases r with
    | error e => exact hx pins σ H _ e s' I hq
    | ok fl =>
      cases fl with
      | ret u => exact I.after hq
      | next => exact False.elim hq
      | brk => exact False.elim hq
      | cont => exact False.elim hq
  · obtain ⟨z, H', I', rz, k, rfl, qz⟩ := hv
    cases (show v = Value.bool k from rz)
    exact ⟨k, rfl, V.bl (!k), H', I', rfl, qz⟩
def rReprO (C : Addr) (sp : Sp) (E : XK) : List V → Hp → VK → Prop := fun xs H Q => ∃ (a dx : Addr) (fs : List (Str × V)), xs = [V.ref a] ∧ H a = some (.ins C dx fs) ∧ sp [.ref a] H (fun z H' => ∃ i : Str, z = .str i ∧ Q (.str i) H') E
theorem call_reprO {X : Cx} {CX : CXT} {C g : Addr} {n : Nat} {fd : FuncData} {ps : List Str} {sp : Sp} {E : XK} (hs : PySem.W.findIn X.K (.ref C) "__repr__" = some (some (.ref g))) (hf : PySem.W.isFn X.K (.ref g) = true) (F : FnOk X.prog X.w X.K X.mg X.base CX n g fd ps sp) (hr : Room (n + 1) X.A) (hb : Binds X.K fd ps []) (hx : Passes CX X E) : CallR X (.builtin "repr") (rReprO C sp E) := by
  intro pins s σ H xs us Q I r h
  obtain ⟨a, dx, fs, rfl, e, q⟩ := h
  obtain ⟨u, rfl, ru⟩ := r.one
  cases (show u = Value.ref a from ru)
  obtain ⟨mA, O, _, _, _, _⟩ := ins_get I.hok e
  obtain ⟨od, J, _⟩ := O.look
  obtain ⟨m, hF⟩ := I.fr
  have r2 : Vals [V.ref a] [Value.ref a] := .cons rfl .nil
  have hl : ([Value.ref a] ++ []).length = ps.length := by
    have z := F.len _ _ _ _ q
    rw [List.append_nil]
    exact z
  refine PySem.W.repr_K hr.in1.units0 hF I.ok.mod.kin J hs hf (wpAny_mono (Q := EP X pins σ fun z H' => ∃ i : Str, z = .str i ∧ Q (.str i) H') (E := X.xe) (wpAny_call (codeAny_mono (F.run X.A.in1 X.stack s H ⟨[.ref a], []⟩ [.ref a] [.ref a] _ E hr.in1 I.env0.in1 (by have z := hb s [.ref a] I.kIn hl; rw [List.append_nil] at z; exact z) r2 q) fun r s' hq => ?_)) (fun v s' hv => ?_) fun _ _ y => y)
  · cases r with
    | error e => exact hx pins σ H s e s' I hq
    | ok fl =>
      cases fl with
      | ret u => exact I.after hq
      | next => exact False.elim hq
      | brk => exact False.elim hq
      | cont => exact False.elim hq
  · obtain ⟨z, H', I', rz, i, rfl, qz⟩ := hv
    obtain ⟨t, rfl⟩ := (show ∃ t, v = Value.str i t from rz)
    exact ⟨V.str i, H', I', ⟨_, rfl⟩, qz⟩
end OPN
/-! ### reading any text -/
/-- the pile at the end, or the first place that is wrong -/
def pr : List (List Tree) → Nat → List Nat → Except Nat (List (List Tree))
  | st, _, [] => .ok st
  | st, j, c :: cs => match stp st c with
    | none => .error j
    | some st' => pr st' (j + 1) cs
/-- what a text tells: a tree, or the first place that is wrong -/
def rd (cs : List Nat) : Except Nat Tree := match pr [[]] 0 cs with
  | .error j => .error j
  | .ok st => match st.getLast? with
    | some (t :: _) => .ok t
    | _ => .error cs.length
def spReadE (K : PySem.W.Frag) (CX : Addr) : Sp := fun vs H Q E => ∃ z : Str, vs = [.str z] ∧ z.cps.size ≤ 1000 ∧ (∀ t, rd z.cps.toList = .ok t → ∀ v H', TA K H' v t → Same H H' → Q v H') ∧
  ∀ j : Nat, rd z.cps.toList = .error j → ∀ (e : Addr) (H' : Hp), Same H H' → H e = none → H' e = some (.xd [("position", .int (j : Int))]) → E (.ref CX) (some e) H'
def WfB : List (List Tree) → Prop
  | [] => True
  | us :: more => us.length < room us more ∧ WfB more
/-- a pile as reading makes it: room is left below the innermost list -/
def Wf : List (List Tree) → Prop
  | [] => False
  | ts :: rest => ts.length ≤ room ts rest ∧ WfB rest
theorem pile_bot {K : PySem.W.Frag} {G : Hp} : ∀ {as : List Addr} {st : List (List Tree)}, Pile K G as st → st ≠ [] → ∃ (as' : List Addr) (a : Addr) (vs : List V) (st' : List (List Tree)) (ts : List Tree), as = as' ++ [a] ∧ st = st' ++ [ts] ∧ G a = some (.lst vs) ∧ DpAll K G vs (ts.map Tree.d)
  | _, _, .nil, h => absurd rfl h
  | _, _, .cons (a := a) (vs := vs) (ts := ts) (as := as) (st := rest) hA hD hP, _ => by
    cases rest with
    | nil =>
      cases hP
      exact ⟨[], a, vs, [], ts, rfl, rfl, hA, hD⟩
    | cons us more =>
      obtain ⟨as', a', vs', st', ts', e1, e2, h1, h2⟩ := pile_bot hP (fun z => by cases z)
      exact ⟨a :: as', a', vs', ts :: st', ts', by rw [e1]; rfl, by rw [e2]; rfl, h1, h2⟩
def hdT (n : Nat) : List Tree → Except Nat Tree
  | t :: _ => .ok t
  | [] => .error n
/-! ### what is read is the text of the tree -/
def csAll : List Tree → List Nat
  | [] => []
  | t :: ts => t.cs ++ csAll ts
theorem csAll_app : ∀ (ts : List Tree) (u : Tree), csAll (ts ++ [u]) = csAll ts ++ u.cs
  | [], u => by show u.cs ++ [] = _; rw [List.append_nil]; rfl
  | t :: ts, u => by
    show t.cs ++ csAll (ts ++ [u]) = (t.cs ++ csAll ts) ++ u.cs
    rw [csAll_app ts u, List.append_assoc]
def flat : List (List Tree) → List Nat
  | [] => []
  | [ts] => csAll ts
  | ts :: us :: more => flat (us :: more) ++ (40 :: csAll ts)
theorem flat_stp {st st' : List (List Tree)} {c : Nat} (h : stp st c = some st') : flat st' = flat st ++ [c] ∧ st' ≠ [] := by
  match st, h with
  | ts :: rest, h =>
    have key : ∀ u : Tree, flat ((ts ++ [u]) :: rest) = flat (ts :: rest) ++ u.cs := fun u => by
      cases rest with
      | nil => exact csAll_app ts u
      | cons us more =>
        show flat (us :: more) ++ (40 :: csAll (ts ++ [u])) = (flat (us :: more) ++ (40 :: csAll ts)) ++ u.cs
        rw [csAll_app]
        simp
    by_cases c1 : c = 120
    · subst c1
      rw [stp_x] at h
      split at h
      · cases h
        exact ⟨key .L, by simp⟩
      · cases h
    · by_cases c2 : c = 40
      · subst c2
        rw [stp_o] at h
        split at h
        · cases h
          exact ⟨rfl, by simp⟩
        · cases h
      · by_cases c3 : c = 41
        · subst c3
          rw [stp_c] at h
          match ts, rest, h with
          | [a, b], us :: more, h =>
            cases h
            refine ⟨?_, by simp⟩
            have k2 : flat ((us ++ [.N a b]) :: more) = flat (us :: more) ++ (Tree.N a b).cs := by
              cases more with
              | nil => exact csAll_app us _
              | cons vs more =>
                show flat (vs :: more) ++ (40 :: csAll (us ++ [.N a b])) = (flat (vs :: more) ++ (40 :: csAll us)) ++ (Tree.N a b).cs
                rw [csAll_app]
                simp
            rw [k2]
            show flat (us :: more) ++ (40 :: (a.cs ++ (b.cs ++ [41]))) = (flat (us :: more) ++ (40 :: (a.cs ++ (b.cs ++ [])))) ++ [41]
            simp
        · rw [stp_else ts rest c1 c2 c3] at h
          cases h
theorem flat_pr : ∀ {cs : List Nat} {st st' : List (List Tree)} {j : Nat}, pr st j cs = .ok st' → flat st' = flat st ++ cs
  | [], st, st', j, h => by
    have h : Except.ok st = Except.ok st' := h
    cases h
    rw [List.append_nil]
  | c :: cs, st, st', j, h => by
    have h : (match stp st c with | none => Except.error j | some st' => pr st' (j + 1) cs) = .ok st' := h
    cases e : stp st c with
    | none => rw [e] at h; cases h
    | some s1 =>
      rw [e] at h
      have := flat_pr (st := s1) h
      rw [this, (flat_stp e).1]
      simp
theorem wf_stp {st st' : List (List Tree)} {c : Nat} (w : Wf st) (h : stp st c = some st') : Wf st' := by
  match st, w, h with
  | ts :: rest, w, h =>
    by_cases c1 : c = 120
    · subst c1
      rw [stp_x] at h
      split at h
      · rename_i rr
        cases h
        exact ⟨by rw [List.length_append, List.length_singleton]; exact rr, w.2⟩
      · cases h
    · by_cases c2 : c = 40
      · subst c2
        rw [stp_o] at h
        split at h
        · rename_i rr
          cases h
          exact ⟨Nat.zero_le _, rr, w.2⟩
        · cases h
      · by_cases c3 : c = 41
        · subst c3
          rw [stp_c] at h
          match ts, rest, w, h with
          | [a, b], us :: more, w, h =>
            cases h
            exact ⟨by rw [List.length_append, List.length_singleton]; exact w.2.1, w.2.2⟩
        · rw [stp_else ts rest c1 c2 c3] at h
          cases h
theorem wf_pr : ∀ {cs : List Nat} {st st' : List (List Tree)} {j : Nat}, Wf st → pr st j cs = .ok st' → Wf st'
  | [], st, st', j, w, h => by
    have h : Except.ok st = Except.ok st' := h
    cases h
    exact w
  | c :: cs, st, st', j, w, h => by
    have h : (match stp st c with | none => Except.error j | some st' => pr st' (j + 1) cs) = .ok st' := h
    cases e : stp st c with
    | none => rw [e] at h; cases h
    | some s1 =>
      rw [e] at h
      exact wf_pr (wf_stp w e) h
theorem wfB_bot : ∀ {st : List (List Tree)} {ts : List Tree}, WfB (st ++ [ts]) → ts = []
  | [], ts, h => by
    have h1 : ts.length < room ts [] := h.1
    have h2 : room ts [] = 1 := rfl
    exact List.length_eq_zero_iff.mp (by omega)
  | us :: st, ts, h => wfB_bot (st := st) h.2
/-- a text that is read is the text of its tree -/
theorem rd_cs {cs : List Nat} {t : Tree} (h : rd cs = .ok t) : t.cs = cs := by
  unfold rd at h
  cases e : pr [[]] 0 cs with
  | error j => rw [e] at h; cases h
  | ok st =>
    rw [e] at h
    have w := wf_pr (st := [[]]) (j := 0) ⟨Nat.zero_le _, trivial⟩ e
    have f := flat_pr e
    match st, w, f, h with
    | [ts], w, f, h =>
      match ts, w, f, h with
      | [], w, f, h => cases h
      | [u], w, f, h =>
        cases h
        have f : t.cs ++ [] = [] ++ cs := f
        rw [List.append_nil] at f
        exact f
      | u :: v :: more, w, f, h =>
        have := w.1
        exact absurd this (by show ¬ (more.length + 1 + 1 ≤ 1); omega)
    | ts :: us :: more, w, f, h =>
      obtain ⟨st', b, eb⟩ : ∃ st' b, us :: more = st' ++ [b] := by
        rcases List.eq_nil_or_concat (us :: more) with z | ⟨L, b, z⟩
        · cases z
        · exact ⟨L, b, by rw [z, List.concat_eq_append]⟩
      have wb : WfB (st' ++ [b]) := by rw [← eb]; exact w.2
      have b0 := wfB_bot wb
      rw [show ts :: us :: more = (ts :: st') ++ [b] by rw [eb]; rfl, b0] at h
      simp only [List.getLast?_append, List.getLast?_singleton, Option.some_or] at h
      cases h
theorem rd_sz {cs : List Nat} {t : Tree} (h : rd cs = .ok t) : 3 * t.sz = cs.length + 2 := by
  have e := t.cs_len
  rw [rd_cs h] at e
  omega
def spParseE (K : PySem.W.Frag) (CX CI : Addr) : Sp := fun vs H Q E => ∃ z : Str, vs = [.str z] ∧ z.cps.size ≤ 1000 ∧ (∀ t, rd z.cps.toList = .ok t → t.sz ≤ 40) ∧ (∀ t, rd z.cps.toList = .ok t → t.sz ≤ 12 → t.dp ≤ 6 → ∀ v H', TA K H' v t → Same H H' → Q v H') ∧
  (∀ t, rd z.cps.toList = .ok t → ¬ (t.sz ≤ 12 ∧ t.dp ≤ 6) → ∀ H', Same H H' → E (.ref CI) none H') ∧
  ∀ j : Nat, rd z.cps.toList = .error j → ∀ (e : Addr) (H' : Hp), Same H H' → H e = none → H' e = some (.xd [("position", .int (j : Int))]) → E (.ref CX) (some e) H'
/-- the law's pile: the open lists, and the result -/
def PIn (K : PySem.W.Frag) (H G : Hp) (p : Addr) (st : List (List Tree)) (bt : List Tree) (vr : V) : Prop := PileAt K H G p st ∧ ((bt = [] ∧ vr = .non) ∨ ∃ t, bt = [t] ∧ st = [] ∧ TA K G vr t) ∧ Wf (st ++ [bt])
def spLParse (K : PySem.W.Frag) : Sp := fun vs H Q _ => ∃ z : Str, vs = [.str z] ∧ z.cps.size ≤ 1000 ∧ (∀ t, rd z.cps.toList = .ok t → ∀ u v H', SqT K H' u [.int (-1), v] → TA K H' v t → Same H H' → Q (.ref u) H') ∧
  ∀ j : Nat, rd z.cps.toList = .error j → ∀ u H', SqT K H' u [.int (j : Int), .non] → Same H H' → Q (.ref u) H'
theorem rd_of {cs : List Nat} {st : List (List Tree)} {bt : List Tree} (h : pr [[]] 0 cs = .ok (st ++ [bt])) : rd cs = hdT cs.length bt := by
  unfold rd
  rw [h]
  simp only [List.getLast?_append, List.getLast?_singleton, Option.some_or]
  cases bt <;> rfl
theorem str1_ne {c k : Nat} {y : Str} (ey : y = ⟨#[k]⟩) (hk : c ≠ k) : decide (V.str ⟨#[c]⟩ = V.str y) = false := decide_eq_false fun h => by
  rw [ey] at h
  injection h with h
  injection h with h
  have h3 := congrArg Array.toList h
  simp at h3
  exact hk h3
theorem str1_eq {c k : Nat} {y : Str} (ey : y = ⟨#[k]⟩) (hk : c = k) : decide (V.str ⟨#[c]⟩ = V.str y) = true := decide_eq_true (by rw [ey, hk])
theorem in_signs (c : Nat) : inV (.str ⟨#[c]⟩) [.str "(", .str ")", .str "x"] = (decide (c = 40) || (decide (c = 41) || decide (c = 120))) := by
  have e : ∀ (k : Nat) (y : Str), y = ⟨#[k]⟩ → eqV (.str y) (.str ⟨#[c]⟩) = decide (c = k) := fun k y ey => by
    rw [ey]
    show ((⟨#[k]⟩ : Str) == ⟨#[c]⟩) = decide (c = k)
    rw [Bool.eq_iff_iff]
    simp
    constructor <;> intro h
    · exact h.symm
    · exact h.symm
  show (eqV (.str "(") (.str ⟨#[c]⟩) || (eqV (.str ")") (.str ⟨#[c]⟩) || (eqV (.str "x") (.str ⟨#[c]⟩) || false))) = _
  rw [e 40 "(" rfl, e 41 ")" rfl, e 120 "x" rfl, Bool.or_false]
/-- the law's room -/
def lroom : List (List Tree) → Bool
  | [] => true
  | o :: _ => decide (o.length < 2)
/-- when the law goes on -/
theorem stp_law {st : List (List Tree)} {c : Nat} (w : Wf (st ++ [[]])) : (stp (st ++ [[]]) c).isSome = ((decide (c = 40) || (decide (c = 41) || decide (c = 120))) && !(decide (decide (c = 41) = lroom st))) := by
  cases st with
  | nil =>
    show (stp [[]] c).isSome = _
    by_cases c1 : c = 120
    · subst c1; rfl
    · by_cases c2 : c = 40
      · subst c2; rfl
      · by_cases c3 : c = 41
        · subst c3; rfl
        · rw [stp_else [] [] c1 c2 c3, decide_eq_false c1, decide_eq_false c2, decide_eq_false c3]
          rfl
  | cons o rest =>
    have w1 : o.length ≤ 2 := by
      have h : o.length ≤ room o (rest ++ [[]]) := w.1
      unfold room at h
      split at h <;> omega
    have rm : room o (rest ++ [[]]) = 2 := by unfold room; rw [if_neg (by simp)]
    have el : lroom (o :: rest) = decide (o.length < 2) := rfl
    show (stp (o :: (rest ++ [[]])) c).isSome = _
    rw [el]
    by_cases c1 : c = 120
    · subst c1
      rw [stp_x, rm]
      by_cases h : o.length < 2
      · rw [if_pos h, decide_eq_true h]; rfl
      · rw [if_neg h, decide_eq_false h]; rfl
    · by_cases c2 : c = 40
      · subst c2
        rw [stp_o, rm]
        by_cases h : o.length < 2
        · rw [if_pos h, decide_eq_true h]; rfl
        · rw [if_neg h, decide_eq_false h]; rfl
      · by_cases c3 : c = 41
        · subst c3
          rw [stp_c]
          match o, w1 with
          | [], _ => rfl
          | [_], _ => rfl
          | [a, b], _ => cases rest <;> rfl
          | _ :: _ :: _ :: _, h => exact absurd h (by simp)
        · rw [stp_else o _ c1 c2 c3, decide_eq_false c1, decide_eq_false c2, decide_eq_false c3]
          rfl
theorem stp_full (t : Tree) (c : Nat) : stp [[t]] c = none := by
  by_cases c1 : c = 120
  · subst c1; rfl
  · by_cases c2 : c = 40
    · subst c2; rfl
    · by_cases c3 : c = 41
      · subst c3; rfl
      · exact stp_else [t] [] c1 c2 c3
/-- the pile after a term was read -/
def psh1 (t : Tree) : List (List Tree) → List (List Tree)
  | [] => [[t]]
  | o :: rest => (o ++ [t]) :: (rest ++ [[]])
theorem three_le' : 3 ≤ sizeLine := by decide
def spQuery (K : PySem.W.Frag) (Pa : Addr) (qn : Str) : Sp := fun vs H Q _ => ∃ z : Str, vs = [.str z] ∧ z.cps.size ≤ 1000 ∧ (∀ t, rd z.cps.toList = .ok t → t.sz ≤ 40) ∧ LamX.Tabs [(Pa, qn)] H ∧ ∀ H', LamX.ExtN H H' → LamX.Tabs [(Pa, qn)] H' → Q (.bl true) H'
/-! ### contents == contents -/
section CTEQ
open PySem PySem.Spec PyProof.Rows L2
/-- is each entry of the one in the other, and the same -/
def ctSub : Cts → Cts → Bool
  | [], _ => true
  | (z, t) :: r, cs' => match lkC cs' z with
    | none => false
    | some u => PyData.eqv t.d u.d && ctSub r cs'
def ctEq (cs cs' : Cts) : Bool := cs.length == cs'.length && ctSub cs cs'
theorem hits_ct {X : Cx} {pins : List (Addr × Obj)} {σ : L2.St} {H : Hp} {s : Shared} (I : Inv X pins σ H s) (hu : X.A.in1.units + 60 < cLine) {kb : List (L2.Key × V)} {vb : List (L2.Key × Value)} {csb : Cts} (rb : KV kb vb) (hb : CtAll X.K H kb csb) (fb : ∀ e ∈ csb, e.2.dp ≤ 50) :
    ∀ {ka : List (L2.Key × V)} {va : List (L2.Key × Value)} {csa : Cts}, KV ka va → CtAll X.K H ka csa → (∀ e ∈ csa, e.2.dp ≤ 50) → PySem.W.KeqHits X.A.in1 s vb va (ctSub csa csb) := by
  intro ka va csa ra ha
  induction ha generalizing va with
  | nil =>
    intro _
    have := ra.length
    cases va with
    | nil => exact .nil
    | cons _ _ => cases this
  | @cons z t v kvs cs ht hr ih =>
    intro fa
    cases ra with
    | @cons p q ps qs h1 h2 =>
      obtain ⟨k, v'⟩ := q
      obtain ⟨e1, e2⟩ := h1
      have e1 : nmK z = k := e1
      subst e1
      have e2 : RelV v v' := e2
      have hkv := rb.val (nmK z)
      rcases hb.val z with ⟨n1, n2⟩ | ⟨t2, v2, n1, n2, ht2⟩
      · rw [n2] at hkv
        have e : ctSub ((z, t) :: cs) csb = false := by
          show (match lkC csb z with | none => false | some u => PyData.eqv t.d u.d && ctSub cs csb) = false
          rw [n1]
        rw [e]
        cases hv : valueAt vb (nmK z) with
        | none => exact .miss hv
        | some y => rw [hv] at hkv; exact hkv.elim
      · rw [n2] at hkv
        cases hv : valueAt vb (nmK z) with
        | none => rw [hv] at hkv; exact hkv.elim
        | some y =>
          rw [hv] at hkv
          have hkv : RelV v2 y := hkv
          obtain ⟨as, q1⟩ := Dp.reads I _ _ _ ht e2
          obtain ⟨bs, q2⟩ := Dp.reads I _ _ _ ht2 hkv
          have d1 : t.dp ≤ 50 := fa (z, t) List.mem_cons_self
          have d2 : t2.dp ≤ 50 := fb (z, t2) (lk_mem n1)
          have e : ctSub ((z, t) :: cs) csb = (PyData.eqv t.d t2.d && ctSub cs csb) := by
            show (match lkC csb z with | none => false | some u => PyData.eqv t.d u.d && ctSub cs csb) = _
            rw [n1]
          rw [e]
          exact .hit hv (SeqAt.eqAt_reads _ _ X.A.in1 s v' y as bs q1 q2 (Tree.d_lay t) (Tree.d_lay t2) (by rw [Tree.d_depth, Tree.d_depth]; omega)) (ih h2 fun e he => fa e (List.mem_cons_of_mem _ he))
variable {X : Cx}
def rEqCt (K : PySem.W.Frag) : R2 := fun x y H Q => ∃ (a b : Addr) (cs cs' : Cts), x = .ref a ∧ y = .ref b ∧ CtA K H a cs ∧ CtA K H b cs' ∧ CtOk cs ∧ CtOk cs' ∧ Q (.bl (ctEq cs cs')) H
theorem op_eqCt (hu : X.A.units + 64 < cLine) : OpR X (compareOp .Eq) (rEqCt X.K) := by
  intro pins s σ H x y v u Q I rx ry h
  obtain ⟨a, b, cs, cs', rfl, rfl, ⟨ka, ha, hA⟩, ⟨kb, hb, hB⟩, ok, ok', k⟩ := h
  obtain rfl : v = Value.ref a := rx
  obtain rfl : u = Value.ref b := ry
  obtain ⟨_, ya, va, ra, da⟩ := (show ObjOk X.prog X.w H s.heap a (.dK ka) from I.hok a _ ha)
  obtain ⟨_, yb, vb, rb, db⟩ := (show ObjOk X.prog X.w H s.heap b (.dK kb) from I.hok b _ hb)
  have hl : va.length = cs.length := ra.length.symm.trans hA.len
  have hl' : vb.length = cs'.length := rb.length.symm.trans hB.len
  refine PySem.W.keq_eq (knd := mixKind X.prog X.w) (r := ctSub cs cs') ya yb da db (by omega) (fun _ => hits_ct I (by show X.A.units + 1 + 60 < cLine; omega) rb hB (fun e he => by have := (ok'.fit e he).2; omega) ra hA fun e he => by have := (ok.fit e he).2; omega) ?_
  refine ⟨.bl (ctEq cs cs'), H, I, ?_, k⟩
  rw [hl, hl']
  rfl
end CTEQ
theorem ctSub_all {cs' : Cts} : ∀ {cs : Cts}, (∀ e ∈ cs, lkC cs' e.1 = some e.2) → ctSub cs cs' = true
  | [], _ => rfl
  | (z, t) :: r, h => by
    have h1 : lkC cs' z = some t := h (z, t) List.mem_cons_self
    show (match lkC cs' z with | none => false | some u => PyData.eqv t.d u.d && ctSub r cs') = true
    rw [h1]
    show (PyData.eqv t.d t.d && ctSub r cs') = true
    rw [SeqAt.eqv_refl _ (Tree.d_lay t), ctSub_all fun e he => h e (List.mem_cons_of_mem _ he)]
    rfl
theorem ctEq_perm {cs cs' : Cts} (p : cs.Perm cs') (h : (cs.map (·.1)).Nodup) : ctEq cs cs' = true := by
  unfold ctEq
  rw [p.length_eq, beq_self_eq_true, Bool.true_and]
  exact ctSub_all fun e he => lk_of_mem (nd_perm p h) (p.mem_iff.mp he)
theorem ctEq_len {cs cs' : Cts} (h : cs.length ≠ cs'.length) : ctEq cs cs' = false := by
  unfold ctEq
  rw [beq_false_of_ne h]
  rfl
section
variable {K : PySem.W.Frag}
/-- contents that were read out by their sorted labels -/
def rdC (cs : Cts) (ms : List (List Nat)) : Cts := ms.map fun z => (z, (lkC cs z).getD .L)
theorem rdC_perm {cs : Cts} {ms : List (List Nat)} (h : (cs.map (·.1)).Nodup) (p : ms.Perm (cs.map (·.1))) : (rdC cs ms).Perm cs := by
  have e : (cs.map (·.1)).map (fun z => (z, (lkC cs z).getD .L)) = cs := by
    rw [List.map_map]
    refine (List.map_congr_left fun e he => ?_).trans (List.map_id cs)
    show (e.1, (lkC cs e.1).getD .L) = e
    rw [lk_of_mem h (z := e.1) (t := e.2) he]
    rfl
  have := p.map fun z => (z, (lkC cs z).getD .L)
  rwa [e] at this
theorem merge_nd : ∀ (M acc : List (L2.Key × V)), ((acc ++ M).map (·.1)).Nodup → mergeK acc M = acc ++ M
  | [], acc, _ => (List.append_nil acc).symm
  | kv :: M, acc, h => by
    have h2 : ¬ (acc.any fun e => decide (e.1 = kv.1)) = true := fun z => by
      obtain ⟨x, hx, ex⟩ := List.any_eq_true.mp z
      rw [List.map_append, List.nodup_append] at h
      exact h.2.2 _ (List.mem_map.mpr ⟨x, hx, rfl⟩) kv.1 (List.mem_map.mpr ⟨kv, List.mem_cons_self, rfl⟩) (of_decide_eq_true ex)
    have e : putK acc kv.1 kv.2 = acc ++ [kv] := by
      unfold putK
      rw [if_neg h2]
    have := merge_nd M (acc ++ [kv]) (by rw [List.append_assoc]; exact h)
    rw [List.append_assoc] at this
    show mergeK (putK acc kv.1 kv.2) M = _
    rw [e]
    exact this
/-- pairs of labels and terms -/
inductive PrC (K : PySem.W.Frag) (H : Hp) : List Addr → List (L2.Key × V) → Cts → Prop
  | nil : PrC K H [] [] []
  | cons {p : Addr} {z : List Nat} {t : Tree} {v : V} {ps : List Addr} {kvs : List (L2.Key × V)} {cs : Cts} : SqT K H p [nmV z, v] → TA K H v t → PrC K H ps kvs cs → PrC K H (p :: ps) ((nmK z, v) :: kvs) ((z, t) :: cs)
theorem PrC.tp {H H' : Hp} {ps : List Addr} {kvs : List (L2.Key × V)} {cs : Cts} (e : Tp H H') (h : PrC K H ps kvs cs) : PrC K H' ps kvs cs := by
  induction h with
  | nil => exact .nil
  | cons a b _ ih => exact .cons (e.sqT a) (ta_mono e b) ih
theorem PrC.snoc {H : Hp} {ps : List Addr} {kvs : List (L2.Key × V)} {cs : Cts} {p : Addr} {z : List Nat} {t : Tree} {v : V} (h : PrC K H ps kvs cs) (a : SqT K H p [nmV z, v]) (b : TA K H v t) : PrC K H (ps ++ [p]) (kvs ++ [(nmK z, v)]) (cs ++ [(z, t)]) := by
  induction h with
  | nil => exact .cons a b .nil
  | cons a' b' _ ih => exact .cons a' b' ih
theorem PrC.ct {H : Hp} {ps : List Addr} {kvs : List (L2.Key × V)} {cs : Cts} (h : PrC K H ps kvs cs) : CtAll K H kvs cs := by
  induction h with
  | nil => exact .nil
  | cons _ b _ ih => exact .cons b ih
theorem PrC.paired {H : Hp} {ps : List Addr} {kvs : List (L2.Key × V)} {cs : Cts} (h : PrC K H ps kvs cs) : Paired (fun p kv => SqT K H p [L2.kV kv.1, kv.2]) ps kvs := by
  induction h with
  | nil => exact .nil
  | cons a _ _ ih => exact .cons a ih
theorem PrC.len {H : Hp} {ps : List Addr} {kvs : List (L2.Key × V)} {cs : Cts} (h : PrC K H ps kvs cs) : ps.length = cs.length := by
  induction h with
  | nil => rfl
  | cons _ _ _ ih => exact congrArg (· + 1) ih
theorem rdC_lk {cs cs' : Cts} {ms : List (List Nat)} (h : ∀ z, lkC cs z = lkC cs' z) : rdC cs ms = rdC cs' ms := List.map_congr_left fun z _ => by rw [h z]
end
/-! ### snapshots -/
def rowB (z : List Nat) (t : Tree) : List Nat := z ++ (32 :: t.cs)
def snC (es : Cts) : List Nat := es.flatMap fun e => rowB e.1 e.2 ++ [10]
def rowP (row : List Nat) : List Nat × List Nat := match TL.par [32] [] row with
  | some pq => pq
  | none => (row, [])
def ldC : Nat → List Nat → Cts → List (List Nat) → Except Nat Cts
  | _, _, acc, [] => .ok acc
  | i, b, acc, row :: rs => if 12 ≤ i ∨ isLb (rowP row).1 = false ∨ ¬ b < (rowP row).1 then .error i else match rd (rowP row).2 with
    | .error _ => .error i
    | .ok t => if fitsT t = true then ldC (i + 1) (rowP row).1 (putC acc (rowP row).1 t) rs else .error i
def rowsT (z : List Nat) : List (List Nat) := TL.spl [10] 0 [] z
def ldT (z : List Nat) : Except Nat Cts := match ldC 0 [] [] (rowsT z).dropLast with
  | .error i => .error i
  | .ok cs => if (rowsT z).getLast?.getD [] = [] then .ok cs else .error ((rowsT z).length - 1)
theorem ldC_cons (i : Nat) (b : List Nat) (acc : Cts) (row : List Nat) (rs : List (List Nat)) : ldC i b acc (row :: rs) = if 12 ≤ i ∨ isLb (rowP row).1 = false ∨ ¬ b < (rowP row).1 then .error i else match rd (rowP row).2 with
    | .error _ => .error i
    | .ok t => if fitsT t = true then ldC (i + 1) (rowP row).1 (putC acc (rowP row).1 t) rs else .error i := rfl
theorem rowP_B {z : List Nat} {t : Tree} (h : 32 ∉ z) : rowP (rowB z t) = (z, t.cs) := by
  unfold rowP rowB
  have e : TL.par [32] [] (z ++ ([32] ++ t.cs)) = some (z, t.cs) := SX.par_head t.cs h
  rw [show z ++ (32 :: t.cs) = z ++ ([32] ++ t.cs) from rfl, e]
theorem cs_signs : ∀ (t : Tree) (c : Nat), c ∈ t.cs → c = 40 ∨ c = 41 ∨ c = 120
  | .L, c, h => .inr (.inr (List.mem_singleton.mp h))
  | .N l r, c, h => by
    have h : c ∈ 40 :: (l.cs ++ (r.cs ++ [41])) := h
    rcases List.mem_cons.mp h with h | h
    · exact .inl h
    rcases List.mem_append.mp h with h | h
    · exact cs_signs l c h
    rcases List.mem_append.mp h with h | h
    · exact cs_signs r c h
    · exact .inr (.inl (List.mem_singleton.mp h))
theorem lb_low {z : List Nat} (h : isLb z = true) : ∀ c ∈ z, 97 ≤ c ∧ c ≤ 122 := fun c hc => by
  have h2 := (Bool.and_eq_true_iff.mp (Bool.and_eq_true_iff.mp h).2).2
  exact (low_iff c).mp (of_decide_eq_true (List.all_eq_true.mp h2 c hc))
theorem lb_len {z : List Nat} (h : isLb z = true) : 1 ≤ z.length ∧ z.length ≤ 8 := by
  unfold isLb at h
  simp only [Bool.and_eq_true, decide_eq_true_eq] at h
  omega
theorem joinL_nl : ∀ (rows : List (List Nat)), TL.joinL [10] (rows ++ [[]]) = rows.flatMap fun r => r ++ [10]
  | [] => rfl
  | [r] => by
    show r ++ ([10] ++ []) = (r ++ [10]) ++ []
    rw [List.append_nil, List.append_nil]
  | r :: q :: rows => by
    have ih := joinL_nl (q :: rows)
    show r ++ ([10] ++ TL.joinL [10] ((q :: rows) ++ [[]])) = (r ++ [10]) ++ (q :: rows).flatMap fun r => r ++ [10]
    rw [ih, List.append_assoc]
theorem rowsT_sn {es : Cts} (h : ∀ e ∈ es, isLb e.1 = true) : rowsT (snC es) = (es.map fun e => rowB e.1 e.2) ++ [[]] := by
  have e1 : snC es = TL.joinL [10] ((es.map fun e => rowB e.1 e.2) ++ [[]]) := by
    rw [joinL_nl, List.flatMap_map]
    rfl
  unfold rowsT
  rw [e1]
  refine SX.spl_join (by simp) fun p hp => ?_
  rcases List.mem_append.mp hp with hp | hp
  · obtain ⟨e, he, rfl⟩ := List.mem_map.mp hp
    intro hc
    rcases List.mem_append.mp hc with hc | hc
    · have := lb_low (h e he) 10 hc
      omega
    · rcases List.mem_cons.mp hc with hc | hc
      · cases hc
      · rcases cs_signs _ _ hc with hc | hc | hc <;> cases hc
  · rw [List.mem_singleton.mp hp]
    exact List.not_mem_nil
/-- strictly ascending labels -/
def AscC (es : Cts) : Prop := (es.map (·.1)).Pairwise fun a b => a < b
theorem lt_has {es : Cts} {z : List Nat} (h : ∀ e ∈ es, e.1 < z) : hasC es z = false := by
  cases c : hasC es z with
  | false => rfl
  | true =>
    obtain ⟨e, he, ez⟩ := List.mem_map.mp (has_mem.mp c)
    have := h e he
    rw [ez] at this
    exact absurd this (List.lt_irrefl z)
theorem pr_rn : ∀ {cs : List Nat} {st st' : List (List Tree)} {j : Nat}, rn st cs = some st' → pr st j cs = .ok st'
  | [], st, st', j, h => by
    cases h
    rfl
  | c :: cs, st, st', j, h => by
    have h : (stp st c).bind (fun s => rn s cs) = some st' := h
    show (match stp st c with | none => Except.error j | some s => pr s (j + 1) cs) = Except.ok st'
    cases e : stp st c with
    | none => rw [e] at h; cases h
    | some s =>
      rw [e] at h
      exact pr_rn h
theorem rd_ok (t : Tree) : rd t.cs = .ok t := by
  unfold rd
  rw [pr_rn (rn_all t)]
  rfl
theorem les_lt {a b : List Nat} (h : leS (sL a) (sL b)) (n : a ≠ b) : a < b :=
  Decidable.byContradiction fun z => n (sL_inj (leS_anti h (show leS (sL b) (sL a) from z)))
theorem ldC_sn : ∀ (es pre : Cts) (b : List Nat), (∀ e ∈ pre ++ es, isLb e.1 = true) → (∀ e ∈ es, e.2.sz ≤ 12 ∧ e.2.dp ≤ 6) → AscC (pre ++ es) → (pre = [] ∧ b = [] ∨ ∃ e0, pre.getLast? = some e0 ∧ b = e0.1) → pre.length + es.length ≤ 12 → ldC pre.length b pre (es.map fun e => rowB e.1 e.2) = .ok (pre ++ es)
  | [], pre, b, _, _, _, _, _ => by
    rw [List.append_nil]
    rfl
  | (z, t) :: es, pre, b, hl, hf, ha, hb, hn => by
    have hz : isLb z = true := hl (z, t) (by simp)
    have n32 : 32 ∉ z := fun h => by have := lb_low hz 32 h; omega
    have hlt : ∀ e ∈ pre, e.1 < z := fun e he => by
      unfold AscC at ha
      rw [List.map_append, List.pairwise_append] at ha
      exact ha.2.2 _ (List.mem_map.mpr ⟨e, he, rfl⟩) _ (by simp)
    have hbz : b < z := by
      rcases hb with ⟨rfl, rfl⟩ | ⟨e0, he, rfl⟩
      · have := (lb_len hz).1
        cases z with
        | nil => simp at this
        | cons c r => exact List.nil_lt_cons c r
      · exact hlt e0 (List.mem_of_getLast? he)
    rw [List.map_cons, ldC_cons, rowP_B n32, if_neg]
    · have hft := hf (z, t) List.mem_cons_self
      show (match rd t.cs with | .error _ => Except.error pre.length | .ok t => if fitsT t = true then ldC (pre.length + 1) z (putC pre z t) (es.map fun (e : List Nat × Tree) => rowB e.1 e.2) else Except.error pre.length) = _
      rw [rd_ok t]
      show (if fitsT t = true then ldC (pre.length + 1) z (putC pre z t) (es.map fun (e : List Nat × Tree) => rowB e.1 e.2) else Except.error pre.length) = _
      rw [if_pos (fitsT_iff.mpr hft)]
      have ep : putC pre z t = pre ++ [(z, t)] := by
        unfold putC
        rw [if_neg (by rw [lt_has hlt]; decide)]
      rw [ep]
      have e1 : pre ++ (z, t) :: es = (pre ++ [(z, t)]) ++ es := by simp
      have := ldC_sn es (pre ++ [(z, t)]) z (by rw [← e1]; exact hl) (fun e he => hf e (List.mem_cons_of_mem _ he)) (by rw [← e1]; exact ha) (.inr ⟨(z, t), by simp, rfl⟩) (by rw [List.length_append]; simp at hn ⊢; omega)
      rw [List.length_append] at this
      rw [e1]
      exact this
    · rintro (h | h | h)
      · simp at hn; omega
      · rw [hz] at h; cases h
      · exact h hbz
theorem ldT_sn {es : Cts} (h : CtOk es) (ha : AscC es) : ldT (snC es) = .ok es := by
  have e := ldC_sn es [] [] (by simpa using h.lb) h.fit (by simpa using ha) (.inl ⟨rfl, rfl⟩) (by have := h.len; simpa using this)
  unfold ldT
  rw [rowsT_sn h.lb, List.dropLast_concat, show ldC 0 [] [] (es.map fun (e : List Nat × Tree) => rowB e.1 e.2) = .ok es from e]
  show (if ((es.map fun (e : List Nat × Tree) => rowB e.1 e.2) ++ [[]]).getLast?.getD [] = [] then Except.ok es else _) = _
  rw [List.getLast?_concat]
  exact if_pos rfl
theorem AscC.nodup {es : Cts} (h : AscC es) : (es.map (·.1)).Nodup := h.imp fun {a b} l e => by rw [e] at l; exact List.lt_irrefl _ l
/-- the invariant of reading -/
theorem ldC_step {i : Nat} {b : List Nat} {acc cs : Cts} {row : List Nat} {rs : List (List Nat)} (h : ldC i b acc (row :: rs) = .ok cs) : i < 12 ∧ isLb (rowP row).1 = true ∧ b < (rowP row).1 ∧ ∃ t, rd (rowP row).2 = .ok t ∧ fitsT t = true ∧ ldC (i + 1) (rowP row).1 (putC acc (rowP row).1 t) rs = .ok cs := by
  rw [ldC_cons] at h
  by_cases c : 12 ≤ i ∨ isLb (rowP row).1 = false ∨ ¬ b < (rowP row).1
  · rw [if_pos c] at h
    cases h
  · rw [if_neg c] at h
    have c1 : ¬ 12 ≤ i := fun z => c (.inl z)
    have c2 : isLb (rowP row).1 = true := by
      cases e : isLb (rowP row).1 with
      | true => rfl
      | false => exact absurd (.inr (.inl e)) c
    have c3 : b < (rowP row).1 := Decidable.byContradiction fun z => c (.inr (.inr z))
    refine ⟨by omega, c2, c3, ?_⟩
    cases e : rd (rowP row).2 with
    | error j => rw [e] at h; cases h
    | ok t =>
      rw [e] at h
      have h : (if fitsT t = true then ldC (i + 1) (rowP row).1 (putC acc (rowP row).1 t) rs else Except.error i) = .ok cs := h
      by_cases f : fitsT t = true
      · rw [if_pos f] at h
        exact ⟨t, rfl, f, h⟩
      · rw [if_neg f] at h
        cases h
theorem put_okT {acc : Cts} {z : List Nat} {t : Tree} (h : CtOk acc) (hl : acc.length < 12) (hz : isLb z = true) (hf : fitsT t = true) : CtOk (putC acc z t) ∧ (putC acc z t).length ≤ acc.length + 1 := by
  obtain ⟨f1, f2⟩ := fitsT_iff.mp hf
  cases c : hasC acc z with
  | true =>
    refine ⟨h.rep c f1 f2, ?_⟩
    unfold putC
    rw [if_pos c, List.length_map]
    omega
  | false =>
    refine ⟨h.new c hl hz f1 f2, ?_⟩
    unfold putC
    rw [if_neg (by rw [c]; decide), List.length_append]
    exact Nat.le_refl _
/-- the sorted labels ascend strictly -/
theorem srt_asc {cs : Cts} {ms : List (List Nat)} (h : CtOk cs) (hs : SrtL ms (cs.map (·.1))) : AscC (rdC cs ms) := by
  unfold AscC
  have e : (rdC cs ms).map (·.1) = ms := by
    unfold rdC
    rw [List.map_map]
    exact List.map_id ms
  rw [e]
  have h1 := sorted_pw _ hs.2
  rw [List.pairwise_map] at h1
  have h2 : ms.Nodup := hs.1.nodup_iff.mpr h.nd
  refine (h1.and h2).imp fun {a b} ⟨l, n⟩ => ?_
  exact les_lt l n
theorem nt_ok {K : PySem.W.Frag} {G : Hp} {v : V} {t : Tree} (h1 : TA K G v t) (h2 : t.sz ≤ 12) (h3 : t.dp ≤ 6) : NT K G v t.d ∧ ndD t.d ≤ 1000 ∧ (okd t.d = false → False) := by
  have hnd := tree_nodes t
  refine ⟨NT.of h1 (by omega), by rw [tree_nd]; omega, fun bad => ?_⟩
  rw [tree_okd, decide_eq_true h3, decide_eq_true h2] at bad
  cases bad
/-! ### values of the terms of programs -/
section
variable {P : Program} {w : World} {K : PySem.W.Frag} {mg : Str → Option Value} {base : Heap} {f : Addr} {fd : FuncData}
abbrev s_TLInit : Stmt := inClass (top 4) 0
theorem sc_TLInit : SupScope ["self", "size"] (defScope s_TLInit) := ⟨rfl, rfl, rfl, by decide +kernel, by decide +kernel, by decide +kernel, by decide +kernel, by decide +kernel, fun x h => by
  have z : ∀ y ∈ (defScope s_TLInit).names, y.2 = .free → y.1 = ("__class__" : Str) := by decide +kernel
  exact z _ (PySem.mem_of_lookup h) rfl⟩
theorem ok_TLInit {C : Addr} (F : FunS P K mg "TooLarge" "TooLarge.__init__" s_TLInit ["self", "size"] C f fd) (hno : PySem.W.findIn K (.ref C) "size" = some none) : FnOk P w K mg base CX0 1 f fd ["self", "size"] (spS C "size" okInt) := by
  obtain ⟨oc, od, dV, kV, doc, pm, an, cda, ct, osl, cc, cl, cld, csl, ccl, cdd, cvs, ccs, file, tf, rfl, lk, hcd, hcode, hvs, hfile, hcell⟩ := F.ex
  refine ok_sup (sf := "self") (xn := "size") (fld := "size") lk hcd sc_TLInit rfl rfl hcode hvs hfile F.top hcell F.T F.mro F.sup F.any F.ini F.val hno (fun A outer s H E a v hv => ?_)
  obtain ⟨n, rfl, h1, h2⟩ := hv
  refine ⟨_, pa_cons pe_str pa_nil, ?_⟩
  refine ⟨?_, rfl⟩
  show 1 ≤ 1000
  omega
end
section
variable {P : Program} {w : World} {K : PySem.W.Frag} {mg : Str → Option Value} {base : Heap} {f : Addr} {fd : FuncData}
abbrev s_UNInit : Stmt := inClass (top 6) 0
theorem sc_UNInit : SupScope ["self", "name"] (defScope s_UNInit) := ⟨rfl, rfl, rfl, by decide +kernel, by decide +kernel, by decide +kernel, by decide +kernel, by decide +kernel, fun x h => by
  have z : ∀ y ∈ (defScope s_UNInit).names, y.2 = .free → y.1 = ("__class__" : Str) := by decide +kernel
  exact z _ (PySem.mem_of_lookup h) rfl⟩
theorem ok_UNInit {C : Addr} (F : FunS P K mg "UnknownName" "UnknownName.__init__" s_UNInit ["self", "name"] C f fd) (hno : PySem.W.findIn K (.ref C) "name" = some none) : FnOk P w K mg base CX0 1 f fd ["self", "name"] (spS C "name" okNmV) := by
  obtain ⟨oc, od, dV, kV, doc, pm, an, cda, ct, osl, cc, cl, cld, csl, ccl, cdd, cvs, ccs, file, tf, rfl, lk, hcd, hcode, hvs, hfile, hcell⟩ := F.ex
  refine ok_sup (sf := "self") (xn := "name") (fld := "name") lk hcd sc_UNInit rfl rfl hcode hvs hfile F.top hcell F.T F.mro F.sup F.any F.ini F.val hno (fun A outer s H E a v hv => ?_)
  obtain ⟨n, rfl, h1⟩ := hv
  refine ⟨_, pa_cons (pe_joined (PJ.cons pe_str (PJ.cons (pe_fmt (pv 1)) (PJ.cons pe_str PJ.nil)))) pa_nil, ?_⟩
  have L : (sL n).length ≤ 100 := h1
  refine ⟨_, rfl, (by decide +kernel), _, rfl, .inl ⟨_, rfl, ?_, ?_⟩⟩
  · exact fits (by omega)
  · have e1 := PySem.Str.length_append (Str.empty ++ Str.ofString "the name ") (sL n)
    have e2 : (Str.empty ++ Str.ofString "the name ").length ≤ 100 := by decide +kernel
    have e3 := PySem.Str.length_append ((Str.empty ++ Str.ofString "the name ") ++ sL n) (Str.ofString " does not exist")
    have e4 : (Str.ofString " does not exist").length ≤ 100 := by decide +kernel
    exact ⟨_, rfl, fits (by omega), _, rfl, fits (by omega), by show 1 ≤ 1000; omega, rfl⟩
abbrev s_DNInit : Stmt := inClass (top 5) 0
theorem sc_DNInit : SupScope ["self", "name"] (defScope s_DNInit) := ⟨rfl, rfl, rfl, by decide +kernel, by decide +kernel, by decide +kernel, by decide +kernel, by decide +kernel, fun x h => by
  have z : ∀ y ∈ (defScope s_DNInit).names, y.2 = .free → y.1 = ("__class__" : Str) := by decide +kernel
  exact z _ (PySem.mem_of_lookup h) rfl⟩
theorem ok_DNInit {C : Addr} (F : FunS P K mg "DuplicateName" "DuplicateName.__init__" s_DNInit ["self", "name"] C f fd) (hno : PySem.W.findIn K (.ref C) "name" = some none) : FnOk P w K mg base CX0 1 f fd ["self", "name"] (spS C "name" okNmV) := by
  obtain ⟨oc, od, dV, kV, doc, pm, an, cda, ct, osl, cc, cl, cld, csl, ccl, cdd, cvs, ccs, file, tf, rfl, lk, hcd, hcode, hvs, hfile, hcell⟩ := F.ex
  refine ok_sup (sf := "self") (xn := "name") (fld := "name") lk hcd sc_DNInit rfl rfl hcode hvs hfile F.top hcell F.T F.mro F.sup F.any F.ini F.val hno (fun A outer s H E a v hv => ?_)
  obtain ⟨n, rfl, h1⟩ := hv
  refine ⟨_, pa_cons (pe_joined (PJ.cons pe_str (PJ.cons (pe_fmt (pv 1)) (PJ.cons pe_str PJ.nil)))) pa_nil, ?_⟩
  have L : (sL n).length ≤ 100 := h1
  refine ⟨_, rfl, (by decide +kernel), _, rfl, .inl ⟨_, rfl, ?_, ?_⟩⟩
  · exact fits (by omega)
  · have e1 := PySem.Str.length_append (Str.empty ++ Str.ofString "the name ") (sL n)
    have e2 : (Str.empty ++ Str.ofString "the name ").length ≤ 100 := by decide +kernel
    have e3 := PySem.Str.length_append ((Str.empty ++ Str.ofString "the name ") ++ sL n) (Str.ofString " exists already")
    have e4 : (Str.ofString " exists already").length ≤ 100 := by decide +kernel
    exact ⟨_, rfl, fits (by omega), _, rfl, fits (by omega), by show 1 ≤ 1000; omega, rfl⟩
end
section
variable {P : Program} {w : World} {K : PySem.W.Frag} {mg : Str → Option Value} {base : Heap} {f : Addr} {fd : FuncData}
abbrev s_ITInit : Stmt := inClass (top 3) 0
theorem sc_ITInit : SupScope ["self", "position"] (defScope s_ITInit) := ⟨rfl, rfl, rfl, by decide +kernel, by decide +kernel, by decide +kernel, by decide +kernel, by decide +kernel, fun x h => by
  have z : ∀ y ∈ (defScope s_ITInit).names, y.2 = .free → y.1 = ("__class__" : Str) := by decide +kernel
  exact z _ (PySem.mem_of_lookup h) rfl⟩
theorem ok_ITInit {C : Addr} (F : FunS P K mg "InvalidText" "InvalidText.__init__" s_ITInit ["self", "position"] C f fd) (hno : PySem.W.findIn K (.ref C) "position" = some none) : FnOk P w K mg base CX0 1 f fd ["self", "position"] (spS C "position" okInt) := by
  obtain ⟨oc, od, dV, kV, doc, pm, an, cda, ct, osl, cc, cl, cld, csl, ccl, cdd, cvs, ccs, file, tf, rfl, lk, hcd, hcode, hvs, hfile, hcell⟩ := F.ex
  refine ok_sup (sf := "self") (xn := "position") (fld := "position") lk hcd sc_ITInit rfl rfl hcode hvs hfile F.top hcell F.T F.mro F.sup F.any F.ini F.val hno (fun A outer s H E a v hv => ?_)
  obtain ⟨n, rfl, h1, h2⟩ := hv
  refine ⟨_, pa_cons (pe_joined (PJ.cons pe_str (PJ.cons (pe_fmt (pv 1)) PJ.nil))) pa_nil, ?_⟩
  have L : (Str.ofString (toString n)).length ≤ 12 := PyProof.Rows.toString_length_le h1 (by decide) h2
  have lg : n.natAbs.log2 < 1920 := by
    have a1 : n.natAbs < 2 ^ 40 := by
      have : (10 : Int) ^ 12 < 2 ^ 40 := by decide
      omega
    have := (Nat.log2_lt (n := n.natAbs) (k := 40))
    by_cases z : n.natAbs = 0
    · rw [z]; decide
    · have := (Nat.log2_lt z).mpr a1
      omega
  refine ⟨_, rfl, (by decide +kernel), _, rfl, .inr ⟨n, rfl, lg, _, rfl, ?_, ?_⟩⟩
  · rw [sizeLine_eq]
    have e := PySem.Str.length_append (Str.empty ++ Str.ofString "the text is wrong at position ") (Str.ofString (toString n))
    have e2 : (Str.empty ++ Str.ofString "the text is wrong at position ").length ≤ 100 := by decide +kernel
    have e3 : ((Str.empty ++ Str.ofString "the text is wrong at position ") ++ (toString n : Str)).length = _ := e
    omega
  · exact ⟨by show 1 ≤ 1000; omega, rfl⟩
end
section
variable {P : Program} {w : World} {K : PySem.W.Frag} {mg : Str → Option Value} {base : Heap} {f : Addr} {fd : FuncData}

abbrev s_PInit : Stmt := inClass (top 29) 0
abbrev s_PPair : Stmt := inClass (top 29) 1
abbrev s_PNum : Stmt := inClass (top 29) 2
theorem sc_PInit : FnScope ["self"] ["self"] (defScope s_PInit) := ⟨rfl, rfl, rfl, by decide +kernel, rfl, by decide +kernel, by decide +kernel⟩
theorem sc_PPair : FnScope ["self", "left", "right", "operands"] ["self", "left", "right"] (defScope s_PPair) := ⟨rfl, rfl, rfl, by decide +kernel, rfl, by decide +kernel, by decide +kernel⟩
theorem sc_PNum : FnScope ["self", "term"] ["self", "term"] (defScope s_PNum) := ⟨rfl, rfl, rfl, by decide +kernel, rfl, by decide +kernel, by decide +kernel⟩
theorem ok_PInit {C : Addr} (F : Fun K "__init__" "Pool.__init__" s_PInit f fd) (T : PoolT K mg C) : FnOk P w K mg base CX0 1 f fd ["self"] (spPInit K C) := by
  refine F.ok sc_PInit (fun vs H Q E h => ?_) (fun cdv A outer s H vs Q E hr h => ?_)
  · obtain ⟨_, _, _, rfl, _⟩ := h
    rfl
  obtain ⟨H0, x, dx, rfl, s0, x0, hx, q⟩ := h
  refine ⟨_, pss_cons (ps_fld (pv 0) pe_dnewT rfl) (pss_cons (ps_fld (pv 0) (pe_lst (pa_cons (pe_tup pa_nil) pa_nil)) rfl) (pss_cons (ps_fld (pv 0) (pe_lst (pa_cons pe_int pa_nil)) rfl) (pss_one (ps_fld (pv 0) (pe_lst (pa_cons (pe_tup pa_nil) pa_nil)) rfl)))), ?_⟩
  intro d hd
  have nxd : x ≠ d := ne_of_none hx hd
  refine ⟨_, rfl, x, C, dx, [], rfl, (by rw [upd_ne nxd]; exact hx), T.cl, T.n1, (by show 0 < 1000; decide), ?_⟩
  have d0 : H0 d = none := s0.free hd
  have k1 : ∀ q o, q ≠ x → H q = some o → (upd (upd H d (.dT [])) x (.ins C dx (putF "numbers" (.ref d) []))) q = some o := fun q o nq e => by
    rw [upd_ne nq, upd_ne (ne_of_none e hd)]
    exact e
  have hd1 : (upd (upd H d (.dT [])) x (.ins C dx (putF "numbers" (.ref d) []))) d = some (.dT []) := by rw [upd_ne nxd.symm, upd_same]
  have hx1 : (upd (upd H d (.dT [])) x (.ins C dx (putF "numbers" (.ref d) []))) x = some (.ins C dx (putF "numbers" (.ref d) [])) := upd_same
  generalize (upd (upd H d (.dT [])) x (.ins C dx (putF "numbers" (.ref d) []))) = H1 at *
  refine ⟨zero_le', fun q1 hq1 => ⟨one_le, fun a ha => ?_⟩⟩
  have sq1 := (Same.new hq1 (.tup [])).trans (Same.new ha (.lst [.ref q1]))
  have a0 : H0 a = none := by
    cases e : H0 a with
    | none => rfl
    | some o =>
      have := (Same.new hq1 (.tup [])) _ _ (k1 a o (fun z => by rw [z, x0] at e; cases e) (s0 _ _ e))
      rw [ha] at this
      cases this
  have hq1' : (upd (upd H1 q1 (.tup [])) a (.lst [.ref q1])) q1 = some (.tup []) := (Same.new ha _) _ _ upd_same
  have ha' : (upd (upd H1 q1 (.tup [])) a (.lst [.ref q1])) a = some (.lst [.ref q1]) := upd_same
  have k2 : ∀ q o, q ≠ x → H q = some o → (upd (upd H1 q1 (.tup [])) a (.lst [.ref q1])) q = some o := fun q o nq e => sq1 _ _ (k1 q o nq e)
  have hd2 := sq1 _ _ hd1
  have hx2 := sq1 _ _ hx1
  generalize (upd (upd H1 q1 (.tup [])) a (.lst [.ref q1])) = H2 at *
  refine ⟨_, rfl, x, C, dx, _, rfl, hx2, T.cl, T.n2, (by show 1 < 1000; decide), ?_⟩
  have nax : a ≠ x := ne_of ha' hx2 (by intro z; cases z)
  have ndx : d ≠ x := nxd.symm
  have nqx : q1 ≠ x := ne_of hq1' hx2 (by intro z; cases z)
  have k3 : ∀ q o, q ≠ x → H q = some o → (upd H2 x (.ins C dx (putF "pairs" (.ref a) (putF "numbers" (.ref d) [])))) q = some o := fun q o nq e => by rw [upd_ne nq]; exact k2 q o nq e
  have hd3 : (upd H2 x (.ins C dx (putF "pairs" (.ref a) (putF "numbers" (.ref d) [])))) d = some (.dT []) := by rw [upd_ne ndx]; exact hd2
  have ha3 : (upd H2 x (.ins C dx (putF "pairs" (.ref a) (putF "numbers" (.ref d) [])))) a = some (.lst [.ref q1]) := by rw [upd_ne nax]; exact ha'
  have hq3 : (upd H2 x (.ins C dx (putF "pairs" (.ref a) (putF "numbers" (.ref d) [])))) q1 = some (.tup []) := by rw [upd_ne nqx]; exact hq1'
  have hx3 : (upd H2 x (.ins C dx (putF "pairs" (.ref a) (putF "numbers" (.ref d) [])))) x = some (.ins C dx (putF "pairs" (.ref a) (putF "numbers" (.ref d) []))) := upd_same
  generalize (upd H2 x (.ins C dx (putF "pairs" (.ref a) (putF "numbers" (.ref d) [])))) = H3 at *
  refine ⟨one_le, fun b hb => ?_⟩
  have sb := Same.new hb (.lst [.int 1])
  have b0 : H0 b = none := by
    cases e : H0 b with
    | none => rfl
    | some o =>
      have := k3 b o (fun z => by rw [z, x0] at e; cases e) (s0 _ _ e)
      rw [hb] at this
      cases this
  have hb4 : (upd H3 b (.lst [.int 1])) b = some (.lst [.int 1]) := upd_same
  have nbx : b ≠ x := (ne_of_none hx3 hb).symm
  have nab : a ≠ b := ne_of_none ha3 hb
  have k4 : ∀ q o, q ≠ x → H q = some o → (upd H3 b (.lst [.int 1])) q = some o := fun q o nq e => sb _ _ (k3 q o nq e)
  have hd4 := sb _ _ hd3
  have ha4 := sb _ _ ha3
  have hq4 := sb _ _ hq3
  have hx4 := sb _ _ hx3
  generalize (upd H3 b (.lst [.int 1])) = H4 at *
  refine ⟨_, rfl, x, C, dx, _, rfl, hx4, T.cl, T.n3, (by show 2 < 1000; decide), ?_⟩
  have k5 : ∀ q o, q ≠ x → H q = some o → (upd H4 x (.ins C dx (putF "sizes" (.ref b) (putF "pairs" (.ref a) (putF "numbers" (.ref d) []))))) q = some o := fun q o nq e => by rw [upd_ne nq]; exact k4 q o nq e
  have hd5 : (upd H4 x (.ins C dx (putF "sizes" (.ref b) (putF "pairs" (.ref a) (putF "numbers" (.ref d) []))))) d = some (.dT []) := by rw [upd_ne ndx]; exact hd4
  have ha5 : (upd H4 x (.ins C dx (putF "sizes" (.ref b) (putF "pairs" (.ref a) (putF "numbers" (.ref d) []))))) a = some (.lst [.ref q1]) := by rw [upd_ne nax]; exact ha4
  have hq5 : (upd H4 x (.ins C dx (putF "sizes" (.ref b) (putF "pairs" (.ref a) (putF "numbers" (.ref d) []))))) q1 = some (.tup []) := by rw [upd_ne nqx]; exact hq4
  have hb5 : (upd H4 x (.ins C dx (putF "sizes" (.ref b) (putF "pairs" (.ref a) (putF "numbers" (.ref d) []))))) b = some (.lst [.int 1]) := by rw [upd_ne nbx]; exact hb4
  have hx5 : (upd H4 x (.ins C dx (putF "sizes" (.ref b) (putF "pairs" (.ref a) (putF "numbers" (.ref d) []))))) x = some (.ins C dx (putF "sizes" (.ref b) (putF "pairs" (.ref a) (putF "numbers" (.ref d) [])))) := upd_same
  generalize (upd H4 x (.ins C dx (putF "sizes" (.ref b) (putF "pairs" (.ref a) (putF "numbers" (.ref d) []))))) = H5 at *
  refine ⟨zero_le', fun q2 hq2 => ⟨one_le, fun c hc => ?_⟩⟩
  have sc := (Same.new hq2 (.tup [])).trans (Same.new hc (.lst [.ref q2]))
  have c0 : H0 c = none := by
    cases e : H0 c with
    | none => rfl
    | some o =>
      have := (Same.new hq2 (.tup [])) _ _ (k5 c o (fun z => by rw [z, x0] at e; cases e) (s0 _ _ e))
      rw [hc] at this
      cases this
  have hq26 : (upd (upd H5 q2 (.tup [])) c (.lst [.ref q2])) q2 = some (.tup []) := (Same.new hc _) _ _ upd_same
  have hc6 : (upd (upd H5 q2 (.tup [])) c (.lst [.ref q2])) c = some (.lst [.ref q2]) := upd_same
  have nac : a ≠ c := ne_of_none ((Same.new hq2 _) _ _ ha5) hc
  have nbc : b ≠ c := ne_of_none ((Same.new hq2 _) _ _ hb5) hc
  have hd6 := sc _ _ hd5
  have ha6 := sc _ _ ha5
  have hb6 := sc _ _ hb5
  have hq6 := sc _ _ hq5
  have hx6 := sc _ _ hx5
  have k6 : ∀ q o, q ≠ x → H q = some o → (upd (upd H5 q2 (.tup [])) c (.lst [.ref q2])) q = some o := fun q o nq e => sc _ _ (k5 q o nq e)
  generalize (upd (upd H5 q2 (.tup [])) c (.lst [.ref q2])) = H6 at *
  have ncx : c ≠ x := ne_of hc6 hx6 (by intro z; cases z)
  have nq2x : q2 ≠ x := ne_of hq26 hx6 (by intro z; cases z)
  refine ⟨_, rfl, x, C, dx, _, rfl, hx6, T.cl, T.n4, (by show 3 < 1000; decide), ?_⟩
  refine q d a b c _ ⟨dx, [], [.ref q1], [.ref q2], upd_same, ?_, ?_, ?_, ?_, nab, nac, nbc, ⟨rfl, rfl, (fun i l r h => by simp at h), List.nodup_nil⟩, ⟨rfl, ⟨q1, rfl, SqT.here ?_⟩, fun i l r h => by simp at h⟩, .cons (ta_leaf (SqT.here ?_)) .nil⟩ (fun q o e => ?_) d0 a0 b0 c0
  · rw [upd_ne ndx]
    exact hd6
  · rw [upd_ne nax]
    exact ha6
  · rw [upd_ne nbx]
    exact hb6
  · rw [upd_ne ncx]
    exact hc6
  · rw [upd_ne nqx]
    exact hq6
  · rw [upd_ne nq2x]
    exact hq26
  · have nq : q ≠ x := fun z => by
      rw [z, x0] at e
      cases e
    rw [upd_ne nq]
    exact k6 q o nq (s0 _ _ e)
theorem ok_PPair {C : Addr} (F : Fun K "pair" "Pool.pair" s_PPair f fd) (T : PoolT K mg C) (B : Blt mg) : FnOk P w K mg base CX0 1 f fd ["self", "left", "right"] (spPair K C) := by
  refine F.ok sc_PPair (fun vs H Q E h => ?_) (fun cdv A outer s H vs Q E hr h => ?_)
  · obtain ⟨_, _, _, _, _, _, _, _, _, _, rfl, _⟩ := h
    rfl
  obtain ⟨x, d, a, b, c, l, r, ts, tl, tr, rfl, hP, hlen, hl, hr', q⟩ := h
  refine ⟨_, pss_cons (ps_set (i := 3) sc_PPair.nd rfl (Or.inl rfl) (pe_tup (pa_cons (pv 1) (pa_cons (pv 2) pa_nil))))
    (pss_cons (ps_if (pt_cmp (pc_dnotin (hu_of hr) (pv 3) (pe_fld (pv 0) rfl)))
      (pss_cons (ps_dput (hu_of hr) (pe_fld (pv 0) rfl) (pv 3) (pe_callB call_len_seq (by rfl) B.len PySem.boot_len (pa_cons (pe_fld (pv 0) rfl) pa_nil)) rfl)
      (pss_cons (ps_expr (pe_bm PySem.F.plainAttrs_list PySem.F.slot_list_append PySem.F.type_list_append mt_append (pe_fld (pv 0) rfl) (pa_cons (pv 3) pa_nil)))
      (pss_cons (ps_expr (pe_bm PySem.F.plainAttrs_list PySem.F.slot_list_append PySem.F.type_list_append mt_append (pe_fld (pv 0) rfl) (pa_cons (pe_op op_add (pe_ix ix_list (pe_fld (pv 0) rfl) (pv 1) (fun _ _ => rfl)) (pe_ix ix_list (pe_fld (pv 0) rfl) (pv 2) (fun _ _ => rfl))) pa_nil)))
      (pss_one (ps_expr (pe_bm PySem.F.plainAttrs_list PySem.F.slot_list_append PySem.F.type_list_append mt_append (pe_fld (pv 0) rfl) (pa_cons (pe_tup (pa_cons (pe_ix ix_list (pe_fld (pv 0) rfl) (pv 1) (fun _ _ => rfl)) (pa_cons (pe_ix ix_list (pe_fld (pv 0) rfl) (pv 2) (fun _ _ => rfl)) pa_nil))) pa_nil))))))) pss_nil)
    (pss_one (ps_ret (pe_dget (hu_of hr) (pe_fld (pv 0) rfl) (pv 3) (fun _ _ => rfl))))), ?_⟩
  refine ⟨_, rfl, _, rfl, two_le, fun o ho => ?_⟩
  have so := Same.new ho (.tup [.int (l : Nat), .int (r : Nat)])
  have hP1 := hP.same so
  have ho1 : (upd H o (.tup [.int (l : Nat), .int (r : Nat)])) o = some (.tup ((key2 l r).map kV)) := upd_same
  generalize (upd H o (.tup [.int (l : Nat), .int (r : Nat)])) = H1 at *
  obtain ⟨dx, es, ps, cs, hx, hd, ha, hb, hc, nab, nac, nbc, gd, op, dd⟩ := id hP1
  refine ⟨_, rfl, _, rfl, x, C, dx, _, _, rfl, hx, T.cl, T.n1, pf_n _ _ _ _, d, _, rfl, DGet.t (k := key2 l r) hd ho1, _, rfl, ?_⟩
  cases e : valV (kv es 1) (key2 l r) with
  | some v =>
    obtain ⟨n, rfl, hn⟩ := kv_some es 1 l r v e
    have hg := DGet.t (k := key2 l r) hd ho1
    rw [e] at hg
    refine iteF ⟨_, rfl, x, C, dx, _, _, rfl, hx, T.cl, T.n1, pf_n _ _ _ _, _, rfl, d, _, rfl, hg, ?_⟩
    · obtain ⟨tl', tr', h1, h2, h3⟩ := gd.pair n l r hn
      have e1 : tl' = tl := Option.some.inj (h1.symm.trans hl)
      have e2 : tr' = tr := Option.some.inj (h2.symm.trans hr')
      subst e1 e2
      exact q (n + 1) ts H1 hP1 (Ex4.same so) (fun _ _ h => h) h3 (Nat.le_succ _)
  | none =>
    have hk := val_none e
    have lts := gd.len
    have lps := op.len
    have les : es.length ≤ 1000000 := by omega
    have eput : putK (kv es 1) (key2 l r) (.int ((ps.length : Nat) : Int)) = kv (es ++ [(l, r)]) 1 := by
      unfold putK
      rw [hk, if_neg Bool.false_ne_true, kv_snoc, lps, Nat.add_comm]
    have hput := DPut.t (v := V.int ((ps.length : Nat) : Int)) (k := key2 l r) hd ho1 (by rw [kv_len]; exact mil les)
    rw [eput] at hput
    have nda : d ≠ a := ne_of hd ha (by intro z; cases z)
    have ndb : d ≠ b := ne_of hd hb (by intro z; cases z)
    have ndc : d ≠ c := ne_of hd hc (by intro z; cases z)
    have ndx : x ≠ d := ne_of hx hd (by intro z; cases z)
    have nxa : x ≠ a := ne_of hx ha (by intro z; cases z)
    have nxb : x ≠ b := ne_of hx hb (by intro z; cases z)
    have nxc : x ≠ c := ne_of hx hc (by intro z; cases z)
    have nod : o ≠ d := ne_of ho1 hd (by intro z; cases z)
    have noa : o ≠ a := ne_of ho1 ha (by intro z; cases z)
    have nob : o ≠ b := ne_of ho1 hb (by intro z; cases z)
    have noc : o ≠ c := ne_of ho1 hc (by intro z; cases z)
    have il : l < ts.length := (List.getElem?_eq_some_iff.mp hl).1
    have ir : r < ts.length := (List.getElem?_eq_some_iff.mp hr').1
    have al : atI (ts.map fun t => V.int (t.sz : Nat)) (l : Int) = some (.int (tl.sz : Nat)) := atI_nat (by rw [List.getElem?_map, hl]; rfl)
    have ar : atI (ts.map fun t => V.int (t.sz : Nat)) (r : Int) = some (.int (tr.sz : Nat)) := atI_nat (by rw [List.getElem?_map, hr']; rfl)
    obtain ⟨vl, evl, dvl⟩ := dpAll_at dd l tl.d (by rw [List.getElem?_map, hl]; rfl)
    obtain ⟨vr, evr, dvr⟩ := dpAll_at dd r tr.d (by rw [List.getElem?_map, hr']; rfl)
    have lcs := dpAll_len dd
    rw [List.length_map] at lcs
    refine iteT ?_
    -- self.numbers[operands] = len(self.pairs)
    refine ⟨_, rfl, x, C, dx, _, _, rfl, hx, T.cl, T.n2, pf_p _ _ _ _, a, _, rfl, .inl (SqL.here ha), _, rfl, x, C, dx, _, _, rfl, hx, T.cl, T.n1, pf_n _ _ _ _, _, rfl, d, _, rfl, hput, ?_⟩
    have ex2 : Ex4 d a b c H1 (upd H1 d (.dT (kv (es ++ [(l, r)]) 1))) := fun q' o' e' n1 _ _ _ => by rw [upd_ne n1]; exact e'
    have hx2 : (upd H1 d (.dT (kv (es ++ [(l, r)]) 1))) x = some (.ins C dx (pf d a b c)) := by rw [upd_ne ndx]; exact hx
    have hd2 : (upd H1 d (.dT (kv (es ++ [(l, r)]) 1))) d = some (.dT (kv (es ++ [(l, r)]) 1)) := upd_same
    have ha2 : (upd H1 d (.dT (kv (es ++ [(l, r)]) 1))) a = some (.lst ps) := by rw [upd_ne nda.symm]; exact ha
    have hb2 : (upd H1 d (.dT (kv (es ++ [(l, r)]) 1))) b = some (.lst (ts.map fun t => V.int (t.sz : Nat))) := by rw [upd_ne ndb.symm]; exact hb
    have hc2 : (upd H1 d (.dT (kv (es ++ [(l, r)]) 1))) c = some (.lst cs) := by rw [upd_ne ndc.symm]; exact hc
    have ho2 : (upd H1 d (.dT (kv (es ++ [(l, r)]) 1))) o = some (.tup ((key2 l r).map kV)) := by rw [upd_ne nod]; exact ho1
    generalize (upd H1 d (.dT (kv (es ++ [(l, r)]) 1))) = H2 at *
    -- self.pairs.append(operands)
    refine ⟨_, rfl, x, C, dx, _, _, rfl, hx2, T.cl, T.n2, pf_p _ _ _ _, .inl ⟨rfl, _, SqL.here ha2⟩, _, rfl, a, _, _, rfl, rfl, ha2, mil (by omega), ?_⟩
    have ex3 : Ex4 d a b c H1 (upd H2 a (.lst (ps ++ [.ref o]))) := fun q' o' e' n1 n2 n3 n4 => by rw [upd_ne n2]; exact ex2 q' o' e' n1 n2 n3 n4
    have hx3 : (upd H2 a (.lst (ps ++ [.ref o]))) x = some (.ins C dx (pf d a b c)) := by rw [upd_ne nxa]; exact hx2
    have hd3 : (upd H2 a (.lst (ps ++ [.ref o]))) d = some (.dT (kv (es ++ [(l, r)]) 1)) := by rw [upd_ne nda]; exact hd2
    have ha3 : (upd H2 a (.lst (ps ++ [.ref o]))) a = some (.lst (ps ++ [.ref o])) := upd_same
    have hb3 : (upd H2 a (.lst (ps ++ [.ref o]))) b = some (.lst (ts.map fun t => V.int (t.sz : Nat))) := by rw [upd_ne nab.symm]; exact hb2
    have hc3 : (upd H2 a (.lst (ps ++ [.ref o]))) c = some (.lst cs) := by rw [upd_ne nac.symm]; exact hc2
    have ho3 : (upd H2 a (.lst (ps ++ [.ref o]))) o = some (.tup ((key2 l r).map kV)) := by rw [upd_ne noa]; exact ho2
    generalize (upd H2 a (.lst (ps ++ [.ref o]))) = H3 at *
    -- self.sizes.append(..)
    refine ⟨_, rfl, x, C, dx, _, _, rfl, hx3, T.cl, T.n3, pf_s _ _ _ _, .inl ⟨rfl, _, SqL.here hb3⟩, _, rfl, x, C, dx, _, _, rfl, hx3, T.cl, T.n3, pf_s _ _ _ _, _, rfl, b, _, _, _, rfl, rfl, SqL.here hb3, al, _, rfl, x, C, dx, _, _, rfl, hx3, T.cl, T.n3, pf_s _ _ _ _, _, rfl, b, _, _, _, rfl, rfl, SqL.here hb3, ar, _, _, rfl, rfl, b, _, _, rfl, rfl, hb3, mil (by rw [List.length_map]; omega), ?_⟩
    have esz : ((ts.map fun t => V.int (t.sz : Nat)) ++ [V.int ((tl.sz : Int) + (tr.sz : Int))]) = (ts ++ [Tree.N tl tr]).map fun t => V.int (t.sz : Nat) := by
      rw [List.map_append]
      show _ = _ ++ [V.int (((tl.sz + tr.sz : Nat) : Nat) : Int)]
      rw [Int.natCast_add]
    have ex4 : Ex4 d a b c H1 (upd H3 b (.lst ((ts.map fun t => V.int (t.sz : Nat)) ++ [V.int ((tl.sz : Int) + (tr.sz : Int))]))) := fun q' o' e' n1 n2 n3 n4 => by rw [upd_ne n3]; exact ex3 q' o' e' n1 n2 n3 n4
    have hx4 : (upd H3 b (.lst ((ts.map fun t => V.int (t.sz : Nat)) ++ [V.int ((tl.sz : Int) + (tr.sz : Int))]))) x = some (.ins C dx (pf d a b c)) := by rw [upd_ne nxb]; exact hx3
    have hd4 : (upd H3 b (.lst ((ts.map fun t => V.int (t.sz : Nat)) ++ [V.int ((tl.sz : Int) + (tr.sz : Int))]))) d = some (.dT (kv (es ++ [(l, r)]) 1)) := by rw [upd_ne ndb]; exact hd3
    have ha4 : (upd H3 b (.lst ((ts.map fun t => V.int (t.sz : Nat)) ++ [V.int ((tl.sz : Int) + (tr.sz : Int))]))) a = some (.lst (ps ++ [.ref o])) := by rw [upd_ne nab]; exact ha3
    have hb4 : (upd H3 b (.lst ((ts.map fun t => V.int (t.sz : Nat)) ++ [V.int ((tl.sz : Int) + (tr.sz : Int))]))) b = some (.lst ((ts ++ [Tree.N tl tr]).map fun t => V.int (t.sz : Nat))) := by rw [upd_same, esz]
    have hc4 : (upd H3 b (.lst ((ts.map fun t => V.int (t.sz : Nat)) ++ [V.int ((tl.sz : Int) + (tr.sz : Int))]))) c = some (.lst cs) := by rw [upd_ne nbc.symm]; exact hc3
    have ho4 : (upd H3 b (.lst ((ts.map fun t => V.int (t.sz : Nat)) ++ [V.int ((tl.sz : Int) + (tr.sz : Int))]))) o = some (.tup ((key2 l r).map kV)) := by rw [upd_ne nob]; exact ho3
    clear esz
    generalize (upd H3 b (.lst ((ts.map fun t => V.int (t.sz : Nat)) ++ [V.int ((tl.sz : Int) + (tr.sz : Int))]))) = H4 at *
    -- self.terms.append(..)
    refine ⟨_, rfl, x, C, dx, _, _, rfl, hx4, T.cl, T.n4, pf_t _ _ _ _, .inl ⟨rfl, _, SqL.here hc4⟩, _, rfl, x, C, dx, _, _, rfl, hx4, T.cl, T.n4, pf_t _ _ _ _, _, rfl, c, _, _, _, rfl, rfl, SqL.here hc4, atI_nat evl, _, rfl, x, C, dx, _, _, rfl, hx4, T.cl, T.n4, pf_t _ _ _ _, _, rfl, c, _, _, _, rfl, rfl, SqL.here hc4, atI_nat evr, two_le, fun q2 hq2 => ?_⟩
    have sq2 := Same.new hq2 (.tup [vl, vr])
    have nq2c : q2 ≠ c := (ne_of_none hc4 hq2).symm
    refine ⟨c, _, _, rfl, rfl, sq2 _ _ hc4, mil (by omega), ?_⟩
    have ex6 : Ex4 d a b c H1 (upd (upd H4 q2 (.tup [vl, vr])) c (.lst (cs ++ [.ref q2]))) := fun q' o' e' n1 n2 n3 n4 => by rw [upd_ne n4]; exact sq2 _ _ (ex4 q' o' e' n1 n2 n3 n4)
    have hx6 : (upd (upd H4 q2 (.tup [vl, vr])) c (.lst (cs ++ [.ref q2]))) x = some (.ins C dx (pf d a b c)) := by rw [upd_ne nxc]; exact sq2 _ _ hx4
    have hd6 : (upd (upd H4 q2 (.tup [vl, vr])) c (.lst (cs ++ [.ref q2]))) d = some (.dT (kv (es ++ [(l, r)]) 1)) := by rw [upd_ne ndc]; exact sq2 _ _ hd4
    have ha6 : (upd (upd H4 q2 (.tup [vl, vr])) c (.lst (cs ++ [.ref q2]))) a = some (.lst (ps ++ [.ref o])) := by rw [upd_ne nac]; exact sq2 _ _ ha4
    have hb6 : (upd (upd H4 q2 (.tup [vl, vr])) c (.lst (cs ++ [.ref q2]))) b = some (.lst ((ts ++ [Tree.N tl tr]).map fun t => V.int (t.sz : Nat))) := by rw [upd_ne nbc]; exact sq2 _ _ hb4
    have hc6 : (upd (upd H4 q2 (.tup [vl, vr])) c (.lst (cs ++ [.ref q2]))) c = some (.lst (cs ++ [.ref q2])) := upd_same
    have ho6 : (upd (upd H4 q2 (.tup [vl, vr])) c (.lst (cs ++ [.ref q2]))) o = some (.tup ((key2 l r).map kV)) := by rw [upd_ne noc]; exact sq2 _ _ ho4
    have hq6 : (upd (upd H4 q2 (.tup [vl, vr])) c (.lst (cs ++ [.ref q2]))) q2 = some (.tup [vl, vr]) := by rw [upd_ne nq2c, upd_same]
    generalize (upd (upd H4 q2 (.tup [vl, vr])) c (.lst (cs ++ [.ref q2]))) = H6 at *
    have tp := hP1.tp ex6
    have hg := DGet.t (k := key2 l r) hd6 ho6
    have ev : valV (kv (es ++ [(l, r)]) 1) (key2 l r) = some (.int ((es.length + 1 : Nat) : Int)) := by
      rw [kv_snoc, Nat.add_comm]
      exact val_snoc e
    rw [ev] at hg
    refine ⟨_, rfl, x, C, dx, _, _, rfl, hx6, T.cl, T.n1, pf_n _ _ _ _, _, rfl, d, _, rfl, hg, ?_⟩
    have pre : Pre ts (ts ++ [Tree.N tl tr]) := fun i t h => by
      have hi := (List.getElem?_eq_some_iff.mp h).1
      rw [List.getElem?_append_left hi]
      exact h
    have last : (ts ++ [Tree.N tl tr])[es.length + 1]? = some (.N tl tr) := by
      rw [← lts, List.getElem?_append_right (Nat.le_refl _), Nat.sub_self]
      rfl
    refine q (es.length + 1) (ts ++ [Tree.N tl tr]) H6 ⟨dx, es ++ [(l, r)], ps ++ [.ref o], cs ++ [.ref q2], hx6, hd6, ha6, hb6, hc6, nab, nac, nbc, ⟨?_, pre _ _ gd.zero, fun i l' r' h => ?_, nodup_snoc gd.nd (kv_none es 1 l r e)⟩, ⟨?_, ?_, fun i l' r' h => ?_⟩, ?_⟩ ((Ex4.same so).trans ex6) pre last (by rw [List.length_append]; exact Nat.le_refl _)
    · rw [List.length_append, List.length_append, lts]
      rfl
    · by_cases hi : i < es.length
      · rw [List.getElem?_append_left hi] at h
        obtain ⟨t1, t2, h1, h2, h3⟩ := gd.pair i l' r' h
        exact ⟨t1, t2, pre _ _ h1, pre _ _ h2, pre _ _ h3⟩
      · have ei : i = es.length := by
          have := (List.getElem?_eq_some_iff.mp h).1
          rw [List.length_append, List.length_singleton] at this
          omega
        subst ei
        rw [List.getElem?_append_right (Nat.le_refl _), Nat.sub_self] at h
        cases h
        exact ⟨tl, tr, pre _ _ hl, pre _ _ hr', last⟩
    · rw [List.length_append, List.length_append, lps]
      rfl
    · obtain ⟨q0, h1, h2⟩ := op.zero
      exact ⟨q0, by rw [List.getElem?_append_left (by omega)]; exact h1, tp.sqT h2⟩
    · by_cases hi : i < es.length
      · rw [List.getElem?_append_left hi] at h
        obtain ⟨q0, h1, h2⟩ := op.pair i l' r' h
        exact ⟨q0, by rw [List.getElem?_append_left (by omega)]; exact h1, tp.sqT h2⟩
      · have ei : i = es.length := by
          have := (List.getElem?_eq_some_iff.mp h).1
          rw [List.length_append, List.length_singleton] at this
          omega
        subst ei
        rw [List.getElem?_append_right (Nat.le_refl _), Nat.sub_self] at h
        cases h
        exact ⟨o, by rw [← lps, List.getElem?_append_right (Nat.le_refl _), Nat.sub_self]; rfl, SqT.here ho6⟩
    · rw [List.map_append]
      exact dpAll_snoc (dpAll_tp tp dd) (ta_node (SqT.here hq6) (ta_mono tp dvl) (ta_mono tp dvr))
theorem ok_PNum {C fP : Addr} {fdP : FuncData} (F : Fun K "number_of" "Pool.number_of" s_PNum f fd) (bN : Binds K fd ["self", "term"] []) (mN : Meth K C "number_of" f) (T : PoolT K mg C) (B : Blt mg) (GEN : ∃ t, mg "GENERATOR" = some (.int 0 t))
    (FP : Fun K "pair" "Pool.pair" s_PPair fP fdP) (bP : Binds K fdP ["self", "left", "right"] []) (mP : Meth K C "pair" fP) : ∀ n : Nat, FnOk P w K mg base CX0 (n + 1) f fd ["self", "term"] (spNum K C n)
  | 0 => fn_none fun vs H Q E h => by
    obtain ⟨_, _, _, _, _, _, _, _, _, _, _, h, _⟩ := h
    omega
  | n + 1 => by
    have GN := ok_PNum F bN mN T B GEN FP bP mP n
    have GP : FnOk P w K mg base CX0 1 fP fdP ["self", "left", "right"] (spPair K C) := ok_PPair FP T B
    obtain ⟨tg, C_GENERATOR⟩ := GEN
    refine F.ok sc_PNum (fun vs H Q E h => ?_) (fun cdv A outer s H vs Q E hr h => ?_)
    · obtain ⟨_, _, _, _, _, _, _, _, rfl, _⟩ := h
      rfl
    obtain ⟨x, d, a, b, c, v, t, ts, rfl, hP, ht, hd, hn, hlen, q⟩ := h
    refine ⟨_, pss_cons (ps_if (pt_cmpR (op_eqD hr.units) (pv 1) (pe_tup pa_nil) (nomark _)) (pss_one (ps_ret (pe_glob (v := .int 0) rfl C_GENERATOR ⟨_, rfl⟩))) pss_nil)
      (pss_one (ps_ret (pe_meth (pv 0) T.cl mP GP (hr.mono (by omega)) bP .nil pass0 (pa_cons (pe_meth (pv 0) T.cl mN GN hr bN .nil pass0 (pa_cons (pe_ix ix_tup (pv 1) pe_int (fun _ _ => rfl)) pa_nil)) (pa_cons (pe_meth (pv 0) T.cl mN GN hr bN .nil pass0 (pa_cons (pe_ix ix_tup (pv 1) pe_int (fun _ _ => rfl)) pa_nil)) pa_nil))))), ?_⟩
    refine ⟨_, rfl, zero_le', fun p hp => ⟨t.d, .tuple [], ta_mono (Tp.same (Same.new hp _)) ht, Dp.tup (SqT.here upd_same) .nil, Tree.shaped (by omega), shapedE, _, rfl, ite_eq (Tree.eqvL t) ?_⟩⟩
    have s1 := Same.new hp (.tup [])
    have hP1 := hP.same s1
    have n1 : ∀ {z : Str}, z = "number_of" ∨ z = "pair" → (pf d a b c).lookup z = none := fun {z} hz => by
      rcases hz with rfl | rfl
      · exact pf_no _ _ _ _ (by decide +kernel) (by decide +kernel) (by decide +kernel) (by decide +kernel)
      · exact pf_no _ _ _ _ (by decide +kernel) (by decide +kernel) (by decide +kernel) (by decide +kernel)
    cases t with
    | L =>
      obtain ⟨dx, es, ps, cs, hx, r1, r2, r3, r4, r5, r6, r7, gd, r8⟩ := id hP1
      exact iteT (q 0 ts _ hP1 (Ex4.same s1) (fun _ _ h => h) gd.zero (Nat.le_add_right _ _))
    | N l r =>
      have hd : max l.dp r.dp + 1 < n + 1 := hd
      have hlen : ts.length + (l.nodes + r.nodes + 1) ≤ 1000000 := hlen
      obtain ⟨qq, x1, x2, rfl, hS, hL, hR⟩ := ta_invN (ta_mono (Tp.same s1) ht)
      obtain ⟨dx, es, ps, cs, hx, _⟩ := id hP1
      refine iteF ⟨_, rfl, x, dx, _, rfl, hx, n1 (.inr rfl), _, rfl, x, dx, _, rfl, hx, n1 (.inl rfl), _, rfl, qq, _, 0, _, rfl, rfl, hS, rfl, x, d, a, b, c, x1, l, ts, rfl, hP1, hL, by omega, by omega, by omega, fun m1 ts1 H2 P2 e2 pr2 hm1 ln1 => ?_⟩
      have tp2 := hP1.tp e2
      obtain ⟨dx2, es2, ps2, cs2, hx2, _⟩ := id P2
      refine ⟨_, rfl, x, dx2, _, rfl, hx2, n1 (.inl rfl), _, rfl, qq, _, 1, _, rfl, rfl, tp2.sqT hS, rfl, x, d, a, b, c, x2, r, ts1, rfl, P2, ta_mono tp2 hR, by omega, by omega, by omega, fun m2 ts2 H3 P3 e3 pr3 hm2 ln2 => ?_⟩
      refine ⟨x, d, a, b, c, m1, m2, ts2, l, r, rfl, P3, by omega, pr3 _ _ hm1, hm2, fun m ts3 H4 P4 e4 pr4 hm ln3 => ?_⟩
      exact q m ts3 H4 P4 ((((Ex4.same s1).trans e2).trans e3).trans e4) ((pr2.trans pr3).trans pr4) hm (by show ts3.length ≤ ts.length + (l.nodes + r.nodes + 1); omega)
abbrev s_is_pair : Stmt := top 19
theorem sc_is_pair : FnScope ["part"] ["part"] (defScope s_is_pair) := ⟨rfl, rfl, rfl, by decide +kernel, rfl, by decide +kernel, by decide +kernel⟩
theorem ok_is_pair (d : D K mg "is_pair" s_is_pair ["part"] f fd) (B : Blt mg) : FnOk P w K mg base CX0 1 f fd ["part"] (spIsPairD K) := by
  refine d.F.ok sc_is_pair (fun vs H Q E h => ?_) (fun cdv A outer s H vs Q E hr h => ?_)
  · obtain ⟨_, _, rfl, _⟩ := h
    rfl
  obtain ⟨v, d, rfl, ha, q⟩ := h
  refine ⟨_, (pss_one (ps_ret (pe_and (pe_callB call_isi (by rfl) B.isinstance (by decide +kernel) (pa_cons (pv 0) (pa_cons (pe_bltn (v := .ty "tuple") (by rfl) B.tuple (by decide +kernel) rfl) pa_nil))) (pe_one (pe_cmpR op_eq (pe_callB call_len_seq (by rfl) B.len PySem.boot_len (pa_cons (pv 0) pa_nil)) pe_int (nomark _)))))), ?_⟩
  obtain ⟨a, xs, ds, rfl, rfl, hS, hA⟩ := ha.inv
  have hx : decide (V.int ((xs.length : Nat) : Int) = V.int 2) = isPr (.tuple ds) := by
    rw [dpAll_len hA]
    match ds with
    | [] => rfl
    | [_] => rfl
    | [_, _] => rfl
    | _ :: _ :: _ :: r =>
      show decide (V.int (((r.length + 1 + 1 + 1 : Nat)) : Int) = V.int 2) = false
      refine decide_eq_false fun z => ?_
      have z : ((r.length + 1 + 1 + 1 : Nat) : Int) = 2 := V.int.inj z
      omega
  refine ⟨_, rfl, _, _, _, _, true, rfl, .ty "tuple", tyx_tup hS, kit_ty (by decide +kernel), true, rfl, iteT ⟨_, rfl, a, _, rfl, .inr hS, rfl, ?_⟩⟩
  show Q (.bl (decide (V.int ((xs.length : Nat) : Int) = V.int 2))) H
  rw [hx]
  exact q

abbrev s_is_term : Stmt := top 18
theorem sc_is_term : FnScope ["term", "waiting", "size", "part", "depth"] ["term"] (defScope s_is_term) := ⟨rfl, rfl, rfl, by decide +kernel, rfl, by decide +kernel, by decide +kernel⟩
theorem ok_is_term {fp : Addr} {fpd : FuncData} (d : D K mg "is_term" s_is_term ["term"] f fd) (B : Blt mg) (C : Cst mg) (d_is_pair : D K mg "is_pair" s_is_pair ["part"] fp fpd) : FnOk P w K mg base CX0 2 f fd ["term"] (spIsTerm K) := by
  have G_is_pair : FnOk P w K mg base CX0 1 fp fpd ["part"] (spIsPairD K) := ok_is_pair d_is_pair B
  obtain ⟨⟨t1, C_MAX_SIZE⟩, ⟨t2, C_MAX_DEPTH⟩⟩ := C
  refine d.F.ok sc_is_term (fun vs H Q E h => ?_) (fun cdv A outer s H vs Q E hr h => ?_)
  · obtain ⟨_, _, rfl, _⟩ := h
    rfl
  obtain ⟨v, dd, rfl, ha, hz, q⟩ := h
  refine ⟨_, (pss_cons (ps_set (i := 1) sc_is_term.nd rfl (Or.inl rfl) (pe_lst (pa_cons (pe_tup (pa_cons (pv 0) (pa_cons pe_int pa_nil))) pa_nil)))
 (pss_cons (ps_set (i := 2) sc_is_term.nd rfl (Or.inl rfl) pe_int)
 (pss_cons (ps_while PassesOwn.never (pt_truth (pv 1) (by intro _; rfl)) (pss_cons (ps_asg (pe_bm0 PySem.F.plainAttrs_list PySem.F.slot_list_pop PySem.F.type_list_pop mt_pop (pv 1)) (pg_tup (by rfl) (pgs_cons (pg_name (i := 3) sc_is_term.nd rfl (Or.inl rfl)) (pgs_cons (pg_name (i := 4) sc_is_term.nd rfl (Or.inl rfl)) pgs_nil))))
 (pss_cons (ps_if (pt_cmpR (op_eqD hr.units) (pv 3) (pe_tup pa_nil) (nomark _)) (pss_one (ps_aug (i := 2) sc_is_term.nd rfl (Or.inl rfl) pe_int ip_add)) (pss_one (ps_if (PW.pt (pw_and (pt_val (pe_call G_is_pair (hr.mono (by decide)) rfl d_is_pair.m d_is_pair.F.kp d_is_pair.b .nil pass0 (pa_cons (pv 3) pa_nil))) (pw_and1 (pt_cmpR op_lt (pv 4) (pe_glob (v := .int 6) rfl C_MAX_DEPTH ⟨_, rfl⟩) (nomark _))))) (pss_cons (ps_expr (pe_bm PySem.F.plainAttrs_list PySem.F.slot_list_append PySem.F.type_list_append mt_append (pv 1) (pa_cons (pe_tup (pa_cons (pe_ix ix_tup (pv 3) pe_int (fun _ _ => rfl)) (pa_cons (pe_op op_add (pv 4) pe_int) pa_nil))) pa_nil)))
 (pss_one (ps_expr (pe_bm PySem.F.plainAttrs_list PySem.F.slot_list_append PySem.F.type_list_append mt_append (pv 1) (pa_cons (pe_tup (pa_cons (pe_ix ix_tup (pv 3) pe_int (fun _ _ => rfl)) (pa_cons (pe_op op_add (pv 4) pe_int) pa_nil))) pa_nil))))) (pss_one (ps_ret pe_bl)))))
 (pss_one (ps_if (pt_cmpR op_gt (pv 2) (pe_glob (v := .int 12) rfl C_MAX_SIZE ⟨_, rfl⟩) (nomark _)) (pss_one (ps_ret pe_bl)) pss_nil)))))
 (pss_one (ps_ret pe_bl))))), ?_⟩
  refine ⟨_, rfl, two_le, fun p hp => ⟨one_le, fun w hw => ?_⟩⟩
  have s1 := Same.new hp (.tup [v, .int 0])
  have s2 := s1.trans (Same.new hw (.lst [.ref p]))
  have hw0 : H w = none := s1.free hw
  refine ⟨fun m σ H' => ∃ (ps : List (V × PyData × Nat)) (n : Nat) (x y : Option V), σ = [some v, some (.ref w), some (.int (n : Int)), x, y] ∧ Same H H' ∧ H' w = some (.lst (ps.map (·.1))) ∧ (∀ p ∈ ps, ItemD K H' p) ∧ n ≤ 12 ∧ okd dd = fnl n (rem ps) ∧ ndn ps ≤ 1000 ∧ m = ndn ps,
    ⟨_, [(.ref p, dd, 0)], 0, none, none, rfl, s2, upd_same, ?_, by decide, okd_fnl _ _, ?_, rfl⟩, ?_⟩
  · intro z hz'
    cases List.mem_singleton.mp hz'
    exact ⟨p, v, rfl, (Tp.same (Same.new hw _)).sqT (SqT.here upd_same), ha.tp (Tp.same s2), by show 0 ≤ 6; omega⟩
  · show ndD dd + 0 ≤ 1000
    omega
  · rintro m σ H' ⟨ps, n, x, y, rfl, sm, hl, hI, hn, hs, hb, rfl⟩
    rcases List.eq_nil_or_concat ps with rfl | ⟨qs, z, rfl⟩
    · refine ⟨_, rfl, _, .inl ⟨_, SqL.here hl, rfl⟩, iteF ?_⟩
      have e : okd dd = true := by
        rw [hs]
        exact decide_eq_true (by omega)
      have q' := q H' sm
      rw [e] at q'
      exact q'
    · rw [List.concat_eq_append] at *
      rw [List.map_append] at hl
      refine ⟨_, rfl, true, .inl ⟨_, SqL.here hl, ?_⟩, iteT ?_⟩
      · cases qs <;> rfl
      have hIz := hI z (by simp)
      have hIq : ∀ p ∈ qs, ItemD K H' p := fun p hp => hI p (by simp [hp])
      obtain ⟨zv, zt, zd⟩ := z
      obtain ⟨a, u, ez, h2, h3, h4⟩ := hIz
      have ez' : zv = .ref a := ez
      subst ez'
      have h4 : zd ≤ 6 := h4
      have h3 : NT K H' u zt := h3
      have h2 : SqT K H' a [u, .int (zd : Int)] := h2
      have hs : okd dd = fnl n (add2 (rem qs) (szD (6 - zd) zt)) := by
        rw [rem_snoc] at hs
        exact hs
      have en : ndn (qs ++ [(V.ref a, zt, zd)]) = ndn qs + ndD zt := ndn_snoc _ _
      have hsz := ndn_len qs
      refine ⟨fun σ' H' => ∃ (ps : List (V × PyData × Nat)) (n : Nat) (x y : Option V), σ' = [some v, some (.ref w), some (.int (n : Int)), x, y] ∧ Same H H' ∧ H' w = some (.lst (ps.map (·.1))) ∧ (∀ p ∈ ps, ItemD K H' p) ∧ n ≤ 12 ∧ okd dd = fnl n (rem ps) ∧ ndn ps < ndn (qs ++ [(V.ref a, zt, zd)]), ?_, ?_⟩
      · rintro σ' H'' ⟨ps, n, x, y, e1, e2, e3, e4, e5, e6, e7⟩
        exact ⟨_, e7, ps, n, x, y, e1, e2, e3, e4, e5, e6, by omega, rfl⟩
      have tp1 : Tp H' (upd H' w (.lst (qs.map (·.1)))) := Tp.but hl But.set
      refine ⟨_, rfl, .inl ⟨rfl, _, SqL.here hl⟩, w, _, .ref a, rfl, rfl, hl, ?_, a, [u, .int zd], rfl, ?_, rfl, _, _, rfl, _, _, rfl, rfl, ?_⟩
      · simp
      · rw [List.dropLast_append_of_ne_nil (by simp)]
        simp only [List.map_cons, List.map_nil, List.dropLast_singleton, List.append_nil]
        exact tp1.sqT h2
      rw [List.dropLast_append_of_ne_nil (by simp)]
      simp only [List.map_cons, List.map_nil, List.dropLast_singleton, List.append_nil]
      have sm1 : Same H (upd H' w (.lst (qs.map (·.1)))) := fun b o e => by
        rw [upd_ne (ne_of_none e hw0)]
        exact sm _ _ e
      refine ⟨_, rfl, zero_le', fun p5 hp5 => ⟨zt, .tuple [], ((h3.tp tp1).tp (Tp.same (Same.new hp5 _))).dp, Dp.tup (SqT.here upd_same) .nil, h3.shp, shapedE, _, rfl, ?_⟩⟩
      refine ite_eq (eqvE h3.tup) ?_
      have tp2 : Tp (upd H' w (.lst (qs.map (·.1)))) (upd (upd H' w (.lst (qs.map (·.1)))) p5 (.tup [])) := Tp.same (Same.new hp5 _)
      have sm2 : Same H (upd (upd H' w (.lst (qs.map (·.1)))) p5 (.tup [])) := sm1.trans (Same.new hp5 _)
      have nw5 : w ≠ p5 := fun e => by
        rw [← e, upd_same] at hp5
        cases hp5
      have hl2 : (upd (upd H' w (.lst (qs.map (·.1)))) p5 (.tup [])) w = some (.lst (qs.map (·.1))) := by rw [upd_ne nw5, upd_same]
      have h3' := (h3.tp tp1).tp tp2
      generalize (upd (upd H' w (.lst (qs.map (·.1)))) p5 (.tup [])) = H2 at *
      cases eE : isE zt with
      | true =>
        have ezt : zt = .tuple [] := by
          obtain ⟨_, _, ds, _, rfl, _, _⟩ := h3.inv
          cases ds with
          | nil => rfl
          | cons _ _ => exact absurd eE (by simp [isE])
        subst ezt
        rw [szD_E, fnl_one] at hs
        refine iteT ⟨_, rfl, _, _, rfl, rfl, _, rfl, _, _, rfl, rfl, _, rfl, ?_⟩
        refine ite2 (fun c => ?_) (fun c => ?_)
        · have c : (n : Int) + 1 > 12 := of_decide_eq_true c
          have q' := q H2 sm2
          rw [hs, fnl_big (by omega)] at q'
          exact q'
        · have c : ¬ (n : Int) + 1 > 12 := fun z => c (decide_eq_true z)
          refine ⟨qs, n + 1, _, _, rfl, sm2, hl2, fun p hp => (hIq p hp).mono (tp1.trans tp2), by omega, hs, ?_⟩
          rw [en]
          exact Nat.lt_succ_self _
      | false =>
        refine iteF ⟨_, rfl, _, _, rfl, h3', _, rfl, ?_⟩
        cases eP : isPr zt with
        | false =>
          refine iteF ?_
          have q' := q H2 sm2
          rw [hs, szD_bad eE (.inl eP), add2_none] at q'
          exact q'
        | true =>
          refine iteT ⟨_, rfl, _, _, rfl, rfl, _, rfl, ?_⟩
          refine ite2 (fun c => ?_) (fun c => ?_)
          rotate_left
          · have c : ¬ (zd : Int) < 6 := fun z => c (decide_eq_true z)
            have q' := q H2 sm2
            rw [hs, szD_bad eE (.inr (by omega)), add2_none] at q'
            exact q'
          have c : (zd : Int) < 6 := of_decide_eq_true c
          obtain ⟨b, x1, x2, d1, d2, rfl, rfl, hS, hL, hR⟩ := h3'.pr eP
          rw [show 6 - zd = (6 - (zd + 1)) + 1 by omega, szD_pr, ← add2_assoc] at hs
          have en2 : ndD (.tuple [d1, d2]) = ndD d1 + (ndD d2 + 0) + 1 := rfl
          refine ⟨_, rfl, .inl ⟨rfl, _, SqL.here hl2⟩, _, rfl, b, _, 0, _, rfl, rfl, hS, rfl, _, rfl, _, _, rfl, rfl, two_le, fun p6 hp6 => ?_⟩
          have tp3 : Tp H2 (upd H2 p6 (.tup [x1, .int ((zd : Int) + 1)])) := Tp.same (Same.new hp6 _)
          have nw6 : w ≠ p6 := ne_of_none hl2 hp6
          refine ⟨w, _, _, rfl, rfl, (by rw [upd_ne nw6]; exact hl2), (by rw [List.length_map]; exact small1000 (by omega)), ?_⟩
          have hl3 : (upd (upd H2 p6 (.tup [x1, .int ((zd : Int) + 1)])) w (.lst (qs.map (·.1) ++ [.ref p6]))) w = some (.lst (qs.map (·.1) ++ [.ref p6])) := upd_same
          have tp4 : Tp (upd H2 p6 (.tup [x1, .int ((zd : Int) + 1)])) (upd (upd H2 p6 (.tup [x1, .int ((zd : Int) + 1)])) w (.lst (qs.map (·.1) ++ [.ref p6]))) := Tp.but (by rw [upd_ne nw6]; exact hl2) But.set
          have sm4 : Same H (upd (upd H2 p6 (.tup [x1, .int ((zd : Int) + 1)])) w (.lst (qs.map (·.1) ++ [.ref p6]))) := fun b o e => by
            rw [upd_ne (ne_of_none e hw0)]
            exact (sm2.trans (Same.new hp6 _)) _ _ e
          have h6 : SqT K (upd (upd H2 p6 (.tup [x1, .int ((zd : Int) + 1)])) w (.lst (qs.map (·.1) ++ [.ref p6]))) p6 [x1, .int ((zd : Int) + 1)] := tp4.sqT (SqT.here upd_same)
          have tp24 : Tp H2 _ := tp3.trans tp4
          generalize (upd (upd H2 p6 (.tup [x1, .int ((zd : Int) + 1)])) w (.lst (qs.map (·.1) ++ [.ref p6]))) = H4 at *
          refine ⟨_, rfl, .inl ⟨rfl, _, SqL.here hl3⟩, _, rfl, b, _, 1, _, rfl, rfl, tp24.sqT hS, rfl, _, rfl, _, _, rfl, rfl, two_le, fun p7 hp7 => ?_⟩
          have tp5 : Tp H4 (upd H4 p7 (.tup [x2, .int ((zd : Int) + 1)])) := Tp.same (Same.new hp7 _)
          have nw7 : w ≠ p7 := ne_of_none hl3 hp7
          refine ⟨w, _, _, rfl, rfl, (by rw [upd_ne nw7]; exact hl3), (by rw [List.length_append, List.length_map, List.length_singleton]; exact small1000 (by omega)), ?_⟩
          have tp6 : Tp (upd H4 p7 (.tup [x2, .int ((zd : Int) + 1)])) (upd (upd H4 p7 (.tup [x2, .int ((zd : Int) + 1)])) w (.lst ((qs.map (·.1) ++ [.ref p6]) ++ [.ref p7]))) := Tp.but (by rw [upd_ne nw7]; exact hl3) But.set
          refine ⟨_, rfl, _, _, rfl, rfl, _, rfl, ?_⟩
          refine ite_no (decide_eq_false (by omega)) ?_
          refine ⟨qs ++ [(.ref p6, d1, zd + 1)] ++ [(.ref p7, d2, zd + 1)], n, _, _, rfl, fun b o e => ?_, ?_, ?_, hn, ?_, ?_⟩
          · rw [upd_ne (ne_of_none e hw0)]
            exact (sm4.trans (Same.new hp7 _)) _ _ e
          · rw [upd_same, List.map_append, List.map_append]
            rfl
          · intro z hz'
            rcases List.mem_append.mp hz' with hz' | hz'
            · rcases List.mem_append.mp hz' with hz' | hz'
              · exact (hIq z hz').mono (((tp1.trans tp2).trans tp24).trans (tp5.trans tp6))
              · cases List.mem_singleton.mp hz'
                exact ⟨p6, x1, rfl, (tp5.trans tp6).sqT h6, (hL.tp tp24).tp (tp5.trans tp6), by show zd + 1 ≤ 6; omega⟩
            · cases List.mem_singleton.mp hz'
              exact ⟨p7, x2, rfl, tp6.sqT (SqT.here upd_same), (hR.tp tp24).tp (tp5.trans tp6), by show zd + 1 ≤ 6; omega⟩
          · rw [rem_snoc, rem_snoc]
            exact hs
          · rw [ndn_snoc, ndn_snoc, en, en2]
            show ndn qs + ndD d1 + ndD d2 < ndn qs + (ndD d1 + (ndD d2 + 0) + 1)
            omega

abbrev s_check_term : Stmt := top 20
theorem sc_check_term : FnScope ["term"] ["term"] (defScope s_check_term) := ⟨rfl, rfl, rfl, by decide +kernel, rfl, by decide +kernel, by decide +kernel⟩
theorem ok_check_term {fp fi C0 : Addr} {fpd fid : FuncData} (d : D K mg "check_term" s_check_term ["term"] f fd) (B : Blt mg) (C : Cst mg) (EC : ErrC K mg "InvalidTerm" C0) (d_is_pair : D K mg "is_pair" s_is_pair ["part"] fp fpd) (d_is_term : D K mg "is_term" s_is_term ["term"] fi fid) : FnOk P w K mg base (L2N.CX P w) 3 f fd ["term"] (spChk K C0) := by
  have G_is_term : FnOk P w K mg base CX0 2 fi fid ["term"] (spIsTerm K) := ok_is_term d_is_term B C d_is_pair
  refine Fun.okN d.F sc_check_term (fun vs H Q E h => ?_) (fun cdv A outer s H vs Q E hr h => ?_)
  · obtain ⟨_, _, rfl, _⟩ := h
    rfl
  obtain ⟨v, dd, rfl, ha, hz, h1, h2⟩ := h
  refine ⟨_, (pss_one (ps_if (pt_not (pt_val (pe_call G_is_term (hr.mono (by decide)) rfl d_is_term.m d_is_term.F.kp d_is_term.b .nil pass0 (pa_cons (pv 0) pa_nil)))) (pss_one (L2N.ps_raise rfl (L2N.takes_of rfl rfl rfl rfl) (L2N.pmk_own PySem.F.excBase_ValueError EC.q EC.g EC.k (raises_own EC.b EC.t) (by exact rfl)))) pss_nil)), ?_⟩
  refine ⟨_, rfl, v, dd, rfl, ha, hz, fun H' sm => ⟨_, rfl, ?_⟩⟩
  cases e : okd dd with
  | true => exact iteF (h1 e H' sm)
  | false => exact iteT (h2 e H' sm)

abbrev s_check_path : Stmt := top 32
theorem sc_check_path : FnScope ["path"] ["path"] (defScope s_check_path) := ⟨rfl, rfl, rfl, by decide +kernel, rfl, by decide +kernel, by decide +kernel⟩
theorem ok_check_path {CP : Addr} {tk : Tok} (d : D K mg "check_path" s_check_path ["path"] f fd) (B : Blt mg) (C_MAX_PATH : mg "MAX_PATH" = some (.int 60 tk)) (EC : ErrC K mg "InvalidPath" CP) : FnOk P w K mg base (L2N.CX P w) 1 f fd ["path"] (spChkP CP) := by
  refine Fun.okN d.F sc_check_path (fun vs H Q E h => ?_) (fun cdv A outer s H vs Q E hr h => ?_)
  · obtain ⟨_, rfl, _⟩ := h
    rfl
  obtain ⟨z, rfl, hl, h1, h2⟩ := h
  refine ⟨_, (pss_one (ps_if (PW.pt (pw_or (pt_cmpR op_gt (pe_callB call_len_str (by rfl) B.len PySem.boot_len (pa_cons (pv 0) pa_nil)) (pe_glob (v := .int 60) rfl C_MAX_PATH ⟨_, rfl⟩) (nomark _)) (pw_or1 (pt_cmpR op_ne (pe_bm PySem.F.plainAttrs_str PySem.F.slot_str_strip PySem.F.type_str_strip mt_stripChars (pv 0) (pa_cons pe_str pa_nil)) pe_str (nomark _))))) (pss_one (L2N.ps_raise rfl (L2N.takes_of rfl rfl rfl rfl) (L2N.pmk_own PySem.F.excBase_ValueError EC.q EC.g EC.k (raises_own EC.b EC.t) (by exact rfl)))) pss_nil)), ?_⟩
  have e0 : okp z = (decide (z.length ≤ 60) && decide (V.str (Txt.stripChars z (Str.ofString "01")) = V.str (Str.ofString ""))) := rfl
  refine ⟨_, rfl, z, rfl, fits (by omega), _, _, rfl, rfl, _, rfl, ?_⟩
  refine ite2 (fun c => ?_) (fun c => ?_)
  · have c : (z.length : Int) > 60 := of_decide_eq_true c
    exact h2 (by rw [e0, decide_eq_false (by omega)]; rfl)
  · have c : ¬ (z.length : Int) > 60 := fun y => c (decide_eq_true y)
    rw [decide_eq_true (by omega), Bool.true_and] at e0
    refine ⟨_, rfl, rfl, _, _, rfl, rfl, fits (by omega), rfl, _, rfl, ?_⟩
    cases e : decide (V.str (Txt.stripChars z (Str.ofString "01")) = V.str (Str.ofString "")) with
    | true => exact iteF (h1 (e0.trans e))
    | false => exact iteT (h2 (e0.trans e))

abbrev s_numbers_along : Stmt := top 33
theorem sc_numbers_along : FnScope ["pool", "number", "path", "along", "turn", "operands"] ["pool", "number", "path"] (defScope s_numbers_along) := ⟨rfl, rfl, rfl, by decide +kernel, rfl, by decide +kernel, by decide +kernel⟩
theorem ok_numbers_along {C CP CN f1 : Addr} {e1 : FuncData} {tk : Tok} (d_numbers_along : D K mg "numbers_along" s_numbers_along ["pool", "number", "path"] f fd) (T : PoolT K mg C) (B : Blt mg) (C_MAX_PATH : mg "MAX_PATH" = some (.int 60 tk)) (EP : ErrC K mg "InvalidPath" CP) (EN : ErrC K mg "PathNotFound" CN) (d_check_path : D K mg "check_path" s_check_path ["path"] f1 e1) : FnOk P w K mg base (L2N.CX P w) 2 f fd ["pool", "number", "path"] (spAl8 K C CP CN) := by
  have G_check_path : FnOk P w K mg base (L2N.CX P w) 1 f1 e1 ["path"] (spChkP CP) := ok_check_path d_check_path B C_MAX_PATH EP
  refine Fun.okN d_numbers_along.F sc_numbers_along (fun vs H Q E h => ?_) (fun cdv A outer s H vs Q E hr h => ?_)
  · obtain ⟨_, _, _, _, _, _, _, _, _, rfl, _⟩ := h
    rfl
  obtain ⟨x, d, a, b, c, m, z, ts, t, rfl, hz, hP, hm, hW⟩ := h
  refine ⟨_, (pss_cons (ps_expr (pe_call G_check_path (hr.mono (by decide)) rfl d_check_path.m d_check_path.F.kp d_check_path.b .nil passD (pa_cons (pv 2) pa_nil)))
 (pss_cons (ps_set (i := 3) sc_numbers_along.nd rfl (Or.inl rfl) (pe_lst (pa_cons (pv 1) pa_nil)))
 (pss_cons (ps_for (passes_of rfl) rfl (pi_str (pv 2)) (pg_name (i := 4) sc_numbers_along.nd rfl (Or.inl rfl))
  (pss_cons (ps_set (i := 5) sc_numbers_along.nd rfl (Or.inl rfl) (pe_ix ix_list (pe_fld (pv 0) rfl) (pe_ix ix_list (pv 3) (pe_un un_neg pe_int) (fun _ _ => rfl)) (fun _ _ => rfl)))
 (pss_cons (ps_if (pt_cmpR (op_eqD hr.units) (pv 5) (pe_tup pa_nil) (nomark _)) (pss_one (L2N.ps_raise rfl (L2N.takes_of rfl rfl rfl rfl) (L2N.pmk_own PySem.F.excBase_ValueError EN.q EN.g EN.k (raises_own EN.b EN.t) (by exact rfl)))) pss_nil)
 (pss_one (ps_expr (pe_bm PySem.F.plainAttrs_list PySem.F.slot_list_append PySem.F.type_list_append mt_append (pv 3) (pa_cons (pe_ix ix_tup (pv 5) (pe_callTy call_int_str (by rfl) B.int (by decide +kernel) (pa_cons (pv 4) pa_nil)) (fun _ _ => rfl)) pa_nil)))))))
 (pss_one (ps_ret (pv 3)))))), ?_⟩
  rcases hW with ⟨bad, hE⟩ | ⟨p, rfl, hp, hN, hR⟩
  · exact ⟨_, rfl, z, rfl, hz, fun ok => (by rw [bad] at ok; cases ok), fun _ => hE H (Same.refl _)⟩
  refine ⟨_, rfl, ptx p, rfl, hz, fun _ => ?_, fun no => (by rw [okp_ptx hp] at no; cases no)⟩
  refine ⟨_, rfl, one_le, fun l nl => ?_⟩
  have sl := Same.new nl (.lst [.int (m : Int)])
  refine ⟨_, rfl, ptx p, rfl, for_S (z := ptx p) (fun j σ G => ∃ (x4 x5 : Option V) (ks : List Nat) (k : Nat) (u : Tree), σ = [some (.ref x), some (.int m), some (.str (ptx p)), some (.ref l), x4, x5] ∧ Same H G ∧ G l = some (.lst (ks.map jV ++ [.int (k : Int)])) ∧ ks.length = j ∧ ts[k]? = some u ∧ t.st (p.take j) = some u ∧ ∀ j' u', j' ≤ j → t.st (p.take j') = some u' → ∃ k', (ks ++ [k])[j']? = some k' ∧ ts[k']? = some u') ⟨none, none, [], m, t, rfl, sl, upd_same, rfl, hm, Tree.st_nil t, fun j' u' h1 h2 => ?_⟩ ?_ ?_⟩
  · obtain rfl : j' = 0 := by omega
    rw [List.take_zero, Tree.st_nil] at h2
    cases h2
    exact ⟨m, rfl, hm⟩
  · rintro j cp σ G hc ⟨x4, x5, ms, k, u, rfl, sm, hl, hj, hk, hst, hall⟩
    obtain ⟨bb, hb, rfl⟩ := pcs_at p j cp hc
    obtain ⟨hjp, eb⟩ := List.getElem?_eq_some_iff.mp hb
    have etk : p.take (j + 1) = p.take j ++ [bb] := by rw [List.take_succ_eq_append_getElem hjp, eb]
    have stp : ∀ v, u.st [bb] = v → t.st (p.take (j + 1)) = v := fun v h => by
      rw [etk, Tree.st_app, hst]
      exact h
    have hPG := hP.same sm
    obtain ⟨dx, ps, qq, ops, hx, ha, hpm, hS, hops⟩ := hPG.at hk
    have last : atI (ms.map jV ++ [V.int (k : Int)]) (-1) = some (.int (k : Int)) := atI_last _ _
    refine ⟨_, rfl, x, C, dx, _, _, rfl, hx, T.cl, T.n2, pf_p _ _ _ _, _, rfl, _, rfl, l, _, _, _, rfl, rfl, SqL.here hl, last, a, _, _, _, rfl, rfl, SqL.here ha, atI_nat hpm, ?_⟩
    refine ⟨_, rfl, zero_le', fun p5 hp5 => ?_⟩
    have s5 := Same.new hp5 (.tup [])
    cases u with
    | L =>
      have hops : ops = [] := hops
      subst hops
      refine ⟨.tuple [], .tuple [], ops_L ((Tp.same s5).sqT hS), Dp.tup (SqT.here upd_same) .nil, shapedE, shapedE, true, rfl, iteT ?_⟩
      refine hN ?_ _ (sm.trans s5)
      rw [show p = p.take j ++ p.drop j from (List.take_append_drop j p).symm, Tree.st_app, hst, List.drop_eq_getElem_cons hjp]
      rfl
    | N ul ur =>
      obtain ⟨il, ir, rfl, hul, hur⟩ := hops
      refine ⟨_, .tuple [], ops_N ((Tp.same s5).sqT hS), Dp.tup (SqT.here upd_same) .nil, ops_sh _ _, shapedE, false, rfl, iteF ?_⟩
      have hl5 := s5 _ _ hl
      have hl0 : H l = none := nl
      have hlt : (ms.map jV ++ [V.int (k : Int)]).length < sizeLine := by
        rw [List.length_append, List.length_singleton, List.length_map, hj]
        exact small1000 (by omega)
      have sm6 : ∀ w : V, Same H (upd (upd G p5 (.tup [])) l (.lst ((ms.map jV ++ [V.int (k : Int)]) ++ [w]))) := fun w b' o' e' => by
        rw [upd_ne (ne_of_none e' hl0)]
        exact (sm.trans s5) _ _ e'
      have emap : ∀ w : Nat, (ms.map jV ++ [V.int (k : Int)]) ++ [V.int (w : Int)] = (ms ++ [k]).map jV ++ [.int (w : Int)] := fun w => by rw [List.map_append]; rfl
      have hl2 : (ms ++ [k]).length = j + 1 := by rw [List.length_append, hj]; rfl
      have nxt : ∀ (w : Nat) (u2 : Tree), ts[w]? = some u2 → t.st (p.take (j + 1)) = some u2 → ∀ j' u', j' ≤ j + 1 → t.st (p.take j') = some u' → ∃ k', ((ms ++ [k]) ++ [w])[j']? = some k' ∧ ts[k']? = some u' := fun w u2 h1 h2 j' u' h3 h4 => by
        rcases Nat.lt_or_ge j' (j + 1) with z | z
        · obtain ⟨k', e1, e2⟩ := hall j' u' (by omega) h4
          exact ⟨k', by rw [List.getElem?_append_left (by omega)]; exact e1, e2⟩
        · obtain rfl : j' = j + 1 := by omega
          rw [h2] at h4
          cases h4
          exact ⟨w, by rw [List.getElem?_append_right (by omega), hl2, Nat.sub_self]; rfl, h1⟩
      cases bb with
      | false =>
        refine ⟨_, rfl, .inl ⟨rfl, _, SqL.here hl5⟩, _, rfl, _, rfl, _, 0, rfl, by decide +kernel, (by show 1 ≤ 640; decide), qq, _, _, _, rfl, rfl, (Tp.same s5).sqT hS, rfl, l, _, _, rfl, rfl, hl5, hlt, ?_⟩
        have e2 := stp _ (show (Tree.N ul ur).st [false] = some ul from Tree.st_nil ul)
        exact ⟨_, _, ms ++ [k], il, ul, rfl, sm6 _, by rw [upd_same, ← emap], hl2, hul, e2, nxt il ul hul e2⟩
      | true =>
        refine ⟨_, rfl, .inl ⟨rfl, _, SqL.here hl5⟩, _, rfl, _, rfl, _, 1, rfl, by decide +kernel, (by show 1 ≤ 640; decide), qq, _, _, _, rfl, rfl, (Tp.same s5).sqT hS, rfl, l, _, _, rfl, rfl, hl5, hlt, ?_⟩
        have e2 := stp _ (show (Tree.N ul ur).st [true] = some ur from Tree.st_nil ur)
        exact ⟨_, _, ms ++ [k], ir, ur, rfl, sm6 _, by rw [upd_same, ← emap], hl2, hur, e2, nxt ir ur hur e2⟩
  · rintro σ G ⟨x4, x5, ms, k, u, rfl, sm, hl, hj, hk, hst, hall⟩
    rw [ptx_size] at hj hst hall
    rw [List.take_of_length_le (Nat.le_refl _)] at hst
    refine ⟨_, rfl, hR u hst l (ms ++ [k]) G sm nl (by rw [hl, List.map_append]; rfl) (by rw [List.length_append, hj]; rfl) hall⟩

abbrev s_expanded : Stmt := top 37
theorem sc_expanded : FnScope ["pool", "number", "acting", "right", "first", "second"] ["pool", "number"] (defScope s_expanded) := ⟨rfl, rfl, rfl, by decide +kernel, rfl, by decide +kernel, by decide +kernel⟩
theorem ok_expanded {C fP : Addr} {fdP : FuncData} (d_expanded : D K mg "expanded" s_expanded ["pool", "number"] f fd) (T : PoolT K mg C) (B : Blt mg) (FP : Fun K "pair" "Pool.pair" s_PPair fP fdP) (bP : Binds K fdP ["self", "left", "right"] []) (mP : Meth K C "pair" fP) : FnOk P w K mg base CX0 2 f fd ["pool", "number"] (spPR K C true) := by
  have GP : FnOk P w K mg base CX0 1 fP fdP ["self", "left", "right"] (spPair K C) := ok_PPair FP T B
  refine d_expanded.F.ok sc_expanded (fun vs H Q E h => ?_) (fun cdv A outer s H vs Q E hr h => ?_)
  · obtain ⟨_, _, _, _, _, _, _, _, rfl, _⟩ := h
    rfl
  obtain ⟨x, d, a, b, c, m, ts, t, rfl, hP, hlen, hm, hne, hN, hR⟩ := h
  have n1 : (pf d a b c).lookup ("pair" : Str) = none := pf_no _ _ _ _ (by decide +kernel) (by decide +kernel) (by decide +kernel) (by decide +kernel)
  refine ⟨_, (pss_cons (ps_asg (pe_ix ix_list (pe_fld (pv 0) rfl) (pv 1) (fun _ _ => rfl)) (pg_tup (by rfl) (pgs_cons (pg_name (i := 2) sc_expanded.nd rfl (Or.inl rfl)) (pgs_cons (pg_name (i := 3) sc_expanded.nd rfl (Or.inl rfl)) pgs_nil))))
 (pss_cons (ps_if (pt_cmpR (op_eqD hr.units) (pe_ix ix_list (pe_fld (pv 0) rfl) (pv 3) (fun _ _ => rfl)) (pe_tup pa_nil) (nomark _)) (pss_one (ps_ret pe_non)) pss_nil)
 (pss_cons (ps_asg (pe_ix ix_list (pe_fld (pv 0) rfl) (pv 3) (fun _ _ => rfl)) (pg_tup (by rfl) (pgs_cons (pg_name (i := 4) sc_expanded.nd rfl (Or.inl rfl)) (pgs_cons (pg_name (i := 5) sc_expanded.nd rfl (Or.inl rfl)) pgs_nil))))
 (pss_one (ps_ret (pe_meth (pv 0) T.cl mP GP (hr.mono (by omega)) bP .nil pass0 (pa_cons (pe_meth (pv 0) T.cl mP GP (hr.mono (by omega)) bP .nil pass0 (pa_cons (pv 2) (pa_cons (pv 4) pa_nil))) (pa_cons (pe_meth (pv 0) T.cl mP GP (hr.mono (by omega)) bP .nil pass0 (pa_cons (pv 2) (pa_cons (pv 5) pa_nil))) pa_nil)))))))), ?_⟩
  cases t with
  | L => exact absurd rfl hne
  | N ta tb =>
    obtain ⟨dx, ps, qq, ops, hx, ha, hpm, hS, il, ir, rfl, hul, hur⟩ := hP.at hm
    refine ⟨_, rfl, x, C, dx, _, _, rfl, hx, T.cl, T.n2, pf_p _ _ _ _, _, rfl, a, _, _, _, rfl, rfl, SqL.here ha, atI_nat hpm, qq, _, rfl, hS, rfl, _, _, rfl, _, _, rfl, rfl, ?_⟩
    obtain ⟨dx2, ps2, q2, ops2, hx2, ha2, hpm2, hS2, hops2⟩ := hP.at hur
    refine ⟨_, rfl, x, C, dx2, _, _, rfl, hx2, T.cl, T.n2, pf_p _ _ _ _, _, rfl, a, _, _, _, rfl, rfl, SqL.here ha2, atI_nat hpm2, zero_le', fun p5 hp5 => ?_⟩
    have s5 := Same.new hp5 (.tup [])
    cases tb with
    | L =>
      have hops2 : ops2 = [] := hops2
      subst hops2
      exact ⟨.tuple [], .tuple [], ops_L ((Tp.same s5).sqT hS2), Dp.tup (SqT.here upd_same) .nil, shapedE, shapedE, true, rfl, iteT (hN rfl _ s5)⟩
    | N tf tsd =>
      obtain ⟨i2, j2, rfl, hf, hsd⟩ := hops2
      refine ⟨_, .tuple [], ops_N ((Tp.same s5).sqT hS2), Dp.tup (SqT.here upd_same) .nil, ops_sh _ _, shapedE, false, rfl, iteF ?_⟩
      have hP5 := hP.same s5
      refine ⟨_, rfl, x, C, dx2, _, _, rfl, s5 _ _ hx2, T.cl, T.n2, pf_p _ _ _ _, _, rfl, a, _, _, _, rfl, rfl, SqL.here (s5 _ _ ha2), atI_nat hpm2, q2, _, rfl, (Tp.same s5).sqT hS2, rfl, _, _, rfl, _, _, rfl, rfl, ?_⟩
      refine ⟨_, rfl, x, dx2, _, rfl, s5 _ _ hx2, n1, _, rfl, x, dx2, _, rfl, s5 _ _ hx2, n1, _, rfl, _, rfl, x, d, a, b, c, il, i2, ts, ta, tf, rfl, hP5, by omega, hul, hf, fun k1 ts1 H1 P1 e1 pr1 hk1 ln1 => ?_⟩
      obtain ⟨dx3, _, _, _, hx3, _⟩ := id P1
      refine ⟨_, rfl, x, dx3, _, rfl, hx3, n1, _, rfl, _, rfl, x, d, a, b, c, il, j2, ts1, ta, tsd, rfl, P1, by omega, pr1 _ _ hul, pr1 _ _ hsd, fun k2 ts2 H2 P2 e2 pr2 hk2 ln2 => ?_⟩
      refine ⟨x, d, a, b, c, k1, k2, ts2, .N ta tf, .N ta tsd, rfl, P2, by omega, pr2 _ _ hk1, hk2, fun k3 ts3 H3 P3 e3 pr3 hk3 ln3 => ?_⟩
      exact hR (.N (.N ta tf) (.N ta tsd)) rfl k3 ts3 H3 P3 ((((Ex4.same s5).trans e1).trans e2).trans e3) ((pr1.trans pr2).trans pr3) hk3 (by omega)

abbrev s_contracted : Stmt := top 38
theorem sc_contracted : FnScope ["pool", "number", "left", "right", "acting", "first", "again", "second"] ["pool", "number"] (defScope s_contracted) := ⟨rfl, rfl, rfl, by decide +kernel, rfl, by decide +kernel, by decide +kernel⟩
theorem ok_contracted {C fP : Addr} {fdP : FuncData} (d_contracted : D K mg "contracted" s_contracted ["pool", "number"] f fd) (T : PoolT K mg C) (B : Blt mg) (FP : Fun K "pair" "Pool.pair" s_PPair fP fdP) (bP : Binds K fdP ["self", "left", "right"] []) (mP : Meth K C "pair" fP) : FnOk P w K mg base CX0 2 f fd ["pool", "number"] (spPR K C false) := by
  have GP : FnOk P w K mg base CX0 1 fP fdP ["self", "left", "right"] (spPair K C) := ok_PPair FP T B
  refine d_contracted.F.ok sc_contracted (fun vs H Q E h => ?_) (fun cdv A outer s H vs Q E hr h => ?_)
  · obtain ⟨_, _, _, _, _, _, _, _, rfl, _⟩ := h
    rfl
  obtain ⟨x, d, a, b, c, m, ts, t, rfl, hP, hlen, hm, hne, hN, hR⟩ := h
  have n1 : (pf d a b c).lookup ("pair" : Str) = none := pf_no _ _ _ _ (by decide +kernel) (by decide +kernel) (by decide +kernel) (by decide +kernel)
  refine ⟨_, (pss_cons (ps_asg (pe_ix ix_list (pe_fld (pv 0) rfl) (pv 1) (fun _ _ => rfl)) (pg_tup (by rfl) (pgs_cons (pg_name (i := 2) sc_contracted.nd rfl (Or.inl rfl)) (pgs_cons (pg_name (i := 3) sc_contracted.nd rfl (Or.inl rfl)) pgs_nil))))
 (pss_cons (ps_if (PW.pt (pw_or (pt_cmpR (op_eqD hr.units) (pe_ix ix_list (pe_fld (pv 0) rfl) (pv 2) (fun _ _ => rfl)) (pe_tup pa_nil) (nomark _)) (pw_or1 (pt_cmpR (op_eqD hr.units) (pe_ix ix_list (pe_fld (pv 0) rfl) (pv 3) (fun _ _ => rfl)) (pe_tup pa_nil) (nomark _))))) (pss_one (ps_ret pe_non)) pss_nil)
 (pss_cons (ps_asg (pe_ix ix_list (pe_fld (pv 0) rfl) (pv 2) (fun _ _ => rfl)) (pg_tup (by rfl) (pgs_cons (pg_name (i := 4) sc_contracted.nd rfl (Or.inl rfl)) (pgs_cons (pg_name (i := 5) sc_contracted.nd rfl (Or.inl rfl)) pgs_nil))))
 (pss_cons (ps_asg (pe_ix ix_list (pe_fld (pv 0) rfl) (pv 3) (fun _ _ => rfl)) (pg_tup (by rfl) (pgs_cons (pg_name (i := 6) sc_contracted.nd rfl (Or.inl rfl)) (pgs_cons (pg_name (i := 7) sc_contracted.nd rfl (Or.inl rfl)) pgs_nil))))
 (pss_cons (ps_if (pt_cmpR op_ne (pv 4) (pv 6) (nomark _)) (pss_one (ps_ret pe_non)) pss_nil)
 (pss_one (ps_ret (pe_meth (pv 0) T.cl mP GP (hr.mono (by omega)) bP .nil pass0 (pa_cons (pv 4) (pa_cons (pe_meth (pv 0) T.cl mP GP (hr.mono (by omega)) bP .nil pass0 (pa_cons (pv 5) (pa_cons (pv 7) pa_nil))) pa_nil)))))))))), ?_⟩
  cases t with
  | L => exact absurd rfl hne
  | N ta tb =>
    obtain ⟨dx, ps, qq, ops, hx, ha, hpm, hS, il, ir, rfl, hul, hur⟩ := hP.at hm
    refine ⟨_, rfl, x, C, dx, _, _, rfl, hx, T.cl, T.n2, pf_p _ _ _ _, _, rfl, a, _, _, _, rfl, rfl, SqL.here ha, atI_nat hpm, qq, _, rfl, hS, rfl, _, _, rfl, _, _, rfl, rfl, ?_⟩
    obtain ⟨dx2, ps2, q2, ops2, hx2, ha2, hpm2, hS2, hops2⟩ := hP.at hul
    refine ⟨_, rfl, x, C, dx2, _, _, rfl, hx2, T.cl, T.n2, pf_p _ _ _ _, _, rfl, a, _, _, _, rfl, rfl, SqL.here ha2, atI_nat hpm2, zero_le', fun p5 hp5 => ?_⟩
    have s5 := Same.new hp5 (.tup [])
    cases ta with
    | L =>
      have hops2 : ops2 = [] := hops2
      subst hops2
      exact ⟨.tuple [], .tuple [], ops_L ((Tp.same s5).sqT hS2), Dp.tup (SqT.here upd_same) .nil, shapedE, shapedE, true, rfl, iteT (hN rfl _ s5)⟩
    | N taa tab =>
      obtain ⟨i2, j2, rfl, haa, hab⟩ := hops2
      refine ⟨_, .tuple [], ops_N ((Tp.same s5).sqT hS2), Dp.tup (SqT.here upd_same) .nil, ops_sh _ _, shapedE, false, rfl, iteF ?_⟩
      have hP5 := hP.same s5
      obtain ⟨dx3, ps3, q3, ops3, hx3, ha3, hpm3, hS3, hops3⟩ := hP5.at hur
      refine ⟨_, rfl, x, C, dx3, _, _, rfl, hx3, T.cl, T.n2, pf_p _ _ _ _, _, rfl, a, _, _, _, rfl, rfl, SqL.here ha3, atI_nat hpm3, zero_le', fun p6 hp6 => ?_⟩
      have s6 := Same.new hp6 (.tup [])
      have s56 := s5.trans s6
      have hS2' := (Tp.same s56).sqT hS2
      have hS3' := (Tp.same s6).sqT hS3
      cases tb with
      | L =>
        have hops3 : ops3 = [] := hops3
        subst hops3
        exact ⟨.tuple [], .tuple [], ops_L hS3', Dp.tup (SqT.here upd_same) .nil, shapedE, shapedE, true, rfl, iteT (hN rfl _ s56)⟩
      | N tba tbb =>
        obtain ⟨i3, j3, rfl, hba, hbb⟩ := hops3
        refine ⟨_, .tuple [], ops_N hS3', Dp.tup (SqT.here upd_same) .nil, ops_sh _ _, shapedE, false, rfl, iteF ?_⟩
        have hP6 := hP5.same s6
        refine ⟨_, rfl, x, C, dx2, _, _, rfl, s56 _ _ hx2, T.cl, T.n2, pf_p _ _ _ _, _, rfl, a, _, _, _, rfl, rfl, SqL.here (s56 _ _ ha2), atI_nat hpm2, q2, _, rfl, hS2', rfl, _, _, rfl, _, _, rfl, rfl, ?_⟩
        refine ⟨_, rfl, x, C, dx3, _, _, rfl, s6 _ _ hx3, T.cl, T.n2, pf_p _ _ _ _, _, rfl, a, _, _, _, rfl, rfl, SqL.here (s6 _ _ ha3), atI_nat hpm3, q3, _, rfl, hS3', rfl, _, _, rfl, _, _, rfl, rfl, ?_⟩
        have er : Tree.r0 false (.N (.N taa tab) (.N tba tbb)) = if taa.eqb tba = true then some (.N taa (.N tab tbb)) else none := rfl
        by_cases e : taa = tba
        · subst e
          have ei := hP.inj haa hba
          subst ei
          rw [if_pos (Tree.eqb_refl _)] at er
          refine ⟨_, rfl, _, rfl, rfl, _, rfl, ite_no (by rw [decide_eq_true rfl]; rfl) ?_⟩
          have hx6 := s56 _ _ hx
          refine ⟨_, rfl, x, dx, _, rfl, hx6, n1, _, rfl, _, rfl, x, dx, _, rfl, hx6, n1, _, rfl, _, rfl, x, d, a, b, c, j2, j3, ts, tab, tbb, rfl, hP6, by omega, hab, hbb, fun k1 ts1 H1 P1 e1 pr1 hk1 ln1 => ?_⟩
          refine ⟨x, d, a, b, c, i2, k1, ts1, taa, .N tab tbb, rfl, P1, by omega, pr1 _ _ haa, hk1, fun k2 ts2 H2 P2 e2 pr2 hk2 ln2 => ?_⟩
          exact hR _ er k2 ts2 H2 P2 (((Ex4.same s56).trans e1).trans e2) (pr1.trans pr2) hk2 (by omega)
        · rw [if_neg (fun z => e (Tree.eqb_eq z))] at er
          have ne : i2 ≠ i3 := fun z => by
            rw [z, hba] at haa
            exact e (Option.some.inj haa).symm
          refine ⟨_, rfl, _, rfl, rfl, _, rfl, ite_yes ?_ (hN er _ s56)⟩
          show (!decide (V.int (i2 : Int) = V.int (i3 : Int))) = true
          rw [decide_eq_false fun z => ne (by have := V.int.inj z; omega)]
          rfl

abbrev s_rewritten : Stmt := top 36
theorem sc_rewritten : FnScope ["pool", "number", "expanding"] ["pool", "number", "expanding"] (defScope s_rewritten) := ⟨rfl, rfl, rfl, by decide +kernel, rfl, by decide +kernel, by decide +kernel⟩
theorem ok_rewritten {C fP f1 f2 : Addr} {fdP e1 e2 : FuncData} (d_rewritten : D K mg "rewritten" s_rewritten ["pool", "number", "expanding"] f fd) (T : PoolT K mg C) (B : Blt mg) (FP : Fun K "pair" "Pool.pair" s_PPair fP fdP) (bP : Binds K fdP ["self", "left", "right"] []) (mP : Meth K C "pair" fP) (d_expanded : D K mg "expanded" s_expanded ["pool", "number"] f1 e1) (d_contracted : D K mg "contracted" s_contracted ["pool", "number"] f2 e2) : FnOk P w K mg base CX0 3 f fd ["pool", "number", "expanding"] (spPW K C) := by
  have G_expanded : FnOk P w K mg base CX0 2 f1 e1 ["pool", "number"] (spPR K C true) := ok_expanded d_expanded T B FP bP mP
  have G_contracted : FnOk P w K mg base CX0 2 f2 e2 ["pool", "number"] (spPR K C false) := ok_contracted d_contracted T B FP bP mP
  refine d_rewritten.F.ok sc_rewritten (fun vs H Q E h => ?_) (fun cdv A outer s H vs Q E hr h => ?_)
  · obtain ⟨_, _, _, _, _, _, _, _, _, rfl, _⟩ := h
    rfl
  obtain ⟨x, d, a, b, c, m, on, ts, t, rfl, hP, hlen, hm, hN, hR⟩ := h
  refine ⟨_, (pss_cons (ps_if (pt_cmpR (op_eqD hr.units) (pe_ix ix_list (pe_fld (pv 0) rfl) (pv 1) (fun _ _ => rfl)) (pe_tup pa_nil) (nomark _)) (pss_one (ps_ret pe_non)) pss_nil)
 (pss_cons (ps_if (pt_truth (pv 2) (by intro _; rfl)) (pss_one (ps_ret (pe_call G_expanded (hr.mono (by decide)) rfl d_expanded.m d_expanded.F.kp d_expanded.b .nil pass0 (pa_cons (pv 0) (pa_cons (pv 1) pa_nil))))) pss_nil)
 (pss_one (ps_ret (pe_call G_contracted (hr.mono (by decide)) rfl d_contracted.m d_contracted.F.kp d_contracted.b .nil pass0 (pa_cons (pv 0) (pa_cons (pv 1) pa_nil))))))), ?_⟩
  obtain ⟨dx, ps, qq, ops, hx, ha, hpm, hS, hops⟩ := hP.at hm
  refine ⟨_, rfl, x, C, dx, _, _, rfl, hx, T.cl, T.n2, pf_p _ _ _ _, _, rfl, a, _, _, _, rfl, rfl, SqL.here ha, atI_nat hpm, zero_le', fun p5 hp5 => ?_⟩
  have s5 := Same.new hp5 (.tup [])
  cases t with
  | L =>
    have hops : ops = [] := hops
    subst hops
    exact ⟨.tuple [], .tuple [], ops_L ((Tp.same s5).sqT hS), Dp.tup (SqT.here upd_same) .nil, shapedE, shapedE, true, rfl, iteT (hN (by cases on <;> rfl) _ s5)⟩
  | N ta tb =>
    obtain ⟨i2, j2, rfl, h1, h2⟩ := hops
    refine ⟨_, .tuple [], ops_N ((Tp.same s5).sqT hS), Dp.tup (SqT.here upd_same) .nil, ops_sh _ _, shapedE, false, rfl, iteF ?_⟩
    have hP5 := hP.same s5
    cases on with
    | true => exact ⟨_, rfl, true, rfl, iteT ⟨_, rfl, _, rfl, x, d, a, b, c, m, ts, _, rfl, hP5, hlen, hm, (fun z => nomatch z), (fun z H' s' => hN z H' (s5.trans s')), fun u hu n ts' H' P' e' => hR u hu n ts' H' P' ((Ex4.same s5).trans e')⟩⟩
    | false => exact ⟨_, rfl, false, rfl, iteF ⟨_, rfl, _, rfl, x, d, a, b, c, m, ts, _, rfl, hP5, hlen, hm, (fun z => nomatch z), (fun z H' s' => hN z H' (s5.trans s')), fun u hu n ts' H' P' e' => hR u hu n ts' H' P' ((Ex4.same s5).trans e')⟩⟩

abbrev s_rewritten_at : Stmt := top 35
theorem sc_rewritten_at : FnScope ["pool", "number", "path", "expanding", "along", "result", "at", "left", "right"] ["pool", "number", "path", "expanding"] (defScope s_rewritten_at) := ⟨rfl, rfl, rfl, by decide +kernel, rfl, by decide +kernel, by decide +kernel⟩
theorem ok_rewritten_at {C CP CN CR fP f1 f2 f3 f4 f5 : Addr} {fdP e1 e2 e3 e4 e5 : FuncData} {tk : Tok} (d_rewritten_at : D K mg "rewritten_at" s_rewritten_at ["pool", "number", "path", "expanding"] f fd) (T : PoolT K mg C) (B : Blt mg) (C_MAX_PATH : mg "MAX_PATH" = some (.int 60 tk)) (EP : ErrC K mg "InvalidPath" CP) (EN : ErrC K mg "PathNotFound" CN) (ER : ErrC K mg "NotRewritable" CR)
    (FP : Fun K "pair" "Pool.pair" s_PPair fP fdP) (bP : Binds K fdP ["self", "left", "right"] []) (mP : Meth K C "pair" fP)
    (d_check_path : D K mg "check_path" s_check_path ["path"] f1 e1) (d_numbers_along : D K mg "numbers_along" s_numbers_along ["pool", "number", "path"] f2 e2) (d_expanded : D K mg "expanded" s_expanded ["pool", "number"] f3 e3) (d_contracted : D K mg "contracted" s_contracted ["pool", "number"] f4 e4) (d_rewritten : D K mg "rewritten" s_rewritten ["pool", "number", "expanding"] f5 e5) :
    FnOk P w K mg base (L2N.CX P w) 4 f fd ["pool", "number", "path", "expanding"] (spRA K C CP CN CR) := by
  have GP : FnOk P w K mg base CX0 1 fP fdP ["self", "left", "right"] (spPair K C) := ok_PPair FP T B
  have G_numbers_along : FnOk P w K mg base (L2N.CX P w) 2 f2 e2 ["pool", "number", "path"] (spAl8 K C CP CN) := ok_numbers_along d_numbers_along T B C_MAX_PATH EP EN d_check_path
  have G_rewritten : FnOk P w K mg base CX0 3 f5 e5 ["pool", "number", "expanding"] (spPW K C) := ok_rewritten d_rewritten T B FP bP mP d_expanded d_contracted
  refine Fun.okN d_rewritten_at.F sc_rewritten_at (fun vs H Q E h => ?_) (fun cdv A outer s H vs Q E hr h => ?_)
  · obtain ⟨_, _, _, _, _, _, _, _, _, _, rfl, _⟩ := h
    rfl
  obtain ⟨x, d, a, b, c, m, z, on, ts, t, rfl, hz, hP, hlen, hm, hW⟩ := h
  have n1 : (pf d a b c).lookup ("pair" : Str) = none := pf_no _ _ _ _ (by decide +kernel) (by decide +kernel) (by decide +kernel) (by decide +kernel)
  refine ⟨_, (pss_cons (ps_set (i := 4) sc_rewritten_at.nd rfl (Or.inl rfl) (pe_call G_numbers_along (hr.mono (by decide)) rfl d_numbers_along.m d_numbers_along.F.kp d_numbers_along.b .nil passD (pa_cons (pv 0) (pa_cons (pv 1) (pa_cons (pv 2) pa_nil)))))
 (pss_cons (ps_set (i := 5) sc_rewritten_at.nd rfl (Or.inl rfl) (pe_call G_rewritten (hr.mono (by decide)) rfl d_rewritten.m d_rewritten.F.kp d_rewritten.b .nil pass0 (pa_cons (pv 0) (pa_cons (pe_ix ix_list (pv 4) (pe_un un_neg pe_int) (fun _ _ => rfl)) (pa_cons (pv 3) pa_nil)))))
 (pss_cons (ps_if (pt_cmpR op_isN (pv 5) pe_non (nomark _)) (pss_one (L2N.ps_raise rfl (L2N.takes_of rfl rfl rfl rfl) (L2N.pmk_own PySem.F.excBase_ValueError ER.q ER.g ER.k (raises_own ER.b ER.t) (by exact rfl)))) pss_nil)
 (pss_cons (ps_for (passes_of rfl) rfl (pi_range3 (by rfl) B.range (pa_cons (pe_op op_sub (pe_callB call_len_str (by rfl) B.len PySem.boot_len (pa_cons (pv 2) pa_nil)) pe_int) (pa_cons (pe_un un_neg pe_int) (pa_cons (pe_un un_neg pe_int) pa_nil)))) (pg_name (i := 6) sc_rewritten_at.nd rfl (Or.inl rfl))
  (pss_cons (ps_asg (pe_ix ix_list (pe_fld (pv 0) rfl) (pe_ix ix_list (pv 4) (pv 6) (fun _ _ => rfl)) (fun _ _ => rfl)) (pg_tup (by rfl) (pgs_cons (pg_name (i := 7) sc_rewritten_at.nd rfl (Or.inl rfl)) (pgs_cons (pg_name (i := 8) sc_rewritten_at.nd rfl (Or.inl rfl)) pgs_nil))))
 (pss_one (ps_set (i := 5) sc_rewritten_at.nd rfl (Or.inl rfl) (pe_ifExp (pt_cmpR op_eq (pe_ix ix_str (pv 2) (pv 6) (fun _ _ => rfl)) pe_str (nomark _)) (pe_meth (pv 0) T.cl mP GP (hr.mono (by omega)) bP .nil pass0 (pa_cons (pv 5) (pa_cons (pv 8) pa_nil))) (pe_meth (pv 0) T.cl mP GP (hr.mono (by omega)) bP .nil pass0 (pa_cons (pv 7) (pa_cons (pv 5) pa_nil))))))))
 (pss_one (ps_ret (pv 5))))))), ?_⟩
  refine ⟨_, rfl, _, rfl, _, rfl, x, d, a, b, c, m, z, ts, t, rfl, hz, hP, hm, ?_⟩
  rcases hW with ⟨bad, hE⟩ | ⟨p, rfl, hp, hN, hX, hR⟩
  · exact .inl ⟨bad, hE⟩
  refine .inr ⟨p, rfl, hp, hN, fun u hu l ks H1 s1 nl hl hks hall => ?_⟩
  obtain ⟨k, hk1, hk2⟩ := hall p.length u (Nat.le_refl _) (by rw [List.take_of_length_le (Nat.le_refl _)]; exact hu)
  have P1 := hP.same s1
  have hlast : atI (ks.map jV) (-1) = some (jV k) := by
    rcases List.eq_nil_or_concat ks with rfl | ⟨k0, kl, rfl⟩
    · cases hk1
    · rw [List.concat_eq_append] at *
      rw [List.map_append]
      have : k0.length = p.length := by
        rw [List.length_append] at hks
        simpa using hks
      rw [List.getElem?_append_right (by omega), this, Nat.sub_self] at hk1
      cases hk1
      exact atI_last _ _
  refine ⟨_, rfl, _, rfl, _, rfl, l, _, _, _, rfl, rfl, SqL.here hl, hlast, _, rfl, x, d, a, b, c, k, on, ts, u, rfl, P1, by omega, hk2, fun hn H2 s2 => ?_, fun u' hu' n ts2 H2 P2 ex2 pr2 hn2 ln2 => ?_⟩
  · exact ⟨_, rfl, rfl, _, rfl, ite_yes (decide_eq_true rfl) (hX u hu hn H2 (s1.trans s2))⟩
  refine ⟨_, rfl, rfl, _, rfl, ite_no (decide_eq_false fun z => nomatch z) ?_⟩
  have lp : (ptx p).length ≤ sizeLine := by
    rw [ptx_len]
    exact fits (by omega)
  have nla : l ≠ d ∧ l ≠ a ∧ l ≠ b ∧ l ≠ c := by
    obtain ⟨dx, es, ps, cs, hx, hd, ha, hb, hc, _⟩ := hP
    exact ⟨(ne_of_none hd nl).symm, (ne_of_none ha nl).symm, (ne_of_none hb nl).symm, (ne_of_none hc nl).symm⟩
  have ex02 : Ex4 d a b c H H2 := (Ex4.same s1).trans ex2
  have hl2 := ex2 _ _ hl nla.1 nla.2.1 nla.2.2.1 nla.2.2.2
  refine ⟨_, rfl, ptx p, rfl, lp, _, _, rfl, rfl, _, rfl, _, rfl, _, _, _, _, rfl, RgC.neg (by rw [ptx_len]; omega) (by rw [ptx_len]; omega) (by omega) (by omega), ?_⟩
  rw [ptx_len]
  have eN : ((p.length : Int) - 1 - -1).toNat = p.length := by omega
  rw [eN]
  refine for_rangeC (lo := (p.length : Int) - 1) (c := -1) (n := p.length) (fun i σ G => ∃ (x6 x7 x8 : Option V) (n : Nat) (ts2 : List Tree) (w v : Tree), σ = [some (.ref x), some (.int m), some (.str (ptx p)), some (.bl on), some (.ref l), some (.int n), x6, x7, x8] ∧ PoolA K C x d a b c G ts2 ∧ Ex4 d a b c H G ∧ Pre ts ts2 ∧ ts2.length ≤ 800003 + i ∧ G l = some (.lst (ks.map jV)) ∧ t.st (p.take (p.length - i)) = some w ∧ w.rp (p.drop (p.length - i)) u' = some v ∧ ts2[n]? = some v) ⟨_, _, _, n, ts2, u, u', rfl, P2, ex02, pr2, by omega, hl2, by rw [Nat.sub_zero, List.take_of_length_le (Nat.le_refl _)]; exact hu, by rw [Nat.sub_zero, List.drop_eq_nil_of_le (Nat.le_refl _)]; exact Tree.rp_nil u u', hn2⟩ ?_ ?_
  · rintro i σ G hi ⟨x6, x7, x8, n, ts2, w, v, rfl, P2, ex2, pr2, ln2, hl2, hst, hrp, hn2⟩
    obtain ⟨e, he⟩ : ∃ e, e = p.length - 1 - i := ⟨_, rfl⟩
    have hep : e < p.length := by omega
    have e1 : p.length - i = e + 1 := by omega
    have e2 : p.length - (i + 1) = e := by omega
    rw [e1] at hst hrp
    rw [e2]
    have eI : (p.length : Int) - 1 + (i : Nat) * (-1) = (e : Int) := by omega
    rw [eI]
    obtain ⟨bb, eb⟩ : ∃ bb, p[e] = bb := ⟨_, rfl⟩
    have etk : p.take (e + 1) = p.take e ++ [bb] := by rw [List.take_succ_eq_append_getElem hep, eb]
    have edr : p.drop e = bb :: p.drop (e + 1) := by rw [List.drop_eq_getElem_cons hep, eb]
    rw [etk, Tree.st_app] at hst
    cases est : t.st (p.take e) with
    | none => rw [est] at hst; cases hst
    | some w' =>
      rw [est] at hst
      have hst : w'.st [bb] = some w := hst
      obtain ⟨k', hk1, hk2⟩ := hall e w' (by omega) est
      have hk3 := pr2 _ _ hk2
      cases w' with
      | L => cases bb <;> cases hst
      | N wl wr =>
        obtain ⟨dx, ps, qq, ops, hx, ha, hpm, hS, il, ir, rfl, hul, hur⟩ := P2.at hk3
        refine ⟨_, rfl, x, C, dx, _, _, rfl, hx, T.cl, T.n2, pf_p _ _ _ _, _, rfl, _, rfl, l, _, _, _, rfl, rfl, SqL.here hl2, atI_nat (by rw [List.getElem?_map, hk1]; rfl), a, _, _, _, rfl, rfl, SqL.here ha, atI_nat hpm, qq, _, rfl, hS, rfl, _, _, rfl, _, _, rfl, rfl, ?_⟩
        have atE : atI (ptx p).cps.toList (e : Int) = some (if bb then 49 else 48) := by
          rw [ptx_cps]
          refine atI_nat ?_
          show (p.map fun b => if b then 49 else 48)[e]? = _
          rw [List.getElem?_map, List.getElem?_eq_getElem hep, eb]
          rfl
        cases bb with
        | false =>
          have hw : wl = w := Option.some.inj ((Tree.st_nil wl).symm.trans hst)
          subst hw
          refine ⟨_, rfl, _, rfl, _, _, _, rfl, rfl, lp, atE, rfl, _, rfl, ite_yes (by decide +kernel) ?_⟩
          refine ⟨_, rfl, x, dx, _, rfl, hx, n1, _, rfl, _, rfl, x, d, a, b, c, n, ir, ts2, v, wr, rfl, P2, by omega, hn2, hur, fun n' ts3 H3 P3 e3 pr3 hn3 ln3 => ?_⟩
          exact ⟨_, _, _, n', ts3, _, _, rfl, P3, ex2.trans e3, pr2.trans pr3, by omega, e3 _ _ hl2 nla.1 nla.2.1 nla.2.2.1 nla.2.2.2, rfl, by rw [edr]; show (wl.rp (p.drop (e + 1)) u').map (fun l' => Tree.N l' wr) = some (.N v wr); rw [hrp]; rfl, hn3⟩
        | true =>
          have hw : wr = w := Option.some.inj ((Tree.st_nil wr).symm.trans hst)
          subst hw
          refine ⟨_, rfl, _, rfl, _, _, _, rfl, rfl, lp, atE, rfl, _, rfl, ite_no (by decide +kernel) ?_⟩
          refine ⟨_, rfl, x, dx, _, rfl, hx, n1, _, rfl, _, rfl, x, d, a, b, c, il, n, ts2, wl, v, rfl, P2, by omega, hul, hn2, fun n' ts3 H3 P3 e3 pr3 hn3 ln3 => ?_⟩
          exact ⟨_, _, _, n', ts3, _, _, rfl, P3, ex2.trans e3, pr2.trans pr3, by omega, e3 _ _ hl2 nla.1 nla.2.1 nla.2.2.1 nla.2.2.2, rfl, by rw [edr]; show (wr.rp (p.drop (e + 1)) u').map (fun r' => Tree.N wl r') = some (.N wl v); rw [hrp]; rfl, hn3⟩
  · rintro σ G ⟨x6, x7, x8, n, ts2, w, v, rfl, P2, ex2, pr2, ln2, hl2, hst, hrp, hn2⟩
    rw [Nat.sub_self, List.take_zero, Tree.st_nil] at hst
    cases hst
    rw [Nat.sub_self, List.drop_zero] at hrp
    have hw : t.rwt on p = some v := by
      unfold Tree.rwt
      rw [hu]
      show (u.r0 on).bind (fun u' => t.rp p u') = some v
      rw [hu']
      exact hrp
    exact ⟨_, rfl, hR v hw n ts2 G P2 ex2 pr2 hn2⟩

abbrev s_rewritten_term : Stmt := top 34
theorem sc_rewritten_term : FnScope ["term", "path", "expanding", "pool"] ["term", "path", "expanding"] (defScope s_rewritten_term) := ⟨rfl, rfl, rfl, by decide +kernel, rfl, by decide +kernel, by decide +kernel⟩
theorem ok_rewritten_term {Cp CI CP CN CR fI fP fM f1 f2 f3 f4 f5 f6 f7 f8 f9 : Addr} {fdI fdP fdM e1 e2 e3 e4 e5 e6 e7 e8 e9 : FuncData} {tk : Tok} (d_rewritten_term : D K mg "rewritten_term" s_rewritten_term ["term", "path", "expanding"] f fd) (T : PoolT K mg Cp) (B : Blt mg) (C : Cst mg) (GEN : ∃ t, mg "GENERATOR" = some (.int 0 t)) (C_MAX_PATH : mg "MAX_PATH" = some (.int 60 tk)) (EI : ErrC K mg "InvalidTerm" CI) (EP : ErrC K mg "InvalidPath" CP) (EN : ErrC K mg "PathNotFound" CN) (ER : ErrC K mg "NotRewritable" CR)
    (M : L2.Mk K Cp fI) (FI : Fun K "__init__" "Pool.__init__" s_PInit fI fdI) (bI : Binds K fdI ["self"] []) (FP : Fun K "pair" "Pool.pair" s_PPair fP fdP) (bP : Binds K fdP ["self", "left", "right"] []) (mP : Meth K Cp "pair" fP)
    (FN : Fun K "number_of" "Pool.number_of" s_PNum fM fdM) (bN : Binds K fdM ["self", "term"] []) (mN : Meth K Cp "number_of" fM)
    (d_is_pair : D K mg "is_pair" s_is_pair ["part"] f1 e1) (d_is_term : D K mg "is_term" s_is_term ["term"] f2 e2) (d_check_term : D K mg "check_term" s_check_term ["term"] f3 e3) (d_check_path : D K mg "check_path" s_check_path ["path"] f4 e4) (d_numbers_along : D K mg "numbers_along" s_numbers_along ["pool", "number", "path"] f5 e5)
    (d_expanded : D K mg "expanded" s_expanded ["pool", "number"] f6 e6) (d_contracted : D K mg "contracted" s_contracted ["pool", "number"] f7 e7) (d_rewritten : D K mg "rewritten" s_rewritten ["pool", "number", "expanding"] f8 e8) (d_rewritten_at : D K mg "rewritten_at" s_rewritten_at ["pool", "number", "path", "expanding"] f9 e9) :
    FnOk P w K mg base (L2N.CX P w) 10 f fd ["term", "path", "expanding"] (spST K CI CP CN CR none) := by
  have GI : FnOk P w K mg base CX0 1 fI fdI ["self"] (spPInit K Cp) := ok_PInit FI T
  have GN : FnOk P w K mg base CX0 8 fM fdM ["self", "term"] (spNum K Cp 7) := ok_PNum FN bN mN T B GEN FP bP mP 7
  have G_check_term : FnOk P w K mg base (L2N.CX P w) 3 f3 e3 ["term"] (spChk K CI) := ok_check_term d_check_term B C EI d_is_pair d_is_term
  have G_rewritten_at : FnOk P w K mg base (L2N.CX P w) 4 f9 e9 ["pool", "number", "path", "expanding"] (spRA K Cp CP CN CR) := ok_rewritten_at d_rewritten_at T B C_MAX_PATH EP EN ER FP bP mP d_check_path d_numbers_along d_expanded d_contracted d_rewritten
  refine Fun.okN d_rewritten_term.F sc_rewritten_term (fun vs H Q E h => ?_) (fun cdv A outer s H vs Q E hr h => ?_)
  · obtain ⟨_, _, _, _, rfl, _⟩ := h
    rfl
  obtain ⟨v, dd, z, on, rfl, _, hz, hN, hn, hI, hW⟩ := h
  refine ⟨_, (pss_cons (ps_expr (pe_call G_check_term (hr.mono (by decide)) rfl d_check_term.m d_check_term.F.kp d_check_term.b .nil passD (pa_cons (pv 0) pa_nil)))
 (pss_cons (ps_set (i := 3) sc_rewritten_term.nd rfl (Or.inl rfl) (pe_make0 M GI (hr.mono (by decide)) rfl T.mgC bI .nil pass0))
 (pss_one (ps_ret (pe_ix ix_list (pe_fld (pv 3) rfl) (pe_call G_rewritten_at (hr.mono (by decide)) rfl d_rewritten_at.m d_rewritten_at.F.kp d_rewritten_at.b .nil passD (pa_cons (pv 3) (pa_cons (pe_meth (pv 3) T.cl mN GN (hr.mono (by decide)) bN .nil pass0 (pa_cons (pv 0) pa_nil)) (pa_cons (pv 1) (pa_cons (pv 2) pa_nil))))) (fun _ _ => rfl)))))), ?_⟩
  refine ⟨_, rfl, v, dd, rfl, hN, hn, fun ok H1 s1 => ?_, fun no H1 s1 => hI no H1 s1⟩
  obtain ⟨t, rfl, hsz, hdp⟩ := okd_tree ok
  have hW := hW t rfl hsz hdp
  have hn := tree_nodes t
  intro x dx nx ndx nex
  have s0 : Same H1 (upd (upd H1 dx (.own x)) x (.ins Cp dx [])) := fun e o he => by
    rw [upd_ne (ne_of_none he nx), upd_ne (ne_of_none he ndx)]
    exact he
  refine ⟨H1, x, dx, rfl, s0, nx, upd_same, fun d' a b c H2 P2 s2 d0 a0 b0 c0 => ⟨rfl, ?_⟩⟩
  have n1 : (pf d' a b c).lookup ("number_of" : Str) = none := pf_no _ _ _ _ (by decide +kernel) (by decide +kernel) (by decide +kernel) (by decide +kernel)
  obtain ⟨dx2, es2, ps2, cs2, hx2, _⟩ := id P2
  refine ⟨_, rfl, x, Cp, dx2, _, _, rfl, hx2, T.cl, T.n4, pf_t _ _ _ _, ?_⟩
  refine ⟨_, rfl, _, rfl, x, dx2, _, rfl, hx2, n1, _, rfl, x, d', a, b, c, v, t, [.L], rfl, P2, ta_mono (Tp.same (s1.trans s2)) hN.dp, by omega, by omega, by show 1 + t.nodes ≤ 1000000; omega, fun m ts3 H3 P3 x3 pr3 hm ln3 => ?_⟩
  have exA : ∀ H4, Ex4 d' a b c H3 H4 → Same H H4 := fun H4 s4 e o he => by
    have h1 := s1 _ _ he
    have h2 := s2 _ _ h1
    exact s4 _ _ (x3 e o h2 (ne_of_none h1 d0) (ne_of_none h1 a0) (ne_of_none h1 b0) (ne_of_none h1 c0)) (ne_of_none h1 d0) (ne_of_none h1 a0) (ne_of_none h1 b0) (ne_of_none h1 c0)
  have ln3 : ts3.length ≤ 800000 := by
    have : ts3.length ≤ 1 + t.nodes := ln3
    omega
  refine ⟨_, rfl, _, rfl, x, d', a, b, c, m, z, on, ts3, t, rfl, hz, P3, ln3, hm, ?_⟩
  rcases hW with ⟨bad, hE⟩ | ⟨p, rfl, hp, hNo, hX, hR⟩
  · exact .inl ⟨bad, fun H' s' => hE H' (exA H' (Ex4.same s'))⟩
  · refine .inr ⟨p, rfl, hp, fun hn' H' s' => hNo hn' H' (exA H' (Ex4.same s')), fun u hu hn' H' s' => hX u hu hn' H' (exA H' (Ex4.same s')), fun t' ht' n ts4 H4 P4 ex4 pr4 hn4 => ?_⟩
    obtain ⟨dx4, es4, ps4, cs4, _, _, _, _, hc4, _, _, _, _, _, dd4⟩ := id P4
    obtain ⟨w', hw1, hw2⟩ := dpAll_at dd4 n t'.d (by rw [List.getElem?_map, hn4]; rfl)
    exact ⟨c, cs4, _, w', rfl, rfl, SqL.here hc4, atI_nat hw1, hR t' ht' w' H4 (exA H4 ex4) hw2⟩

abbrev s_generators_in : Stmt := top 21
theorem sc_generators_in : FnScope ["term"] ["term"] (defScope s_generators_in) := ⟨rfl, rfl, rfl, by decide +kernel, rfl, by decide +kernel, by decide +kernel⟩
theorem ok_generators_in (d_generators_in : D K mg "generators_in" s_generators_in ["term"] f fd) : ∀ n : Nat, FnOk P w K mg base CX0 n f fd ["term"] (spTree K (fun t => .int t.sz) n)
  | 0 => fn_none spTree_no
  | n + 1 => by
    have G_generators_in := ok_generators_in d_generators_in n
    refine d_generators_in.F.ok sc_generators_in (fun vs H Q E h => ?_) (fun cdv A outer s H vs Q E hr h => ?_)
    · obtain ⟨_, _, rfl, _⟩ := h
      rfl
    obtain ⟨v, t, rfl, ha, hd, hn, q⟩ := h
    refine ⟨_, (pss_cons (ps_if (pt_cmpR (op_eqD hr.units) (pv 0) (pe_tup pa_nil) (nomark _)) (pss_one (ps_ret pe_int)) pss_nil)
 (pss_one (ps_ret (pe_op op_add (pe_call G_generators_in hr rfl d_generators_in.m d_generators_in.F.kp d_generators_in.b .nil pass0 (pa_cons (pe_ix ix_tup (pv 0) pe_int (fun _ _ => rfl)) pa_nil)) (pe_call G_generators_in hr rfl d_generators_in.m d_generators_in.F.kp d_generators_in.b .nil pass0 (pa_cons (pe_ix ix_tup (pv 0) pe_int (fun _ _ => rfl)) pa_nil)))))), ?_⟩
    refine ⟨_, rfl, zero_le', fun p hp => ⟨t.d, .tuple [], ta_mono (Tp.same (Same.new hp _)) ha, Dp.tup (SqT.here upd_same) .nil, Tree.shaped (by omega), shapedE, _, rfl, ite_eq (Tree.eqvL t) ?_⟩⟩
    have s1 := Same.new hp (.tup [])
    cases t with
    | L => exact iteT (q _ s1)
    | N l r =>
      have hd : max l.dp r.dp + 1 < n + 1 := hd
      obtain ⟨b, x1, x2, rfl, hS, hL, hR⟩ := ta_invN (ta_mono (Tp.same s1) ha)
      refine iteF ⟨_, rfl, b, _, 0, _, rfl, rfl, hS, rfl, x1, l, rfl, hL, by omega, by omega, fun H2 s2 => ?_⟩
      refine ⟨_, rfl, b, _, 1, _, rfl, rfl, (Tp.same s2).sqT hS, rfl, x2, r, rfl, ta_mono (Tp.same s2) hR, by omega, by omega, fun H3 s3 => ?_⟩
      refine ⟨_, _, rfl, rfl, ?_⟩
      have e : ((Tree.N l r).sz : Int) = (l.sz : Int) + (r.sz : Int) := by
        show ((l.sz + r.sz : Nat) : Int) = _
        omega
      have q' := q H3 ((s1.trans s2).trans s3)
      show Q (.int ((l.sz : Int) + (r.sz : Int))) H3
      rw [← e]
      exact q'

abbrev s_is_label : Stmt := top 43
theorem sc_is_label : FnScope ["label"] ["label"] (defScope s_is_label) := ⟨rfl, rfl, rfl, by decide +kernel, rfl, by decide +kernel, by decide +kernel⟩
theorem ok_is_label (d : D K mg "is_label" s_is_label ["label"] f fd) (B : Blt mg) (CS : CstS mg) : FnOk P w K mg base CX0 1 f fd ["label"] spIsLb := by
  obtain ⟨t8, C_MAX_LABEL⟩ := CS.c8
  obtain ⟨tl, C_LABEL_LETTERS⟩ := CS.cl
  refine d.F.ok sc_is_label (fun vs H Q E h => ?_) (fun cdv A outer s H vs Q E hr h => ?_)
  · obtain ⟨_, rfl, _⟩ := h
    rfl
  obtain ⟨z, rfl, hz, q⟩ := h
  have hzl : (sL z).length ≤ sizeLine := Nat.le_trans (show z.length ≤ 10000 from hz) (by decide)
  refine ⟨_, (pss_one (ps_ret (pe_and (pe_chain op_le op_le pe_int (pe_callB call_len_str (by rfl) B.len PySem.boot_len (pa_cons (pv 0) pa_nil)) (pe_glob (v := .int 8) rfl C_MAX_LABEL ⟨_, rfl⟩)) (pe_one (pe_cmpR op_eq (pe_bm PySem.F.plainAttrs_str PySem.F.slot_str_strip PySem.F.type_str_strip mt_stripChars (pv 0) (pa_cons (pe_glob (v := .str "abcdefghijklmnopqrstuvwxyz") rfl C_LABEL_LETTERS ⟨_, rfl⟩) pa_nil)) pe_str (nomark _)))))), ?_⟩
  refine ⟨_, rfl, _, rfl, hzl, _, _, rfl, rfl, _, rfl, ?_⟩
  unfold isLb at q
  by_cases c1 : 1 ≤ z.length
  · rw [decide_eq_true c1, Bool.true_and] at q
    refine ite_yes (decide_eq_true (by show (1 : Int) ≤ (z.length : Int); omega)) ⟨_, _, rfl, rfl, _, rfl, ?_⟩
    by_cases c2 : z.length ≤ 8
    · rw [decide_eq_true c2, Bool.true_and] at q
      refine ite_yes (decide_eq_true (by show (z.length : Int) ≤ 8; omega)) ⟨_, rfl, rfl, _, _, rfl, rfl, hzl, rfl, ?_⟩
      rw [strip_low]
      exact q
    · rw [decide_eq_false c2, Bool.false_and] at q
      exact ite_no (decide_eq_false (by show ¬ (z.length : Int) ≤ 8; omega)) q
  · rw [decide_eq_false c1, Bool.false_and] at q
    exact ite_no (decide_eq_false (by show ¬ (1 : Int) ≤ (z.length : Int); omega)) ⟨_, rfl, iteF q⟩

abbrev s_check_new_label : Stmt := top 44
theorem sc_check_new_label : FnScope ["contents", "label"] ["contents", "label"] (defScope s_check_new_label) := ⟨rfl, rfl, rfl, by decide +kernel, rfl, by decide +kernel, by decide +kernel⟩
theorem ok_check_new_label {fD g1 : Addr} {fdD h1 : FuncData} {A0 : EAd} (d : D K mg "check_new_label" s_check_new_label ["contents", "label"] f fd) (B : Blt mg) (CS : CstS mg) (EL : ErrC K mg "InvalidLabel" A0.lab) (FLD : FunS P K mg "DuplicateName" "DuplicateName.__init__" s_DNInit ["self", "name"] A0.dup fD fdD) (nLD : PySem.W.findIn K (.ref A0.dup) "name" = some none)
    (d_is_label : D K mg "is_label" s_is_label ["label"] g1 h1) : FnOk P w K mg base (L2N.CX P w) 3 f fd ["contents", "label"] (spChkL K A0) := by
  have GLD : FnOk P w K mg base CX0 1 fD fdD ["self", "name"] (spS A0.dup "name" okNmV) := ok_DNInit FLD nLD
  have G_is_label : FnOk P w K mg base CX0 1 g1 h1 ["label"] spIsLb := ok_is_label d_is_label B CS
  refine Fun.okN d.F sc_check_new_label (fun vs H Q E h => ?_) (fun cdv A outer s H vs Q E hr h => ?_)
  · obtain ⟨_, _, _, rfl, _⟩ := h
    rfl
  obtain ⟨c, cs, z, rfl, ⟨kvs, hc, hC⟩, hz, q, qE⟩ := h
  refine ⟨_, (pss_cons (ps_if (pt_not (pt_val (pe_call G_is_label (hr.mono (by decide)) rfl d_is_label.m d_is_label.F.kp d_is_label.b .nil pass0 (pa_cons (pv 1) pa_nil)))) (pss_one (L2N.ps_raise rfl (L2N.takes_of rfl rfl rfl rfl) (L2N.pmk_own PySem.F.excBase_ValueError EL.q EL.g EL.k (raises_own EL.b EL.t) (by exact rfl)))) pss_nil)
 (pss_one (ps_if (pt_cmp (pc_din (hu_of hr) (pv 1) (pv 0)) (by with_unfolding_all rfl)) (pss_one (L2N.ps_raise rfl (L2N.takes_of rfl rfl rfl rfl) (pmkN_oex FLD.T FLD.iC FLD.tI GLD (hr.mono (by decide)) FLD.b (fun _ _ _ _ _ _ _ h => h.elim) (by exact rfl) FLD.m (pa_cons (pv 1) pa_nil)))) pss_nil))), ?_⟩
  refine ⟨_, rfl, z, rfl, by omega, ?_⟩
  unfold chkL at q qE
  cases e1 : isLb z with
  | false =>
    refine ⟨_, rfl, iteT ?_⟩
    rw [if_pos e1] at qE
    exact qE .lab rfl _ (Same.refl _)
  | true =>
    refine ⟨_, rfl, iteF ?_⟩
    rw [if_neg (by rw [e1]; decide)] at q qE
    refine ⟨_, rfl, _, rfl, c, _, rfl, DGet.k (k := nmK z) hc, _, rfl, ?_⟩
    rcases hC.val z with ⟨h1, h2⟩ | ⟨t, v, h1, h2, _⟩
    · rw [h2]
      rw [if_neg (by rw [lk_has, h1]; decide)] at q
      exact iteF (q rfl)
    · rw [h2]
      rw [if_pos (by rw [lk_has, h1]; rfl)] at qE
      refine iteT ?_
      have qD := qE (.dup z) rfl
      have sR := Same.refl H
      refine ⟨_, rfl, (by show 1 ≤ 1000; omega), fun a na => ⟨a, _, rfl, upd_same, ⟨z, rfl, hz⟩, fun dx' ndx ne => ?_⟩⟩
      rw [upd_ne ne] at ndx
      refine ⟨rfl, dx', _, upd_same, (upd_ne ne).trans upd_same, ndx, ?_⟩
      refine qD dx' _ (fun b o hb' => ?_) (sR.free ndx) upd_same
      have hb' := sR _ _ hb'
      have ba : b ≠ a := ne_of_none hb' na
      have bd : b ≠ dx' := ne_of_none hb' ndx
      rw [upd_ne bd, del_ne ba, upd_ne ba, upd_ne bd, upd_ne ba]
      exact hb'

abbrev s_known_term : Stmt := top 45
theorem sc_known_term : FnScope ["contents", "label"] ["contents", "label"] (defScope s_known_term) := ⟨rfl, rfl, rfl, by decide +kernel, rfl, by decide +kernel, by decide +kernel⟩
theorem ok_known_term {fU : Addr} {fdU : FuncData} {A0 : EAd} (d : D K mg "known_term" s_known_term ["contents", "label"] f fd) (FLU : FunS P K mg "UnknownName" "UnknownName.__init__" s_UNInit ["self", "name"] A0.unk fU fdU) (nLU : PySem.W.findIn K (.ref A0.unk) "name" = some none) : FnOk P w K mg base (L2N.CX P w) 3 f fd ["contents", "label"] (spKnown K A0) := by
  have GLU : FnOk P w K mg base CX0 1 fU fdU ["self", "name"] (spS A0.unk "name" okNmV) := ok_UNInit FLU nLU
  refine Fun.okN d.F sc_known_term (fun vs H Q E h => ?_) (fun cdv A outer s H vs Q E hr h => ?_)
  · obtain ⟨_, _, _, rfl, _⟩ := h
    rfl
  obtain ⟨c, cs, z, rfl, ⟨kvs, hc, hC⟩, hz, qE, q⟩ := h
  refine ⟨_, (pss_cons (ps_if (pt_cmp (pc_dnotin (hu_of hr) (pv 1) (pv 0)) (by with_unfolding_all rfl)) (pss_one (L2N.ps_raise rfl (L2N.takes_of rfl rfl rfl rfl) (pmkN_oex FLU.T FLU.iC FLU.tI GLU (hr.mono (by decide)) FLU.b (fun _ _ _ _ _ _ _ h => h.elim) (by exact rfl) FLU.m (pa_cons (pv 1) pa_nil)))) pss_nil)
 (pss_one (ps_ret (pe_dget (hu_of hr) (pv 0) (pv 1) (fun _ _ => rfl))))), ?_⟩
  refine ⟨_, rfl, _, rfl, c, _, rfl, DGet.k (k := nmK z) hc, _, rfl, ?_⟩
  rcases hC.val z with ⟨h1, h2⟩ | ⟨t, v, h1, h2, ht⟩
  · rw [h2]
    refine iteT ?_
    have qD := qE h1
    have sR := Same.refl H
    refine ⟨_, rfl, (by show 1 ≤ 1000; omega), fun a na => ⟨a, _, rfl, upd_same, ⟨z, rfl, hz⟩, fun dx' ndx ne => ?_⟩⟩
    rw [upd_ne ne] at ndx
    refine ⟨rfl, dx', _, upd_same, (upd_ne ne).trans upd_same, ndx, ?_⟩
    refine qD dx' _ (fun b o hb' => ?_) (sR.free ndx) upd_same
    have hb' := sR _ _ hb'
    have ba : b ≠ a := ne_of_none hb' na
    have bd : b ≠ dx' := ne_of_none hb' ndx
    rw [upd_ne bd, del_ne ba, upd_ne ba, upd_ne bd, upd_ne ba]
    exact hb'
  · rw [h2]
    refine iteF ⟨_, rfl, _, rfl, c, _, rfl, ?_, q t h1 v ht⟩
    rw [← h2]
    exact DGet.k (k := nmK z) hc

abbrev s_check_made_term : Stmt := top 46
theorem sc_check_made_term : FnScope ["term"] ["term"] (defScope s_check_made_term) := ⟨rfl, rfl, rfl, by decide +kernel, rfl, by decide +kernel, by decide +kernel⟩
theorem ok_check_made_term {fG g1 g2 g3 : Addr} {fdG h1 h2 h3 : FuncData} {A0 : EAd} (d : D K mg "check_made_term" s_check_made_term ["term"] f fd) (B : Blt mg) (C : Cst mg) (FLG : FunS P K mg "TooLarge" "TooLarge.__init__" s_TLInit ["self", "size"] A0.big fG fdG) (nLG : PySem.W.findIn K (.ref A0.big) "size" = some none)
    (d_is_pair : D K mg "is_pair" s_is_pair ["part"] g1 h1) (d_is_term : D K mg "is_term" s_is_term ["term"] g2 h2) (d_generators_in : D K mg "generators_in" s_generators_in ["term"] g3 h3) : FnOk P w K mg base (L2N.CX P w) 12 f fd ["term"] (spMadeT K A0) := by
  have GLG : FnOk P w K mg base CX0 1 fG fdG ["self", "size"] (spS A0.big "size" okInt) := ok_TLInit FLG nLG
  have G_is_term : FnOk P w K mg base CX0 2 g2 h2 ["term"] (spIsTerm K) := ok_is_term d_is_term B C d_is_pair
  have G_generators_in : FnOk P w K mg base CX0 10 g3 h3 ["term"] (spTree K (fun t => .int t.sz) 10) := ok_generators_in d_generators_in 10
  refine Fun.okN d.F sc_check_made_term (fun vs H Q E h => ?_) (fun cdv A outer s H vs Q E hr h => ?_)
  · obtain ⟨_, _, rfl, _⟩ := h
    rfl
  obtain ⟨v, t, rfl, ht, hd, hsz, q, qE⟩ := h
  have hn := tree_nodes t
  refine ⟨_, (pss_one (ps_if (pt_not (pt_val (pe_call G_is_term (hr.mono (by decide)) rfl d_is_term.m d_is_term.F.kp d_is_term.b .nil pass0 (pa_cons (pv 0) pa_nil)))) (pss_one (L2N.ps_raise rfl (L2N.takes_of rfl rfl rfl rfl) (pmkN_oex FLG.T FLG.iC FLG.tI GLG (hr.mono (by decide)) FLG.b (fun _ _ _ _ _ _ _ h => h.elim) (by exact rfl) FLG.m (pa_cons (pe_call G_generators_in (hr.mono (by decide)) rfl d_generators_in.m d_generators_in.F.kp d_generators_in.b .nil pass0 (pa_cons (pv 0) pa_nil)) pa_nil)))) pss_nil)), ?_⟩
  refine ⟨_, rfl, v, t.d, rfl, NT.of ht (by omega), (by rw [tree_nd]; omega), fun H1 s1 => ?_⟩
  have e0 : okd t.d = fitsT t := by rw [tree_okd, Bool.and_comm]; rfl
  rw [e0]
  cases e1 : fitsT t with
  | true => exact ⟨_, rfl, iteF (q e1 _ s1)⟩
  | false =>
    refine ⟨_, rfl, iteT ?_⟩
    have qD := qE e1
    refine ⟨_, rfl, v, t, rfl, ta_mono (Tp.same s1) ht, by omega, by omega, fun H2 s2 => ?_⟩
    have sR := s1.trans s2
    refine ⟨(by show 1 ≤ 1000; omega), fun a na => ⟨a, _, rfl, upd_same, ⟨_, rfl, by omega, by omega⟩, fun dx' ndx ne => ?_⟩⟩
    rw [upd_ne ne] at ndx
    refine ⟨rfl, dx', _, upd_same, (upd_ne ne).trans upd_same, ndx, ?_⟩
    refine qD dx' _ (fun b o hb' => ?_) (sR.free ndx) upd_same
    have hb' := sR _ _ hb'
    have ba : b ≠ a := ne_of_none hb' na
    have bd : b ≠ dx' := ne_of_none hb' ndx
    rw [upd_ne bd, del_ne ba, upd_ne ba, upd_ne bd, upd_ne ba]
    exact hb'

abbrev s_with_new : Stmt := top 47
theorem sc_with_new : FnScope ["contents", "label", "term"] ["contents", "label", "term"] (defScope s_with_new) := ⟨rfl, rfl, rfl, by decide +kernel, rfl, by decide +kernel, by decide +kernel⟩
theorem ok_with_new {A0 : EAd} (d : D K mg "with_new" s_with_new ["contents", "label", "term"] f fd) (B : Blt mg) (CS : CstS mg) (EM : ErrC K mg "LimitReached" A0.lim) : FnOk P w K mg base (L2N.CX P w) 1 f fd ["contents", "label", "term"] (spWithN K A0) := by
  obtain ⟨t12, C_MAX_LABELS⟩ := CS.c12
  refine Fun.okN d.F sc_with_new (fun vs H Q E h => ?_) (fun cdv A outer s H vs Q E hr h => ?_)
  · obtain ⟨_, _, _, _, _, rfl, _⟩ := h
    rfl
  obtain ⟨c, cs, z, v, t, rfl, ⟨kvs, hc, hC⟩, hl, ht, qE, q⟩ := h
  have hkl := hC.len
  refine ⟨_, (pss_cons (ps_if (pt_cmpR op_ge (pe_callB call_lenD (by rfl) B.len PySem.boot_len (pa_cons (pv 0) pa_nil)) (pe_glob (v := .int 12) rfl C_MAX_LABELS ⟨_, rfl⟩) (nomark _)) (pss_one (L2N.ps_raise rfl (L2N.takes_of rfl rfl rfl rfl) (L2N.pmk_own PySem.F.excBase_ValueError EM.q EM.g EM.k (raises_own EM.b EM.t) (by exact rfl)))) pss_nil)
 (pss_one (ps_ret (pe_dispStar (hu_of hr) (pv 0) (pv 1) (pv 2))))), ?_⟩
  unfold withN at q qE
  refine ⟨_, rfl, c, kvs, rfl, hc, _, _, rfl, rfl, _, rfl, ?_⟩
  by_cases c1 : 12 ≤ cs.length
  · rw [if_pos c1] at qE
    exact ite_yes (decide_eq_true (by show (kvs.length : Int) ≥ 12; omega)) (qE .lim rfl _ (Same.refl _))
  · rw [if_neg c1] at q
    refine ite_no (decide_eq_false (by show ¬ (kvs.length : Int) ≥ 12; omega)) ?_
    refine fun d nd => ⟨_, rfl, upd_same, c, kvs, rfl, (fun z => by rw [z, nd] at hc; cases hc), .inl ((Same.new nd _) _ _ hc), Nat.lt_of_le_of_lt (show kvs.length ≤ 10000 by omega) (by decide), fun p np => ⟨_, rfl, _, rfl, upd_same, ?_, nmK z, rfl, ?_⟩⟩
    · rw [upd_ne (fun z => by rw [z, upd_same] at np; cases np)]
      exact upd_same
    · have ndp : d ≠ p := fun z => by rw [← z, upd_same] at np; cases np
      have np0 : H p = none := by
        cases e : H p with
        | none => rfl
        | some o =>
          rw [upd_ne ndp.symm, upd_ne ndp.symm, e] at np
          cases np
      have sF : Same H (upd (upd (upd (upd (upd H d (.dK [])) d (.dK kvs)) p (.dK [])) p (.dK [(nmK z, v)])) d (.dK (putK kvs (nmK z) v))) := fun b o hb => by
        have h1 : b ≠ d := ne_of_none hb nd
        have h2 : b ≠ p := ne_of_none hb np0
        rw [upd_ne h1, upd_ne h2, upd_ne h2, upd_ne h1, upd_ne h1]
        exact hb
      exact q _ rfl d _ sF nd ⟨_, upd_same, (hC.tp (Tp.same sF)).put (ta_mono (Tp.same sF) ht)⟩

abbrev s_after_add : Stmt := top 48
theorem sc_after_add : FnScope ["contents", "label", "term"] ["contents", "label", "term"] (defScope s_after_add) := ⟨rfl, rfl, rfl, by decide +kernel, rfl, by decide +kernel, by decide +kernel⟩
theorem ok_after_add {fD g1 g2 g3 g4 g5 g6 : Addr} {fdD h1 h2 h3 h4 h5 h6 : FuncData} {A0 : EAd} (d : D K mg "after_add" s_after_add ["contents", "label", "term"] f fd) (B : Blt mg) (C : Cst mg) (CS : CstS mg) (EL : ErrC K mg "InvalidLabel" A0.lab) (EI : ErrC K mg "InvalidTerm" A0.term) (EM : ErrC K mg "LimitReached" A0.lim) (FLD : FunS P K mg "DuplicateName" "DuplicateName.__init__" s_DNInit ["self", "name"] A0.dup fD fdD) (nLD : PySem.W.findIn K (.ref A0.dup) "name" = some none)
    (d_is_label : D K mg "is_label" s_is_label ["label"] g1 h1) (d_check_new_label : D K mg "check_new_label" s_check_new_label ["contents", "label"] g2 h2) (d_is_pair : D K mg "is_pair" s_is_pair ["part"] g3 h3) (d_is_term : D K mg "is_term" s_is_term ["term"] g4 h4) (d_check_term : D K mg "check_term" s_check_term ["term"] g5 h5) (d_with_new : D K mg "with_new" s_with_new ["contents", "label", "term"] g6 h6) : FnOk P w K mg base (L2N.CX P w) 4 f fd ["contents", "label", "term"] (spAAdd K A0) := by
  have G_check_new_label : FnOk P w K mg base (L2N.CX P w) 3 g2 h2 ["contents", "label"] (spChkL K A0) := ok_check_new_label d_check_new_label B CS EL FLD nLD d_is_label
  have G_check_term : FnOk P w K mg base (L2N.CX P w) 3 g5 h5 ["term"] (spChk K A0.term) := ok_check_term d_check_term B C EI d_is_pair d_is_term
  have G_with_new : FnOk P w K mg base (L2N.CX P w) 1 g6 h6 ["contents", "label", "term"] (spWithN K A0) := ok_with_new d_with_new B CS EM
  refine Fun.okN d.F sc_after_add (fun vs H Q E h => ?_) (fun cdv A outer s H vs Q E hr h => ?_)
  · obtain ⟨_, _, _, _, _, rfl, _⟩ := h
    rfl
  obtain ⟨c, cs, z, v, ot, rfl, hC, hok, hz, ⟨dd, hN, hnd, hO⟩, hW⟩ := h
  refine ⟨_, (pss_cons (ps_expr (pe_call G_check_new_label (hr.mono (by decide)) rfl d_check_new_label.m d_check_new_label.F.kp d_check_new_label.b .nil passD (pa_cons (pv 0) (pa_cons (pv 1) pa_nil))))
 (pss_cons (ps_expr (pe_call G_check_term (hr.mono (by decide)) rfl d_check_term.m d_check_term.F.kp d_check_term.b .nil passD (pa_cons (pv 2) pa_nil)))
 (pss_one (ps_ret (pe_call G_with_new (hr.mono (by decide)) rfl d_with_new.m d_with_new.F.kp d_with_new.b .nil passD (pa_cons (pv 0) (pa_cons (pv 1) (pa_cons (pv 2) pa_nil)))))))), ?_⟩
  unfold opAdd at hW
  refine ⟨_, rfl, _, rfl, c, cs, z, rfl, hC, hz, fun e0 => ?_, fun e he => ?_⟩
  · rw [e0] at hW
    refine ⟨_, rfl, v, dd, rfl, hN, hnd, fun e1 H1 s1 => ?_, fun e1 H1 s1 => ?_⟩
    · rcases hO with ⟨e2, _⟩ | ⟨t, rfl, rfl, hs, hd⟩
      · rw [e1] at e2
        cases e2
      · have hW : WithR K A0 H Q E (withN cs z t) := hW
        exact ⟨_, rfl, _, rfl, _, rfl, c, cs, z, v, t, rfl, hC.same s1, by have := hok.len; omega, ta_mono (Tp.same s1) hN.1, hW.same s1⟩
    · rcases hO with ⟨_, rfl⟩ | ⟨t, rfl, rfl, hs, hd⟩
      · exact hW.1 .term rfl _ s1
      · rw [tree_okd, decide_eq_true hd, decide_eq_true hs] at e1
        cases e1
  · rw [he] at hW
    exact hW.1 e rfl

abbrev s_after_combine : Stmt := top 49
theorem sc_after_combine : FnScope ["contents", "label", "left", "right", "pair"] ["contents", "label", "left", "right"] (defScope s_after_combine) := ⟨rfl, rfl, rfl, by decide +kernel, rfl, by decide +kernel, by decide +kernel⟩
theorem ok_after_combine {fD fU fG g1 g2 g3 g4 g5 g6 g7 g8 : Addr} {fdD fdU fdG h1 h2 h3 h4 h5 h6 h7 h8 : FuncData} {A0 : EAd} (d : D K mg "after_combine" s_after_combine ["contents", "label", "left", "right"] f fd) (B : Blt mg) (C : Cst mg) (CS : CstS mg) (EL : ErrC K mg "InvalidLabel" A0.lab) (EM : ErrC K mg "LimitReached" A0.lim) (FLD : FunS P K mg "DuplicateName" "DuplicateName.__init__" s_DNInit ["self", "name"] A0.dup fD fdD) (nLD : PySem.W.findIn K (.ref A0.dup) "name" = some none)
    (FLU : FunS P K mg "UnknownName" "UnknownName.__init__" s_UNInit ["self", "name"] A0.unk fU fdU) (nLU : PySem.W.findIn K (.ref A0.unk) "name" = some none) (FLG : FunS P K mg "TooLarge" "TooLarge.__init__" s_TLInit ["self", "size"] A0.big fG fdG) (nLG : PySem.W.findIn K (.ref A0.big) "size" = some none)
    (d_is_label : D K mg "is_label" s_is_label ["label"] g1 h1) (d_check_new_label : D K mg "check_new_label" s_check_new_label ["contents", "label"] g2 h2) (d_known_term : D K mg "known_term" s_known_term ["contents", "label"] g3 h3) (d_is_pair : D K mg "is_pair" s_is_pair ["part"] g4 h4) (d_is_term : D K mg "is_term" s_is_term ["term"] g5 h5) (d_generators_in : D K mg "generators_in" s_generators_in ["term"] g6 h6)
    (d_check_made_term : D K mg "check_made_term" s_check_made_term ["term"] g7 h7) (d_with_new : D K mg "with_new" s_with_new ["contents", "label", "term"] g8 h8) : FnOk P w K mg base (L2N.CX P w) 13 f fd ["contents", "label", "left", "right"] (spACmb K A0) := by
  have G_check_new_label : FnOk P w K mg base (L2N.CX P w) 3 g2 h2 ["contents", "label"] (spChkL K A0) := ok_check_new_label d_check_new_label B CS EL FLD nLD d_is_label
  have G_known_term : FnOk P w K mg base (L2N.CX P w) 3 g3 h3 ["contents", "label"] (spKnown K A0) := ok_known_term d_known_term FLU nLU
  have G_check_made_term : FnOk P w K mg base (L2N.CX P w) 12 g7 h7 ["term"] (spMadeT K A0) := ok_check_made_term d_check_made_term B C FLG nLG d_is_pair d_is_term d_generators_in
  have G_with_new : FnOk P w K mg base (L2N.CX P w) 1 g8 h8 ["contents", "label", "term"] (spWithN K A0) := ok_with_new d_with_new B CS EM
  refine Fun.okN d.F sc_after_combine (fun vs H Q E h => ?_) (fun cdv A outer s H vs Q E hr h => ?_)
  · obtain ⟨_, _, _, _, _, rfl, _⟩ := h
    rfl
  obtain ⟨c, cs, z, l, r, rfl, hC, hok, hz, hl, hr', hW⟩ := h
  refine ⟨_, (pss_cons (ps_expr (pe_call G_check_new_label (hr.mono (by decide)) rfl d_check_new_label.m d_check_new_label.F.kp d_check_new_label.b .nil passD (pa_cons (pv 0) (pa_cons (pv 1) pa_nil))))
 (pss_cons (ps_set (i := 4) sc_after_combine.nd rfl (Or.inl rfl) (pe_tup (pa_cons (pe_call G_known_term (hr.mono (by decide)) rfl d_known_term.m d_known_term.F.kp d_known_term.b .nil passD (pa_cons (pv 0) (pa_cons (pv 2) pa_nil))) (pa_cons (pe_call G_known_term (hr.mono (by decide)) rfl d_known_term.m d_known_term.F.kp d_known_term.b .nil passD (pa_cons (pv 0) (pa_cons (pv 3) pa_nil))) pa_nil))))
 (pss_cons (ps_expr (pe_call G_check_made_term (hr.mono (by decide)) rfl d_check_made_term.m d_check_made_term.F.kp d_check_made_term.b .nil passD (pa_cons (pv 4) pa_nil)))
 (pss_one (ps_ret (pe_call G_with_new (hr.mono (by decide)) rfl d_with_new.m d_with_new.F.kp d_with_new.b .nil passD (pa_cons (pv 0) (pa_cons (pv 1) (pa_cons (pv 4) pa_nil))))))))), ?_⟩
  unfold opCmb at hW
  refine ⟨_, rfl, _, rfl, c, cs, z, rfl, hC, hz, fun e0 => ?_, fun e he => ?_⟩
  · rw [e0] at hW
    refine ⟨_, rfl, _, rfl, c, cs, l, rfl, hC, hl, fun e1 => ?_, fun ta ea va hta => ?_⟩
    · rw [e1] at hW
      exact hW.1 _ rfl
    rw [ea] at hW
    refine ⟨_, rfl, _, rfl, c, cs, r, rfl, hC, hr', fun e1 => ?_, fun tb eb vb htb => ?_⟩
    · rw [e1] at hW
      exact hW.1 _ rfl
    rw [eb] at hW
    have hfa := hok.fit _ (lk_mem ea)
    have hfb := hok.fit _ (lk_mem eb)
    have hfa1 : ta.sz ≤ 12 := hfa.1
    have hfa2 : ta.dp ≤ 6 := hfa.2
    have hfb1 : tb.sz ≤ 12 := hfb.1
    have hfb2 : tb.dp ≤ 6 := hfb.2
    refine ⟨two_le, fun p np => ?_⟩
    have s1 := Same.new np (.tup [va, vb])
    have htN : TA K (upd H p (.tup [va, vb])) (.ref p) (.N ta tb) := ta_node (SqT.here upd_same) (ta_mono (Tp.same s1) hta) (ta_mono (Tp.same s1) htb)
    generalize upd H p (.tup [va, vb]) = H1 at *
    have hC1 := hC.same s1
    refine ⟨_, rfl, .ref p, .N ta tb, rfl, htN, (by show max ta.dp tb.dp + 1 ≤ 8; omega), (by show ta.sz + tb.sz ≤ 500; omega), fun ef H2 s2 => ?_, fun ef => ?_⟩
    · have hW : WithR K A0 H Q E (if fitsT (.N ta tb) = true then withN cs z (.N ta tb) else .error (.big (Tree.N ta tb).sz)) := hW
      rw [if_pos ef] at hW
      exact ⟨_, rfl, _, rfl, _, rfl, c, cs, z, _, _, rfl, hC1.same s2, by have := hok.len; omega, ta_mono (Tp.same s2) htN, hW.same (s1.trans s2)⟩
    · have hW : WithR K A0 H Q E (if fitsT (.N ta tb) = true then withN cs z (.N ta tb) else .error (.big (Tree.N ta tb).sz)) := hW
      rw [if_neg (by rw [ef]; decide)] at hW
      exact (hW.1 _ rfl).same s1
  · rw [he] at hW
    exact hW.1 e rfl

abbrev s_after_extract : Stmt := top 50
theorem sc_after_extract : FnScope ["contents", "label", "source", "right", "term"] ["contents", "label", "source", "right"] (defScope s_after_extract) := ⟨rfl, rfl, rfl, by decide +kernel, rfl, by decide +kernel, by decide +kernel⟩
theorem ok_after_extract {fD fU g1 g2 g3 g4 : Addr} {fdD fdU h1 h2 h3 h4 : FuncData} {A0 : EAd} (d : D K mg "after_extract" s_after_extract ["contents", "label", "source", "right"] f fd) (B : Blt mg) (C : Cst mg) (CS : CstS mg) (EL : ErrC K mg "InvalidLabel" A0.lab) (EM : ErrC K mg "LimitReached" A0.lim) (FLD : FunS P K mg "DuplicateName" "DuplicateName.__init__" s_DNInit ["self", "name"] A0.dup fD fdD) (nLD : PySem.W.findIn K (.ref A0.dup) "name" = some none)
    (FLU : FunS P K mg "UnknownName" "UnknownName.__init__" s_UNInit ["self", "name"] A0.unk fU fdU) (nLU : PySem.W.findIn K (.ref A0.unk) "name" = some none) (EN : ErrC K mg "PathNotFound" A0.pnf)
    (d_is_label : D K mg "is_label" s_is_label ["label"] g1 h1) (d_check_new_label : D K mg "check_new_label" s_check_new_label ["contents", "label"] g2 h2) (d_known_term : D K mg "known_term" s_known_term ["contents", "label"] g3 h3) (d_with_new : D K mg "with_new" s_with_new ["contents", "label", "term"] g4 h4) : FnOk P w K mg base (L2N.CX P w) 4 f fd ["contents", "label", "source", "right"] (spAExt K A0) := by
  have G_check_new_label : FnOk P w K mg base (L2N.CX P w) 3 g2 h2 ["contents", "label"] (spChkL K A0) := ok_check_new_label d_check_new_label B CS EL FLD nLD d_is_label
  have G_known_term : FnOk P w K mg base (L2N.CX P w) 3 g3 h3 ["contents", "label"] (spKnown K A0) := ok_known_term d_known_term FLU nLU
  have G_with_new : FnOk P w K mg base (L2N.CX P w) 1 g4 h4 ["contents", "label", "term"] (spWithN K A0) := ok_with_new d_with_new B CS EM
  refine Fun.okN d.F sc_after_extract (fun vs H Q E h => ?_) (fun cdv A outer s H vs Q E hr h => ?_)
  · obtain ⟨_, _, _, _, _, rfl, _⟩ := h
    rfl
  obtain ⟨c, cs, z, l, rt, rfl, hC, hok, hz, hl, hW⟩ := h
  refine ⟨_, (pss_cons (ps_expr (pe_call G_check_new_label (hr.mono (by decide)) rfl d_check_new_label.m d_check_new_label.F.kp d_check_new_label.b .nil passD (pa_cons (pv 0) (pa_cons (pv 1) pa_nil))))
 (pss_cons (ps_set (i := 4) sc_after_extract.nd rfl (Or.inl rfl) (pe_call G_known_term (hr.mono (by decide)) rfl d_known_term.m d_known_term.F.kp d_known_term.b .nil passD (pa_cons (pv 0) (pa_cons (pv 2) pa_nil))))
 (pss_cons (ps_if (pt_cmpR (op_eqD hr.units) (pv 4) (pe_tup pa_nil) (nomark _)) (pss_one (L2N.ps_raise rfl (L2N.takes_of rfl rfl rfl rfl) (L2N.pmk_own PySem.F.excBase_ValueError EN.q EN.g EN.k (raises_own EN.b EN.t) (by exact rfl)))) pss_nil)
 (pss_one (ps_ret (pe_call G_with_new (hr.mono (by decide)) rfl d_with_new.m d_with_new.F.kp d_with_new.b .nil passD (pa_cons (pv 0) (pa_cons (pv 1) (pa_cons (pe_ifExp (pt_truth (pv 3) (by intro _; rfl)) (pe_ix ix_tup (pv 4) pe_int (fun _ _ => rfl)) (pe_ix ix_tup (pv 4) pe_int (fun _ _ => rfl))) pa_nil))))))))), ?_⟩
  unfold opExt at hW
  refine ⟨_, rfl, _, rfl, c, cs, z, rfl, hC, hz, fun e0 => ?_, fun e he => ?_⟩
  · rw [e0] at hW
    refine ⟨_, rfl, _, rfl, c, cs, l, rfl, hC, hl, fun e1 => ?_, fun ta ea va hta => ?_⟩
    · rw [e1] at hW
      exact hW.1 _ rfl
    rw [ea] at hW
    have hfa := hok.fit _ (lk_mem ea)
    have hfa2 : ta.dp ≤ 6 := hfa.2
    refine ⟨_, rfl, zero_le', fun p np => ?_⟩
    have s1 := Same.new np (.tup [])
    have hC1 := hC.same s1
    have ht1 := ta_mono (Tp.same s1) hta
    have hp : SqT K (upd H p (.tup [])) p [] := SqT.here upd_same
    generalize upd H p (.tup []) = H1 at *
    refine ⟨ta.d, .tuple [], ht1, Dp.tup hp .nil, Tree.shaped (by omega), shapedE, _, rfl, ite_eq (Tree.eqvL ta) ?_⟩
    cases ta with
    | L => exact iteT (hW.1 .pnf rfl _ s1)
    | N a b =>
      obtain ⟨q0, x, y, rfl, hq0, hx, hy⟩ := ta_invN ht1
      have hW : WithR K A0 H Q E (withN cs z (if rt = true then b else a)) := hW
      refine iteF ⟨_, rfl, _, rfl, _, rfl, rt, rfl, ?_⟩
      cases rt with
      | true => exact iteT ⟨_, rfl, q0, _, 1, _, rfl, rfl, hq0, rfl, c, cs, z, y, b, rfl, hC1, by have := hok.len; omega, hy, hW.same s1⟩
      | false => exact iteF ⟨_, rfl, q0, _, 0, _, rfl, rfl, hq0, rfl, c, cs, z, x, a, rfl, hC1, by have := hok.len; omega, hx, hW.same s1⟩
  · rw [he] at hW
    exact hW.1 e rfl

abbrev s_after_rewrite : Stmt := top 51
theorem sc_after_rewrite : FnScope ["contents", "label", "path", "contract", "term"] ["contents", "label", "path", "contract"] (defScope s_after_rewrite) := ⟨rfl, rfl, rfl, by decide +kernel, rfl, by decide +kernel, by decide +kernel⟩
theorem ok_after_rewrite {Cp fI fP fM fU fG g1 g2 g3 g4 g5 g6 g7 g8 g9 g10 g11 g12 g13 : Addr} {fdI fdP fdM fdU fdG h1 h2 h3 h4 h5 h6 h7 h8 h9 h10 h11 h12 h13 : FuncData} {tk : Tok} {A0 : EAd} (d : D K mg "after_rewrite" s_after_rewrite ["contents", "label", "path", "contract"] f fd) (T : PoolT K mg Cp) (B : Blt mg) (C : Cst mg) (GEN : ∃ t, mg "GENERATOR" = some (.int 0 t)) (C_MAX_PATH : mg "MAX_PATH" = some (.int 60 tk))
    (EI : ErrC K mg "InvalidTerm" A0.term) (EP : ErrC K mg "InvalidPath" A0.path) (EN : ErrC K mg "PathNotFound" A0.pnf) (ER : ErrC K mg "NotRewritable" A0.nrw) (FLU : FunS P K mg "UnknownName" "UnknownName.__init__" s_UNInit ["self", "name"] A0.unk fU fdU) (nLU : PySem.W.findIn K (.ref A0.unk) "name" = some none) (FLG : FunS P K mg "TooLarge" "TooLarge.__init__" s_TLInit ["self", "size"] A0.big fG fdG) (nLG : PySem.W.findIn K (.ref A0.big) "size" = some none)
    (M : L2.Mk K Cp fI) (FI : Fun K "__init__" "Pool.__init__" s_PInit fI fdI) (bI : Binds K fdI ["self"] []) (FP : Fun K "pair" "Pool.pair" s_PPair fP fdP) (bP : Binds K fdP ["self", "left", "right"] []) (mP : Meth K Cp "pair" fP) (FN : Fun K "number_of" "Pool.number_of" s_PNum fM fdM) (bN : Binds K fdM ["self", "term"] []) (mN : Meth K Cp "number_of" fM)
    (d_is_pair : D K mg "is_pair" s_is_pair ["part"] g1 h1) (d_is_term : D K mg "is_term" s_is_term ["term"] g2 h2) (d_check_term : D K mg "check_term" s_check_term ["term"] g3 h3) (d_check_path : D K mg "check_path" s_check_path ["path"] g4 h4) (d_numbers_along : D K mg "numbers_along" s_numbers_along ["pool", "number", "path"] g5 h5) (d_expanded : D K mg "expanded" s_expanded ["pool", "number"] g6 h6) (d_contracted : D K mg "contracted" s_contracted ["pool", "number"] g7 h7) (d_rewritten : D K mg "rewritten" s_rewritten ["pool", "number", "expanding"] g8 h8) (d_rewritten_at : D K mg "rewritten_at" s_rewritten_at ["pool", "number", "path", "expanding"] g9 h9) (d_rewritten_term : D K mg "rewritten_term" s_rewritten_term ["term", "path", "expanding"] g10 h10)
    (d_generators_in : D K mg "generators_in" s_generators_in ["term"] g11 h11) (d_known_term : D K mg "known_term" s_known_term ["contents", "label"] g12 h12) (d_check_made_term : D K mg "check_made_term" s_check_made_term ["term"] g13 h13) : FnOk P w K mg base (L2N.CX P w) 13 f fd ["contents", "label", "path", "contract"] (spARwr K A0) := by
  have G_known_term : FnOk P w K mg base (L2N.CX P w) 3 g12 h12 ["contents", "label"] (spKnown K A0) := ok_known_term d_known_term FLU nLU
  have G_check_made_term : FnOk P w K mg base (L2N.CX P w) 12 g13 h13 ["term"] (spMadeT K A0) := ok_check_made_term d_check_made_term B C FLG nLG d_is_pair d_is_term d_generators_in
  have G_rewritten_term : FnOk P w K mg base (L2N.CX P w) 10 g10 h10 ["term", "path", "expanding"] (spST K A0.term A0.path A0.pnf A0.nrw none) := ok_rewritten_term d_rewritten_term T B C GEN C_MAX_PATH EI EP EN ER M FI bI FP bP mP FN bN mN d_is_pair d_is_term d_check_term d_check_path d_numbers_along d_expanded d_contracted d_rewritten d_rewritten_at
  refine Fun.okN d.F sc_after_rewrite (fun vs H Q E h => ?_) (fun cdv A outer s H vs Q E hr h => ?_)
  · obtain ⟨_, _, _, _, _, _, rfl, _⟩ := h
    rfl
  obtain ⟨c, cs, z, pt, op, con, rfl, hC, hok, hz, hpt, hW⟩ := h
  refine ⟨_, (pss_cons (ps_set (i := 4) sc_after_rewrite.nd rfl (Or.inl rfl) (pe_call G_rewritten_term (hr.mono (by decide)) rfl d_rewritten_term.m d_rewritten_term.F.kp d_rewritten_term.b .nil passD (pa_cons (pe_call G_known_term (hr.mono (by decide)) rfl d_known_term.m d_known_term.F.kp d_known_term.b .nil passD (pa_cons (pv 0) (pa_cons (pv 1) pa_nil))) (pa_cons (pv 2) (pa_cons (pe_not (pv 3)) pa_nil)))))
 (pss_cons (ps_expr (pe_call G_check_made_term (hr.mono (by decide)) rfl d_check_made_term.m d_check_made_term.F.kp d_check_made_term.b .nil passD (pa_cons (pv 4) pa_nil)))
 (pss_one (ps_ret (pe_dispStar (hu_of hr) (pv 0) (pv 1) (pv 4)))))), ?_⟩
  unfold opRwr at hW
  refine ⟨_, rfl, _, rfl, c, cs, z, rfl, hC, hz, fun e1 => ?_, fun ta ea va hta => ?_⟩
  · rw [e1] at hW
    exact hW.1 _ rfl
  rw [ea] at hW
  have hfa := hok.fit _ (lk_mem ea)
  have hfa1 : ta.sz ≤ 12 := hfa.1
  have hfa2 : ta.dp ≤ 6 := hfa.2
  have hnd := tree_nodes ta
  refine ⟨_, rfl, _, rfl, con, rfl, va, ta.d, pt, !con, rfl, (fun b z => nomatch z), hpt.1, NT.of hta (by omega), (by rw [tree_nd]; omega), fun e => ?_, fun t et _ _ => ?_⟩
  · rw [tree_okd, decide_eq_true hfa1, decide_eq_true hfa2] at e
    cases e
  have et : ta = t := Tree.d_injS et
  subst et
  rcases hpt.2 with ⟨rfl, hno⟩ | ⟨p, rfl, rfl, hp⟩
  · exact .inl ⟨hno, fun H1 s1 => hW.1 .path rfl _ s1⟩
  refine .inr ⟨p, rfl, hp, fun e2 H1 s1 => ?_, fun u e2 e3 H1 s1 => ?_, fun t' e4 v' H1 s1 ht' => ?_⟩
  · have hW : WithR K A0 H Q E (match ta.st p with
      | none => .error .pnf
      | some u => match u.r0 (!con) with
        | none => .error .nrw
        | some _ => match ta.rwt (!con) p with
          | none => .error .nrw
          | some t' => if fitsT t' = true then .ok (putC cs z t') else .error (.big t'.sz)) := hW
    rw [e2] at hW
    exact hW.1 .pnf rfl _ s1
  · have hW : WithR K A0 H Q E (match ta.st p with
      | none => .error .pnf
      | some u => match u.r0 (!con) with
        | none => .error .nrw
        | some _ => match ta.rwt (!con) p with
          | none => .error .nrw
          | some t' => if fitsT t' = true then .ok (putC cs z t') else .error (.big t'.sz)) := hW
    rw [e2] at hW
    have hW : WithR K A0 H Q E (match u.r0 (!con) with
        | none => .error .nrw
        | some _ => match ta.rwt (!con) p with
          | none => .error .nrw
          | some t' => if fitsT t' = true then .ok (putC cs z t') else .error (.big t'.sz)) := hW
    rw [e3] at hW
    exact hW.1 .nrw rfl _ s1
  · have hW : WithR K A0 H Q E (if fitsT t' = true then .ok (putC cs z t') else .error (.big t'.sz)) := by
      obtain ⟨u, u', a1, a2, a3⟩ := Tree.rwt_parts e4
      have hW : WithR K A0 H Q E (match ta.st p with
        | none => .error .pnf
        | some u => match u.r0 (!con) with
          | none => .error .nrw
          | some _ => match ta.rwt (!con) p with
            | none => .error .nrw
            | some t' => if fitsT t' = true then .ok (putC cs z t') else .error (.big t'.sz)) := hW
      rw [a1] at hW
      have hW : WithR K A0 H Q E (match u.r0 (!con) with
          | none => .error .nrw
          | some _ => match ta.rwt (!con) p with
            | none => .error .nrw
            | some t' => if fitsT t' = true then .ok (putC cs z t') else .error (.big t'.sz)) := hW
      rw [a2, e4] at hW
      exact hW
    have b1 := Tree.rwt_sz2 e4
    have b2 := Tree.rwt_dp e4
    refine ⟨_, rfl, v', t', rfl, ht', by omega, by omega, fun ef H2 s2 => ?_, fun ef => ?_⟩
    · rw [if_pos ef] at hW
      have sm := s1.trans s2
      have ht2 := ta_mono (Tp.same s2) ht'
      have hC2 := hC.same sm
      have hW := hW.same sm
      obtain ⟨kvs, hc, hCa⟩ := hC2
      have hkl := hCa.len
      have hcl := hok.len
      refine fun d nd => ⟨_, rfl, upd_same, c, kvs, rfl, (fun z => by rw [z, nd] at hc; cases hc), .inl ((Same.new nd _) _ _ hc), Nat.lt_of_le_of_lt (show kvs.length ≤ 10000 by omega) (by decide), fun p np => ⟨_, rfl, _, rfl, upd_same, ?_, nmK z, rfl, ?_⟩⟩
      · rw [upd_ne (fun z => by rw [z, upd_same] at np; cases np)]
        exact upd_same
      · have ndp : d ≠ p := fun z => by rw [← z, upd_same] at np; cases np
        have np0 : H2 p = none := by
          cases e : H2 p with
          | none => rfl
          | some o =>
            rw [upd_ne ndp.symm, upd_ne ndp.symm, e] at np
            cases np
        have sF : Same H2 (upd (upd (upd (upd (upd H2 d (.dK [])) d (.dK kvs)) p (.dK [])) p (.dK [(nmK z, v')])) d (.dK (putK kvs (nmK z) v'))) := fun b o hb => by
          have h1 : b ≠ d := ne_of_none hb nd
          have h2 : b ≠ p := ne_of_none hb np0
          rw [upd_ne h1, upd_ne h2, upd_ne h2, upd_ne h1, upd_ne h1]
          exact hb
        exact hW.2 _ rfl d _ sF nd ⟨_, upd_same, (hCa.tp (Tp.same sF)).put (ta_mono (Tp.same sF) ht2)⟩
    · rw [if_neg (by rw [ef]; decide)] at hW
      exact (hW.1 _ rfl).same s1

abbrev s_after_delete : Stmt := top 52
theorem sc_after_delete : FnScope ["contents", "label", "other"] ["contents", "label"] (defScope s_after_delete) := ⟨rfl, rfl, rfl, by decide +kernel, rfl, by decide +kernel, by decide +kernel⟩
theorem ok_after_delete {fU g1 : Addr} {fdU h1 : FuncData} {A0 : EAd} (d : D K mg "after_delete" s_after_delete ["contents", "label"] f fd) (FLU : FunS P K mg "UnknownName" "UnknownName.__init__" s_UNInit ["self", "name"] A0.unk fU fdU) (nLU : PySem.W.findIn K (.ref A0.unk) "name" = some none)
    (d_known_term : D K mg "known_term" s_known_term ["contents", "label"] g1 h1) : FnOk P w K mg base (L2N.CX P w) 4 f fd ["contents", "label"] (spADel K A0) := by
  have G_known_term : FnOk P w K mg base (L2N.CX P w) 3 g1 h1 ["contents", "label"] (spKnown K A0) := ok_known_term d_known_term FLU nLU
  refine Fun.okN d.F sc_after_delete (fun vs H Q E h => ?_) (fun cdv A outer s H vs Q E hr h => ?_)
  · obtain ⟨_, _, _, rfl, _⟩ := h
    rfl
  obtain ⟨c, cs, z, rfl, hC, hok, hz, hW⟩ := h
  refine ⟨_, (pss_cons (ps_expr (pe_call G_known_term (hr.mono (by decide)) rfl d_known_term.m d_known_term.F.kp d_known_term.b .nil passD (pa_cons (pv 0) (pa_cons (pv 1) pa_nil))))
 (pss_one (ps_ret (pe_lock (pe_dc (own := [("other", 2)]) (g := gName 2) (by rfl) sc_after_delete.nd (pi_keys (pv 0)) (blkOk_by (own := [("other", 2)]) (N := ["contents", "label", "other"]) (sc := defScope s_after_delete) (by decide +kernel)) (fun _ _ _ _ _ => (pg_name (i := 2) sc_after_delete.nd rfl (Or.inl rfl))) (fun _ _ _ _ _ => (pts_one (pt_cmpR op_ne (pv 2) (pv 1) (nomark _)))) (fun _ _ _ _ _ => (pv 2)) (fun _ _ _ _ _ => (pe_dget (Nat.lt_of_le_of_lt (Nat.add_le_add_left (by decide) _) hr.units) (pv 0) (pv 2) (fun _ _ => rfl)))))))), ?_⟩
  unfold opDel at hW
  refine ⟨_, rfl, _, rfl, c, cs, z, rfl, hC, hz, fun e1 => ?_, fun ta ea va hta => ?_⟩
  · rw [e1] at hW
    exact hW.1 _ rfl
  rw [ea] at hW
  have hW : WithR K A0 H Q E (.ok (dropC cs z)) := hW
  obtain ⟨kvs, hc, hCa⟩ := hC
  have hn := hCa.nodup hok.nd
  have hkl := hCa.len
  have hcl := hok.len
  refine ⟨c, _, hc, trivial, fun od => ?_⟩
  have hf : (upd H c (.frz od (.dK kvs))) c = some (.frz od (.dK kvs)) := upd_same
  have fat : ∀ {b : Addr} {o : HO}, b ≠ c → H b = some o → (upd H c (.frz od (.dK kvs))) b = some o := fun {b o} n e => by rw [upd_ne n]; exact e
  have nof : ∀ b, (upd H c (.frz od (.dK kvs))) b = none → H b = none := fun b e => by
    by_cases q : b = c
    · rw [q, upd_same] at e
      cases e
    · rw [upd_ne q] at e
      exact e
  generalize (upd H c (.frz od (.dK kvs))) = GF at *
  refine ⟨_, rfl, c, od, rfl, .inl ⟨_, hf, fun D nD => dc_it walk_keys (fun i G' => Same GF G' ∧ G' D = some (.dK (dropK (kvs.take i) (nmK z)))) ⟨Same.new nD _, upd_same⟩ (fun i G' _ h => h.1 _ _ hf) ?_ ?_⟩⟩
  · rintro i x G1 G2 hi ⟨sG, hD⟩ ⟨rfl, k, v, hkv, rfl⟩
    obtain ⟨y, t, rfl, hy, _⟩ := hCa.keyAt hkv
    have hg : valV kvs (nmK y) = some v := val_at hn hkv
    have hlen : (dropK (kvs.take i) (nmK z)).length < sizeLine := by
      have h1 := dropK_le (kvs.take i) (nmK z)
      rw [List.length_take] at h1
      exact Nat.lt_of_le_of_lt (show _ ≤ 12 by omega) (by decide)
    refine ⟨rfl, ?_⟩
    refine ⟨_, rfl, _, rfl, rfl, _, rfl, ?_⟩
    by_cases e : y = z
    · subst e
      refine ite_no (by show (!decide (nmV y = nmV y)) = false; rw [decide_eq_true rfl]; rfl) ⟨sG, ?_⟩
      rw [hD, drop_skip hkv]
    · refine ite_yes (by show (!decide (nmV y = nmV z)) = true; rw [decide_eq_false fun q => e (by unfold nmV at q; injection q with q; exact sL_inj q)]; rfl) ?_
      have hget : ∃ kvs' k', Rd G2 c (.dK kvs') ∧ L2.kV (nmK y) = L2.kV k' ∧ some v = valV kvs' k' := ⟨_, nmK y, .inr ⟨_, sG _ _ hf⟩, rfl, hg.symm⟩
      refine ⟨_, rfl, _, rfl, _, rfl, c, _, rfl, .inl hget, _, nmK y, rfl, hD, hlen, fun b o e2 => ?_, ?_⟩
      · rw [upd_ne (ne_of_none e2 nD)]
        exact sG _ _ e2
      · rw [upd_same, drop_step hn hkv fun q => e (nmK_inj q)]
  · rintro G ⟨sG, hD⟩
    rw [List.take_length] at hD
    refine ⟨sG _ _ hf, ?_⟩
    have nDc : D ≠ c := fun e => by rw [e, hf] at nD; cases nD
    have sF : Same H (upd G c (.dK kvs)) := fun b o hb => by
      by_cases q : b = c
      · subst q
        rw [hc] at hb
        cases hb
        exact upd_same
      · rw [upd_ne q]
        exact sG _ _ (fat q hb)
    exact hW.2 _ rfl D _ sF (nof D nD) ⟨_, by rw [upd_ne nDc]; exact hD, (hCa.tp (Tp.same sF)).drop⟩

abbrev s_Store___init__ : Stmt := inClass (top 53) 0
theorem sc_Store___init__ : FnScope ["self"] ["self"] (defScope s_Store___init__) := ⟨rfl, rfl, rfl, by decide +kernel, rfl, by decide +kernel, by decide +kernel⟩
theorem ok_Store___init__ {C_Store : Addr} (F : Fun K "__init__" "Store.__init__" s_Store___init__ f fd) (T_Store : StT K mg C_Store) : FnOk P w K mg base CX0 1 f fd ["self"] (spSInit K C_Store) := by
  have T := T_Store
  refine F.ok sc_Store___init__ (fun vs H Q E h => ?_) (fun cdv A outer s H vs Q E hr h => ?_)
  · obtain ⟨_, _, rfl, _⟩ := h
    rfl
  obtain ⟨x, dx, rfl, hx, q⟩ := h
  refine ⟨_, (pss_cons (ps_fld (pv 0) pe_dnewK rfl)
 (pss_cons (ps_fld (pv 0) (pe_lst pa_nil) rfl)
 (pss_one (ps_fld (pv 0) (pe_lst pa_nil) rfl)))), ?_⟩
  intro c nc
  have n1 := Same.new nc (.dK [])
  have nxc : x ≠ c := ne_of_none hx nc
  refine ⟨_, rfl, x, C_Store, dx, [], rfl, n1 _ _ hx, T.cl, T.n0, (by show 0 < 1000; decide), ?_⟩
  have k1 : ∀ b o, b ≠ x → H b = some o → (upd (upd H c (.dK [])) x (.ins C_Store dx (putF "contents" (.ref c) []))) b = some o := fun b o nb e => by
    rw [upd_ne nb]
    exact n1 _ _ e
  have hc1 : (upd (upd H c (.dK [])) x (.ins C_Store dx (putF "contents" (.ref c) []))) c = some (.dK []) := by rw [upd_ne nxc.symm, upd_same]
  have hx1 : (upd (upd H c (.dK [])) x (.ins C_Store dx (putF "contents" (.ref c) []))) x = some (.ins C_Store dx (putF "contents" (.ref c) [])) := upd_same
  have f1 : ∀ b, (upd (upd H c (.dK [])) x (.ins C_Store dx (putF "contents" (.ref c) []))) b = none → H b = none := fun b e => by
    cases z : H b with
    | none => rfl
    | some o =>
      by_cases q : b = x
      · rw [q, hx1] at e; cases e
      · rw [k1 b o q z] at e; cases e
  generalize (upd (upd H c (.dK [])) x (.ins C_Store dx (putF "contents" (.ref c) []))) = H1 at *
  refine ⟨zero_le', fun p np => ?_⟩
  have n2 := Same.new np (.lst [])
  have nxp : x ≠ p := ne_of_none hx1 np
  have ncp : c ≠ p := ne_of_none hc1 np
  refine ⟨_, rfl, x, C_Store, dx, _, rfl, n2 _ _ hx1, T.cl, T.n1, (by show 1 < 1000; decide), ?_⟩
  have k2 : ∀ b o, b ≠ x → H1 b = some o → (upd (upd H1 p (.lst [])) x (.ins C_Store dx (putF "past" (.ref p) (putF "contents" (.ref c) [])))) b = some o := fun b o nb e => by
    rw [upd_ne nb]
    exact n2 _ _ e
  have hc2 := k2 _ _ nxc.symm hc1
  have hp2 : (upd (upd H1 p (.lst [])) x (.ins C_Store dx (putF "past" (.ref p) (putF "contents" (.ref c) [])))) p = some (.lst []) := by rw [upd_ne nxp.symm, upd_same]
  have hx2 : (upd (upd H1 p (.lst [])) x (.ins C_Store dx (putF "past" (.ref p) (putF "contents" (.ref c) [])))) x = some (.ins C_Store dx (putF "past" (.ref p) (putF "contents" (.ref c) []))) := upd_same
  have f2 : ∀ b, (upd (upd H1 p (.lst [])) x (.ins C_Store dx (putF "past" (.ref p) (putF "contents" (.ref c) [])))) b = none → H b = none := fun b e => by
    refine f1 b ?_
    cases z : H1 b with
    | none => rfl
    | some o =>
      by_cases q : b = x
      · rw [q, hx2] at e; cases e
      · rw [k2 b o q z] at e; cases e
  have fp := f1 p np
  generalize (upd (upd H1 p (.lst [])) x (.ins C_Store dx (putF "past" (.ref p) (putF "contents" (.ref c) [])))) = H2 at *
  refine ⟨zero_le', fun g ng => ?_⟩
  have n3 := Same.new ng (.lst [])
  have nxg : x ≠ g := ne_of_none hx2 ng
  have ncg : c ≠ g := ne_of_none hc2 ng
  have npg : p ≠ g := ne_of_none hp2 ng
  refine ⟨_, rfl, x, C_Store, dx, _, rfl, n3 _ _ hx2, T.cl, T.n2, (by show 2 < 1000; decide), ?_⟩
  rw [stf_new]
  have k3 : ∀ b o, b ≠ x → H2 b = some o → (upd (upd H2 g (.lst [])) x (.ins C_Store dx (stf c p g))) b = some o := fun b o nb e => by
    rw [upd_ne nb]
    exact n3 _ _ e
  exact q p g _ fp (f2 g ng) ⟨dx, c, [], [], upd_same, ⟨[], k3 _ _ nxc.symm hc2, .nil⟩, k3 _ _ nxp.symm hp2, .nil, by rw [upd_ne nxg.symm, upd_same], .nil, npg⟩ fun b o nb e => k3 b o nb (k2 b o nb (k1 b o nb e))

abbrev s_Store___len__ : Stmt := inClass (top 53) 1
theorem sc_Store___len__ : FnScope ["self"] ["self"] (defScope s_Store___len__) := ⟨rfl, rfl, rfl, by decide +kernel, rfl, by decide +kernel, by decide +kernel⟩
theorem ok_Store___len__ {C_Store : Addr} (F : Fun K "__len__" "Store.__len__" s_Store___len__ f fd) (T_Store : StT K mg C_Store) (B : Blt mg) : FnOk P w K mg base CX0 1 f fd ["self"] (spSLen K C_Store) := by
  have T := T_Store
  refine F.ok sc_Store___len__ (fun vs H Q E h => ?_) (fun cdv A outer s H vs Q E hr h => ?_)
  · obtain ⟨_, _, rfl, _⟩ := h
    rfl
  obtain ⟨a, S, rfl, ⟨dx, c, ps, fs, hx, ⟨kvs, hc, hC⟩, hp, hP, hf, hF, hpf⟩, q⟩ := h
  refine ⟨_, (pss_one (ps_ret (pe_callB call_lenD (by rfl) B.len PySem.boot_len (pa_cons (pe_fld (pv 0) rfl) pa_nil)))), ?_⟩
  refine ⟨_, rfl, a.x, C_Store, dx, _, _, rfl, hx, T.cl, T.n0, stf_c _ _ _, c, _, rfl, hc, ?_⟩
  rw [hC.len]
  exact q

abbrev s_Store_record : Stmt := inClass (top 53) 3
theorem sc_Store_record : FnScope ["self", "contents"] ["self", "contents"] (defScope s_Store_record) := ⟨rfl, rfl, rfl, by decide +kernel, rfl, by decide +kernel, by decide +kernel⟩
theorem ok_Store_record {C_Store : Addr} (F : Fun K "record" "Store.record" s_Store_record f fd) (T_Store : StT K mg C_Store) : FnOk P w K mg base CX0 1 f fd ["self", "contents"] (spSRec K C_Store) := by
  have T := T_Store
  refine F.ok sc_Store_record (fun vs H Q E h => ?_) (fun cdv A outer s H vs Q E hr h => ?_)
  · obtain ⟨_, _, _, _, rfl, _⟩ := h
    rfl
  obtain ⟨a, S, c', cs', rfl, ⟨dx, c, ps, fs, hx, hC, hp, hP, hf, hF, hpf⟩, hC', hl, q⟩ := h
  have npx : a.p ≠ a.x := ne_of hp hx (fun z => nomatch z)
  refine ⟨_, (pss_cons (ps_expr (pe_bm PySem.F.plainAttrs_list PySem.F.slot_list_append PySem.F.type_list_append mt_append (pe_fld (pv 0) rfl) (pa_cons (pe_fld (pv 0) rfl) pa_nil)))
 (pss_cons (ps_fld (pv 0) (pe_lst pa_nil) rfl)
 (pss_one (ps_fld (pv 0) (pv 1) rfl)))), ?_⟩
  refine ⟨_, rfl, a.x, C_Store, dx, _, _, rfl, hx, T.cl, T.n1, stf_p _ _ _, .inl ⟨rfl, _, SqL.here hp⟩, _, rfl, a.x, C_Store, dx, _, _, rfl, hx, T.cl, T.n0, stf_c _ _ _, a.p, _, _, rfl, rfl, hp, (by rw [hP.len]; exact Nat.lt_of_le_of_lt hl (by decide)), ?_⟩
  have hx1 : (upd H a.p (.lst (ps ++ [.ref c]))) a.x = some (.ins C_Store dx (stf c a.p a.f)) := by rw [upd_ne npx.symm]; exact hx
  have hp1 : (upd H a.p (.lst (ps ++ [.ref c]))) a.p = some (.lst (ps ++ [.ref c])) := upd_same
  have k1 : ∀ b o, H b = some o → ¬ Own a b → (upd H a.p (.lst (ps ++ [.ref c]))) b = some o := fun b o e n => by
    rw [upd_ne (fun z => n (.inr (.inl z)))]
    exact e
  have f1 : ∀ b, (upd H a.p (.lst (ps ++ [.ref c]))) b = none → H b = none := fun b e => by
    by_cases q : b = a.p
    · rw [q, upd_same] at e; cases e
    · rw [upd_ne q] at e; exact e
  generalize (upd H a.p (.lst (ps ++ [.ref c]))) = H1 at *
  refine ⟨zero_le', fun g ng => ?_⟩
  have n2 := Same.new ng (.lst [])
  have nxg : a.x ≠ g := ne_of_none hx1 ng
  have npg : a.p ≠ g := ne_of_none hp1 ng
  have hg0 := f1 g ng
  refine ⟨_, rfl, a.x, C_Store, dx, _, rfl, n2 _ _ hx1, T.cl, T.n2, (by show 3 < 1000; decide), ?_⟩
  rw [stf_putf]
  refine ⟨_, rfl, _, rfl, a.x, C_Store, dx, _, rfl, upd_same, T.cl, T.n0, (by show 3 < 1000; decide), ?_⟩
  rw [stf_putc]
  have fr : FrS a H (upd (upd (upd H1 g (.lst [])) a.x (.ins C_Store dx (stf c a.p g))) a.x (.ins C_Store dx (stf c' a.p g))) := fun b o e n => by
    have nbx : b ≠ a.x := fun z => n (.inl z)
    rw [upd_ne nbx, upd_ne nbx, upd_ne (ne_of_none (k1 b o e n) ng)]
    exact k1 b o e n
  have kp := StA.kp_of (K := K) (C := C_Store) (S := S) ⟨dx, c, ps, fs, hx, hC, hp, hP, hf, hF, hpf⟩ fr
  exact q g _ hg0 ⟨dx, c', ps ++ [.ref c], [], upd_same, hC'.kp kp, by rw [upd_ne npx, upd_ne npx, upd_ne npg]; exact hp1, (hP.kp kp).app (.cons (hC.kp kp) .nil), by rw [upd_ne nxg.symm, upd_ne nxg.symm, upd_same], .nil, npg⟩ fr

abbrev s_Store_history : Stmt := inClass (top 53) 12
theorem sc_Store_history : FnScope ["self"] ["self"] (defScope s_Store_history) := ⟨rfl, rfl, rfl, by decide +kernel, rfl, by decide +kernel, by decide +kernel⟩
theorem ok_Store_history {C_Store : Addr} (F : Fun K "history" "Store.history" s_Store_history f fd) (T_Store : StT K mg C_Store) (B : Blt mg) : FnOk P w K mg base CX0 1 f fd ["self"] (spSHist K C_Store) := by
  have T := T_Store
  refine F.ok sc_Store_history (fun vs H Q E h => ?_) (fun cdv A outer s H vs Q E hr h => ?_)
  · obtain ⟨_, _, rfl, _⟩ := h
    rfl
  obtain ⟨a, S, rfl, ⟨dx, c, ps, fs, hx, hC, hp, hP, hf, hF, hpf⟩, q⟩ := h
  refine ⟨_, (pss_one (ps_ret (pe_tup (pa_cons (pe_callB call_len_seq (by rfl) B.len PySem.boot_len (pa_cons (pe_fld (pv 0) rfl) pa_nil)) (pa_cons (pe_callB call_len_seq (by rfl) B.len PySem.boot_len (pa_cons (pe_fld (pv 0) rfl) pa_nil)) pa_nil))))), ?_⟩
  refine ⟨_, rfl, a.x, C_Store, dx, _, _, rfl, hx, T.cl, T.n1, stf_p _ _ _, a.p, _, rfl, .inl (SqL.here hp), _, rfl, a.x, C_Store, dx, _, _, rfl, hx, T.cl, T.n2, stf_f _ _ _, a.f, _, rfl, .inl (SqL.here hf), two_le, fun r nr => ?_⟩
  rw [hP.len, hF.len]
  exact q r nr

abbrev s_Store_term : Stmt := inClass (top 53) 14
theorem sc_Store_term : FnScope ["self", "label"] ["self", "label"] (defScope s_Store_term) := ⟨rfl, rfl, rfl, by decide +kernel, rfl, by decide +kernel, by decide +kernel⟩
theorem ok_Store_term {C_Store fU g1 : Addr} {fdU h1 : FuncData} {A0 : EAd} (F : Fun K "term" "Store.term" s_Store_term f fd) (T_Store : StT K mg C_Store) (FLU : FunS P K mg "UnknownName" "UnknownName.__init__" s_UNInit ["self", "name"] A0.unk fU fdU) (nLU : PySem.W.findIn K (.ref A0.unk) "name" = some none) (d_known_term : D K mg "known_term" s_known_term ["contents", "label"] g1 h1) : FnOk P w K mg base (L2N.CX P w) 4 f fd ["self", "label"] (spSTerm K C_Store A0) := by
  have T := T_Store
  have G_known_term : FnOk P w K mg base (L2N.CX P w) 3 g1 h1 ["contents", "label"] (spKnown K A0) := ok_known_term d_known_term FLU nLU
  refine Fun.okN F sc_Store_term (fun vs H Q E h => ?_) (fun cdv A outer s H vs Q E hr h => ?_)
  · obtain ⟨_, _, _, rfl, _⟩ := h
    rfl
  obtain ⟨a, S, z, rfl, ⟨dx, c, ps, fs, hx, hC, hp, hP, hf, hF, hpf⟩, hz, qE, q⟩ := h
  refine ⟨_, (pss_one (ps_ret (pe_call G_known_term (hr.mono (by decide)) rfl d_known_term.m d_known_term.F.kp d_known_term.b .nil passD (pa_cons (pe_fld (pv 0) rfl) (pa_cons (pv 1) pa_nil))))), ?_⟩
  exact ⟨_, rfl, a.x, C_Store, dx, _, _, rfl, hx, T.cl, T.n0, stf_c _ _ _, _, rfl, c, S.cur, z, rfl, hC, hz, qE, q⟩

abbrev s_Store_labels : Stmt := inClass (top 53) 15
theorem sc_Store_labels : FnScope ["self"] ["self"] (defScope s_Store_labels) := ⟨rfl, rfl, rfl, by decide +kernel, rfl, by decide +kernel, by decide +kernel⟩
theorem ok_Store_labels {C_Store : Addr} (F : Fun K "labels" "Store.labels" s_Store_labels f fd) (T_Store : StT K mg C_Store) (B : Blt mg) : FnOk P w K mg base CX0 1 f fd ["self"] (spSLabs K C_Store) := by
  have T := T_Store
  refine F.ok sc_Store_labels (fun vs H Q E h => ?_) (fun cdv A outer s H vs Q E hr h => ?_)
  · obtain ⟨_, _, rfl, _⟩ := h
    rfl
  obtain ⟨a, S, rfl, ⟨dx, c, ps, fs, hx, ⟨kvs, hc, hC⟩, hp, hP, hf, hF, hpf⟩, hl, q⟩ := h
  refine ⟨_, (pss_one (ps_ret (pe_callB (call_sortedD (by rfl)) (by rfl) B.sorted (by decide +kernel) (pa_cons (pe_fld (pv 0) rfl) pa_nil)))), ?_⟩
  refine ⟨_, rfl, a.x, C_Store, dx, _, _, rfl, hx, T.cl, T.n0, stf_c _ _ _, c, kvs, S.cur.map fun e => sL e.1, rfl, .inl hc, ?_, ?_, fun ys p hp1 hs np => ?_⟩
  · rw [hC.keys, List.map_map]
    rfl
  · rw [List.length_map]
    omega
  · have e : (S.cur.map fun e => sL e.1) = (S.cur.map (·.1)).map sL := by rw [List.map_map]; rfl
    rw [e] at hp1
    obtain ⟨ls, rfl, hls⟩ := map_sL_of hp1
    rw [List.map_map]
    exact q ls p ⟨hls, hs⟩ np

abbrev s_Store_add : Stmt := inClass (top 53) 4
theorem sc_Store_add : FnScope ["self", "label", "term"] ["self", "label", "term"] (defScope s_Store_add) := ⟨rfl, rfl, rfl, by decide +kernel, rfl, by decide +kernel, by decide +kernel⟩
theorem ok_Store_add {C_Store r1 g1 : Addr} {q1 h1 : FuncData} {A0 : EAd} (F : Fun K "add" "Store.add" s_Store_add f fd) (T_Store : StT K mg C_Store) (d_Store_record : Mt K C_Store "record" "Store.record" s_Store_record ["self", "contents"] r1 q1) 
    (G_after_add : FnOk P w K mg base (L2N.CX P w) 4 g1 h1 ["contents", "label", "term"] (spAAdd K A0)) (d_after_add : D K mg "after_add" s_after_add ["contents", "label", "term"] g1 h1) : FnOk P w K mg base (L2N.CX P w) 5 f fd ["self", "label", "term"] (spSAdd K C_Store A0) := by
  have T := T_Store
  have G_Store_record : FnOk P w K mg base CX0 1 r1 q1 ["self", "contents"] (spSRec K C_Store) := ok_Store_record d_Store_record.F T_Store
  refine Fun.okN F sc_Store_add (fun vs H Q E h => ?_) (fun cdv A outer s H vs Q E hr h => ?_)
  · obtain ⟨_, _, _, _, _, rfl, _⟩ := h
    rfl
  obtain ⟨a, S, z, v, ot, rfl, ⟨hS, hok, hl⟩, hz, hO, hW⟩ := h
  obtain ⟨dx, c, ps, fs, hx, hC, hp, hP, hf, hF, hpf⟩ := id hS
  have noR : (stf c a.p a.f).lookup ("record" : Str) = none := stf_no _ _ _ (by decide +kernel) (by decide +kernel) (by decide +kernel)
  refine ⟨_, (pss_one (ps_expr (pe_meth (pv 0) T_Store.cl d_Store_record.m G_Store_record (hr.mono (by decide)) d_Store_record.b .nil pass0 (pa_cons (pe_call G_after_add (hr.mono (by decide)) rfl d_after_add.m d_after_add.F.kp d_after_add.b .nil passD (pa_cons (pe_fld (pv 0) rfl) (pa_cons (pv 1) (pa_cons (pv 2) pa_nil)))) pa_nil)))), ?_⟩
  exact ⟨_, rfl, a.x, dx, _, rfl, hx, noR, _, rfl, a.x, C_Store, dx, _, _, rfl, hx, T.cl, T.n0, stf_c _ _ _, _, rfl, _, rfl, c, S.cur, z, v, ot, rfl, hC, hok, hz, hO, ⟨fun e he => hW.1 e he, fun cs' he c' H1 s1 nc1 hC1 => ⟨a, S, c', cs', rfl, hS.same s1, hC1, hl, fun f' H2 nf S2 fr2 => hW.2 cs' he f' H2 (s1.free nf) S2 fun b o hb n => fr2 b o (s1 b o hb) n⟩⟩⟩

abbrev s_Store_combine : Stmt := inClass (top 53) 5
theorem sc_Store_combine : FnScope ["self", "label", "left", "right"] ["self", "label", "left", "right"] (defScope s_Store_combine) := ⟨rfl, rfl, rfl, by decide +kernel, rfl, by decide +kernel, by decide +kernel⟩
theorem ok_Store_combine {C_Store r1 g1 : Addr} {q1 h1 : FuncData} {A0 : EAd} (F : Fun K "combine" "Store.combine" s_Store_combine f fd) (T_Store : StT K mg C_Store) (d_Store_record : Mt K C_Store "record" "Store.record" s_Store_record ["self", "contents"] r1 q1) 
    (G_after_combine : FnOk P w K mg base (L2N.CX P w) 13 g1 h1 ["contents", "label", "left", "right"] (spACmb K A0)) (d_after_combine : D K mg "after_combine" s_after_combine ["contents", "label", "left", "right"] g1 h1) : FnOk P w K mg base (L2N.CX P w) 14 f fd ["self", "label", "left", "right"] (spSCmb K C_Store A0) := by
  have T := T_Store
  have G_Store_record : FnOk P w K mg base CX0 1 r1 q1 ["self", "contents"] (spSRec K C_Store) := ok_Store_record d_Store_record.F T_Store
  refine Fun.okN F sc_Store_combine (fun vs H Q E h => ?_) (fun cdv A outer s H vs Q E hr h => ?_)
  · obtain ⟨_, _, _, _, _, rfl, _⟩ := h
    rfl
  obtain ⟨a, S, z, l, r, rfl, ⟨hS, hok, hl⟩, hz, hzl, hzr, hW⟩ := h
  obtain ⟨dx, c, ps, fs, hx, hC, hp, hP, hf, hF, hpf⟩ := id hS
  have noR : (stf c a.p a.f).lookup ("record" : Str) = none := stf_no _ _ _ (by decide +kernel) (by decide +kernel) (by decide +kernel)
  refine ⟨_, (pss_one (ps_expr (pe_meth (pv 0) T_Store.cl d_Store_record.m G_Store_record (hr.mono (by decide)) d_Store_record.b .nil pass0 (pa_cons (pe_call G_after_combine (hr.mono (by decide)) rfl d_after_combine.m d_after_combine.F.kp d_after_combine.b .nil passD (pa_cons (pe_fld (pv 0) rfl) (pa_cons (pv 1) (pa_cons (pv 2) (pa_cons (pv 3) pa_nil))))) pa_nil)))), ?_⟩
  exact ⟨_, rfl, a.x, dx, _, rfl, hx, noR, _, rfl, a.x, C_Store, dx, _, _, rfl, hx, T.cl, T.n0, stf_c _ _ _, _, rfl, _, rfl, _, rfl, c, S.cur, z, l, r, rfl, hC, hok, hz, hzl, hzr, ⟨fun e he => hW.1 e he, fun cs' he c' H1 s1 nc1 hC1 => ⟨a, S, c', cs', rfl, hS.same s1, hC1, hl, fun f' H2 nf S2 fr2 => hW.2 cs' he f' H2 (s1.free nf) S2 fun b o hb n => fr2 b o (s1 b o hb) n⟩⟩⟩

abbrev s_Store_extract : Stmt := inClass (top 53) 6
theorem sc_Store_extract : FnScope ["self", "label", "source", "right"] ["self", "label", "source", "right"] (defScope s_Store_extract) := ⟨rfl, rfl, rfl, by decide +kernel, rfl, by decide +kernel, by decide +kernel⟩
theorem ok_Store_extract {C_Store r1 g1 : Addr} {q1 h1 : FuncData} {A0 : EAd} (F : Fun K "extract" "Store.extract" s_Store_extract f fd) (T_Store : StT K mg C_Store) (d_Store_record : Mt K C_Store "record" "Store.record" s_Store_record ["self", "contents"] r1 q1) 
    (G_after_extract : FnOk P w K mg base (L2N.CX P w) 4 g1 h1 ["contents", "label", "source", "right"] (spAExt K A0)) (d_after_extract : D K mg "after_extract" s_after_extract ["contents", "label", "source", "right"] g1 h1) : FnOk P w K mg base (L2N.CX P w) 5 f fd ["self", "label", "source", "right"] (spSExt K C_Store A0) := by
  have T := T_Store
  have G_Store_record : FnOk P w K mg base CX0 1 r1 q1 ["self", "contents"] (spSRec K C_Store) := ok_Store_record d_Store_record.F T_Store
  refine Fun.okN F sc_Store_extract (fun vs H Q E h => ?_) (fun cdv A outer s H vs Q E hr h => ?_)
  · obtain ⟨_, _, _, _, _, rfl, _⟩ := h
    rfl
  obtain ⟨a, S, z, s0, rt, rfl, ⟨hS, hok, hl⟩, hz, hzs, hW⟩ := h
  obtain ⟨dx, c, ps, fs, hx, hC, hp, hP, hf, hF, hpf⟩ := id hS
  have noR : (stf c a.p a.f).lookup ("record" : Str) = none := stf_no _ _ _ (by decide +kernel) (by decide +kernel) (by decide +kernel)
  refine ⟨_, (pss_one (ps_expr (pe_meth (pv 0) T_Store.cl d_Store_record.m G_Store_record (hr.mono (by decide)) d_Store_record.b .nil pass0 (pa_cons (pe_call G_after_extract (hr.mono (by decide)) rfl d_after_extract.m d_after_extract.F.kp d_after_extract.b .nil passD (pa_cons (pe_fld (pv 0) rfl) (pa_cons (pv 1) (pa_cons (pv 2) (pa_cons (pv 3) pa_nil))))) pa_nil)))), ?_⟩
  exact ⟨_, rfl, a.x, dx, _, rfl, hx, noR, _, rfl, a.x, C_Store, dx, _, _, rfl, hx, T.cl, T.n0, stf_c _ _ _, _, rfl, _, rfl, _, rfl, c, S.cur, z, s0, rt, rfl, hC, hok, hz, hzs, ⟨fun e he => hW.1 e he, fun cs' he c' H1 s1 nc1 hC1 => ⟨a, S, c', cs', rfl, hS.same s1, hC1, hl, fun f' H2 nf S2 fr2 => hW.2 cs' he f' H2 (s1.free nf) S2 fun b o hb n => fr2 b o (s1 b o hb) n⟩⟩⟩

abbrev s_Store_rewrite : Stmt := inClass (top 53) 7
theorem sc_Store_rewrite : FnScope ["self", "label", "path", "contract"] ["self", "label", "path", "contract"] (defScope s_Store_rewrite) := ⟨rfl, rfl, rfl, by decide +kernel, rfl, by decide +kernel, by decide +kernel⟩
theorem ok_Store_rewrite {C_Store r1 g1 : Addr} {q1 h1 : FuncData} {A0 : EAd} (F : Fun K "rewrite" "Store.rewrite" s_Store_rewrite f fd) (T_Store : StT K mg C_Store) (d_Store_record : Mt K C_Store "record" "Store.record" s_Store_record ["self", "contents"] r1 q1) 
    (G_after_rewrite : FnOk P w K mg base (L2N.CX P w) 13 g1 h1 ["contents", "label", "path", "contract"] (spARwr K A0)) (d_after_rewrite : D K mg "after_rewrite" s_after_rewrite ["contents", "label", "path", "contract"] g1 h1) : FnOk P w K mg base (L2N.CX P w) 14 f fd ["self", "label", "path", "contract"] (spSRwr K C_Store A0) := by
  have T := T_Store
  have G_Store_record : FnOk P w K mg base CX0 1 r1 q1 ["self", "contents"] (spSRec K C_Store) := ok_Store_record d_Store_record.F T_Store
  refine Fun.okN F sc_Store_rewrite (fun vs H Q E h => ?_) (fun cdv A outer s H vs Q E hr h => ?_)
  · obtain ⟨_, _, _, _, _, _, rfl, _⟩ := h
    rfl
  obtain ⟨a, S, z, pt, op, con, rfl, ⟨hS, hok, hl⟩, hz, hpt, hW⟩ := h
  obtain ⟨dx, c, ps, fs, hx, hC, hp, hP, hf, hF, hpf⟩ := id hS
  have noR : (stf c a.p a.f).lookup ("record" : Str) = none := stf_no _ _ _ (by decide +kernel) (by decide +kernel) (by decide +kernel)
  refine ⟨_, (pss_one (ps_expr (pe_meth (pv 0) T_Store.cl d_Store_record.m G_Store_record (hr.mono (by decide)) d_Store_record.b .nil pass0 (pa_cons (pe_call G_after_rewrite (hr.mono (by decide)) rfl d_after_rewrite.m d_after_rewrite.F.kp d_after_rewrite.b .nil passD (pa_cons (pe_fld (pv 0) rfl) (pa_cons (pv 1) (pa_cons (pv 2) (pa_cons (pv 3) pa_nil))))) pa_nil)))), ?_⟩
  exact ⟨_, rfl, a.x, dx, _, rfl, hx, noR, _, rfl, a.x, C_Store, dx, _, _, rfl, hx, T.cl, T.n0, stf_c _ _ _, _, rfl, _, rfl, _, rfl, c, S.cur, z, pt, op, con, rfl, hC, hok, hz, hpt, ⟨fun e he => hW.1 e he, fun cs' he c' H1 s1 nc1 hC1 => ⟨a, S, c', cs', rfl, hS.same s1, hC1, hl, fun f' H2 nf S2 fr2 => hW.2 cs' he f' H2 (s1.free nf) S2 fun b o hb n => fr2 b o (s1 b o hb) n⟩⟩⟩

abbrev s_Store_delete : Stmt := inClass (top 53) 8
theorem sc_Store_delete : FnScope ["self", "label", "term"] ["self", "label"] (defScope s_Store_delete) := ⟨rfl, rfl, rfl, by decide +kernel, rfl, by decide +kernel, by decide +kernel⟩
theorem ok_Store_delete {C_Store r1 g1 fU g2 : Addr} {q1 h1 fdU h2 : FuncData} {A0 : EAd} (F : Fun K "delete" "Store.delete" s_Store_delete f fd) (T_Store : StT K mg C_Store) (d_Store_record : Mt K C_Store "record" "Store.record" s_Store_record ["self", "contents"] r1 q1) (FLU : FunS P K mg "UnknownName" "UnknownName.__init__" s_UNInit ["self", "name"] A0.unk fU fdU) (nLU : PySem.W.findIn K (.ref A0.unk) "name" = some none) (d_known_term : D K mg "known_term" s_known_term ["contents", "label"] g2 h2)
    (G_after_delete : FnOk P w K mg base (L2N.CX P w) 4 g1 h1 ["contents", "label"] (spADel K A0)) (d_after_delete : D K mg "after_delete" s_after_delete ["contents", "label"] g1 h1) : FnOk P w K mg base (L2N.CX P w) 5 f fd ["self", "label"] (spSDel K C_Store A0) := by
  have T := T_Store
  have G_Store_record : FnOk P w K mg base CX0 1 r1 q1 ["self", "contents"] (spSRec K C_Store) := ok_Store_record d_Store_record.F T_Store
  have G_known_term : FnOk P w K mg base (L2N.CX P w) 3 g2 h2 ["contents", "label"] (spKnown K A0) := ok_known_term d_known_term FLU nLU
  refine Fun.okN F sc_Store_delete (fun vs H Q E h => ?_) (fun cdv A outer s H vs Q E hr h => ?_)
  · obtain ⟨_, _, _, rfl, _⟩ := h
    rfl
  obtain ⟨a, S, z, rfl, ⟨hS, hok, hl⟩, hz, qE, q⟩ := h
  obtain ⟨dx, c, ps, fs, hx, hC, hp, hP, hf, hF, hpf⟩ := id hS
  have noR : (stf c a.p a.f).lookup ("record" : Str) = none := stf_no _ _ _ (by decide +kernel) (by decide +kernel) (by decide +kernel)
  refine ⟨_, (pss_cons (ps_set (i := 2) sc_Store_delete.nd rfl (Or.inl rfl) (pe_call G_known_term (hr.mono (by decide)) rfl d_known_term.m d_known_term.F.kp d_known_term.b .nil passD (pa_cons (pe_fld (pv 0) rfl) (pa_cons (pv 1) pa_nil))))
 (pss_cons (ps_expr (pe_meth (pv 0) T_Store.cl d_Store_record.m G_Store_record (hr.mono (by decide)) d_Store_record.b .nil pass0 (pa_cons (pe_call G_after_delete (hr.mono (by decide)) rfl d_after_delete.m d_after_delete.F.kp d_after_delete.b .nil passD (pa_cons (pe_fld (pv 0) rfl) (pa_cons (pv 1) pa_nil))) pa_nil)))
 (pss_one (ps_ret (pv 2))))), ?_⟩
  refine ⟨_, rfl, a.x, C_Store, dx, _, _, rfl, hx, T.cl, T.n0, stf_c _ _ _, _, rfl, c, S.cur, z, rfl, hC, hz, qE, fun t et v hv => ?_⟩
  refine ⟨_, rfl, a.x, dx, _, rfl, hx, noR, _, rfl, a.x, C_Store, dx, _, _, rfl, hx, T.cl, T.n0, stf_c _ _ _, _, rfl, c, S.cur, z, rfl, hC, hok, hz, fun e he => ?_, fun cs' he c' H1 s1 nc1 hC1 => ?_⟩
  · unfold opDel at he
    rw [et] at he
    cases he
  · unfold opDel at he
    rw [et] at he
    cases he
    refine ⟨a, S, c', _, rfl, hS.same s1, hC1, hl, fun f' H2 nf S2 fr2 => ⟨_, rfl, ?_⟩⟩
    have fr : FrS a H H2 := fun b o hb n => fr2 b o (s1 b o hb) n
    exact q t et v f' H2 (ta_mono (hS.kp_of fr).tp hv) (s1.free nf) S2 fr

abbrev s_Store_undo : Stmt := inClass (top 53) 10
theorem sc_Store_undo : FnScope ["self"] ["self"] (defScope s_Store_undo) := ⟨rfl, rfl, rfl, by decide +kernel, rfl, by decide +kernel, by decide +kernel⟩
theorem ctsAll_snoc {H : Hp} {ps : List V} {init : List Cts} {l : Cts} (h : CtsAll K H ps (init ++ [l])) : ∃ (ps' : List V) (c : Addr), ps = ps' ++ [.ref c] ∧ CtsAll K H ps' init ∧ CtA K H c l := by
  induction init generalizing ps with
  | nil =>
    cases h with
    | cons h1 h2 =>
      cases h2
      exact ⟨[], _, rfl, .nil, h1⟩
  | cons x init ih =>
    cases h with
    | cons h1 h2 =>
      obtain ⟨ps', c, rfl, h3, h4⟩ := ih h2
      exact ⟨_ :: ps', c, rfl, .cons h1 h3, h4⟩
def spSUndo (K : PySem.W.Frag) (C : Addr) (A : EAd) : Sp := fun vs H Q E => ∃ (a : SAd) (S : Sto), vs = [.ref a.x] ∧ StA K C a S H ∧ S.past.length ≤ 10000 ∧ S.fut.length ≤ 10000 ∧ (S.past = [] → SEX A H E .empty) ∧
  ∀ init l, S.past = init ++ [l] → ∀ H', StA K C a ⟨l, init, S.fut ++ [S.cur]⟩ H' → FrS a H H' → Q .non H'
theorem ok_Store_undo {C_Store : Addr} {A0 : EAd} (F : Fun K "undo" "Store.undo" s_Store_undo f fd) (T_Store : StT K mg C_Store) (B : Blt mg) (EY : ErrC K mg "EmptyHistory" A0.empty) : FnOk P w K mg base (L2N.CX P w) 1 f fd ["self"] (spSUndo K C_Store A0) := by
  have T := T_Store
  refine Fun.okN F sc_Store_undo (fun vs H Q E h => ?_) (fun cdv A outer s H vs Q E hr h => ?_)
  · obtain ⟨_, _, rfl, _⟩ := h
    rfl
  obtain ⟨a, S, rfl, ⟨dx, c, ps, fs, hx, hC, hp, hP, hf, hF, hpf⟩, hl, hl2, qE, q⟩ := h
  have npx : a.p ≠ a.x := ne_of hp hx (fun z => nomatch z)
  have nfx : a.f ≠ a.x := ne_of hf hx (fun z => nomatch z)
  refine ⟨_, (pss_cons (ps_if (pt_cmpR op_eq (pe_callB call_len_seq (by rfl) B.len PySem.boot_len (pa_cons (pe_fld (pv 0) rfl) pa_nil)) pe_int (nomark _)) (pss_one (L2N.ps_raise rfl (L2N.takes_of rfl rfl rfl rfl) (L2N.pmk_own PySem.F.excBase_ValueError EY.q EY.g EY.k (raises_own EY.b EY.t) (by exact rfl)))) pss_nil)
 (pss_cons (ps_expr (pe_bm PySem.F.plainAttrs_list PySem.F.slot_list_append PySem.F.type_list_append mt_append (pe_fld (pv 0) rfl) (pa_cons (pe_fld (pv 0) rfl) pa_nil)))
 (pss_one (ps_fld (pv 0) (pe_bm0 PySem.F.plainAttrs_list PySem.F.slot_list_pop PySem.F.type_list_pop mt_pop (pe_fld (pv 0) rfl)) rfl)))), ?_⟩
  refine ⟨_, rfl, a.x, C_Store, dx, _, _, rfl, hx, T.cl, T.n1, stf_p _ _ _, a.p, _, rfl, .inl (SqL.here hp), rfl, _, rfl, ?_⟩
  rcases List.eq_nil_or_concat S.past with e | ⟨init, l, e⟩
  · have e0 : ps.length = 0 := by rw [hP.len, e]; rfl
    exact ite_yes (by rw [e0]; rfl) (qE e _ (Same.refl _))
  rw [List.concat_eq_append] at e
  have hP' := hP
  rw [e] at hP'
  obtain ⟨ps', cl, rfl, hP2, hL⟩ := ctsAll_snoc hP'
  refine ite_no (decide_eq_false (by rw [List.length_append]; intro z; injection z with z; simp at z; omega)) ?_
  refine ⟨_, rfl, a.x, C_Store, dx, _, _, rfl, hx, T.cl, T.n2, stf_f _ _ _, .inl ⟨rfl, _, SqL.here hf⟩, _, rfl, a.x, C_Store, dx, _, _, rfl, hx, T.cl, T.n0, stf_c _ _ _, a.f, _, _, rfl, rfl, hf, (by rw [hF.len]; exact Nat.lt_of_le_of_lt hl2 (by decide)), ?_⟩
  have hx1 : (upd H a.f (.lst (fs ++ [.ref c]))) a.x = some (.ins C_Store dx (stf c a.p a.f)) := by rw [upd_ne nfx.symm]; exact hx
  have hp1 : (upd H a.f (.lst (fs ++ [.ref c]))) a.p = some (.lst (ps' ++ [.ref cl])) := by rw [upd_ne hpf]; exact hp
  refine ⟨_, rfl, a.x, C_Store, dx, _, _, rfl, hx1, T.cl, T.n1, stf_p _ _ _, .inl ⟨rfl, _, SqL.here hp1⟩, a.p, _, .ref cl, rfl, rfl, hp1, by simp, ?_⟩
  have hx2 : (upd (upd H a.f (.lst (fs ++ [.ref c]))) a.p (.lst (ps' ++ [V.ref cl]).dropLast)) a.x = some (.ins C_Store dx (stf c a.p a.f)) := by rw [upd_ne npx.symm]; exact hx1
  refine ⟨_, rfl, a.x, C_Store, dx, _, rfl, hx2, T.cl, T.n0, (by show 3 < 1000; decide), ?_⟩
  rw [stf_putc]
  have fr : FrS a H (upd (upd (upd H a.f (.lst (fs ++ [.ref c]))) a.p (.lst (ps' ++ [V.ref cl]).dropLast)) a.x (.ins C_Store dx (stf cl a.p a.f))) := fun b o e n => by
    rw [upd_ne (fun z => n (.inl z)), upd_ne (fun z => n (.inr (.inl z))), upd_ne (fun z => n (.inr (.inr z)))]
    exact e
  have kp := StA.kp_of (K := K) (C := C_Store) (S := S) ⟨dx, c, _, fs, hx, hC, hp, hP, hf, hF, hpf⟩ fr
  exact q init l e _ ⟨dx, cl, ps', fs ++ [.ref c], upd_same, hL.kp kp, by rw [upd_ne npx, upd_same, List.dropLast_concat], hP2.kp kp, by rw [upd_ne nfx, upd_ne hpf.symm, upd_same], (hF.kp kp).app (.cons (hC.kp kp) .nil), hpf⟩ fr

abbrev s_Store_redo : Stmt := inClass (top 53) 11
theorem sc_Store_redo : FnScope ["self"] ["self"] (defScope s_Store_redo) := ⟨rfl, rfl, rfl, by decide +kernel, rfl, by decide +kernel, by decide +kernel⟩
def spSRedo (K : PySem.W.Frag) (C : Addr) (A : EAd) : Sp := fun vs H Q E => ∃ (a : SAd) (S : Sto), vs = [.ref a.x] ∧ StA K C a S H ∧ S.past.length ≤ 10000 ∧ S.fut.length ≤ 10000 ∧ (S.fut = [] → SEX A H E .empty) ∧
  ∀ init l, S.fut = init ++ [l] → ∀ H', StA K C a ⟨l, S.past ++ [S.cur], init⟩ H' → FrS a H H' → Q .non H'
theorem ok_Store_redo {C_Store : Addr} {A0 : EAd} (F : Fun K "redo" "Store.redo" s_Store_redo f fd) (T_Store : StT K mg C_Store) (B : Blt mg) (EY : ErrC K mg "EmptyHistory" A0.empty) : FnOk P w K mg base (L2N.CX P w) 1 f fd ["self"] (spSRedo K C_Store A0) := by
  have T := T_Store
  refine Fun.okN F sc_Store_redo (fun vs H Q E h => ?_) (fun cdv A outer s H vs Q E hr h => ?_)
  · obtain ⟨_, _, rfl, _⟩ := h
    rfl
  obtain ⟨a, S, rfl, ⟨dx, c, ps, fs, hx, hC, hp, hP, hf, hF, hpf⟩, hl, hl2, qE, q⟩ := h
  have npx : a.p ≠ a.x := ne_of hp hx (fun z => nomatch z)
  have nfx : a.f ≠ a.x := ne_of hf hx (fun z => nomatch z)
  refine ⟨_, (pss_cons (ps_if (pt_cmpR op_eq (pe_callB call_len_seq (by rfl) B.len PySem.boot_len (pa_cons (pe_fld (pv 0) rfl) pa_nil)) pe_int (nomark _)) (pss_one (L2N.ps_raise rfl (L2N.takes_of rfl rfl rfl rfl) (L2N.pmk_own PySem.F.excBase_ValueError EY.q EY.g EY.k (raises_own EY.b EY.t) (by exact rfl)))) pss_nil)
 (pss_cons (ps_expr (pe_bm PySem.F.plainAttrs_list PySem.F.slot_list_append PySem.F.type_list_append mt_append (pe_fld (pv 0) rfl) (pa_cons (pe_fld (pv 0) rfl) pa_nil)))
 (pss_one (ps_fld (pv 0) (pe_bm0 PySem.F.plainAttrs_list PySem.F.slot_list_pop PySem.F.type_list_pop mt_pop (pe_fld (pv 0) rfl)) rfl)))), ?_⟩
  refine ⟨_, rfl, a.x, C_Store, dx, _, _, rfl, hx, T.cl, T.n2, stf_f _ _ _, a.f, _, rfl, .inl (SqL.here hf), rfl, _, rfl, ?_⟩
  rcases List.eq_nil_or_concat S.fut with e | ⟨init, l, e⟩
  · have e0 : fs.length = 0 := by rw [hF.len, e]; rfl
    exact ite_yes (by rw [e0]; rfl) (qE e _ (Same.refl _))
  rw [List.concat_eq_append] at e
  have hF' := hF
  rw [e] at hF'
  obtain ⟨fs', cl, rfl, hF2, hL⟩ := ctsAll_snoc hF'
  refine ite_no (decide_eq_false (by rw [List.length_append]; intro z; injection z with z; simp at z; omega)) ?_
  refine ⟨_, rfl, a.x, C_Store, dx, _, _, rfl, hx, T.cl, T.n1, stf_p _ _ _, .inl ⟨rfl, _, SqL.here hp⟩, _, rfl, a.x, C_Store, dx, _, _, rfl, hx, T.cl, T.n0, stf_c _ _ _, a.p, _, _, rfl, rfl, hp, (by rw [hP.len]; exact Nat.lt_of_le_of_lt hl (by decide)), ?_⟩
  have hx1 : (upd H a.p (.lst (ps ++ [.ref c]))) a.x = some (.ins C_Store dx (stf c a.p a.f)) := by rw [upd_ne npx.symm]; exact hx
  have hf1 : (upd H a.p (.lst (ps ++ [.ref c]))) a.f = some (.lst (fs' ++ [.ref cl])) := by rw [upd_ne hpf.symm]; exact hf
  refine ⟨_, rfl, a.x, C_Store, dx, _, _, rfl, hx1, T.cl, T.n2, stf_f _ _ _, .inl ⟨rfl, _, SqL.here hf1⟩, a.f, _, .ref cl, rfl, rfl, hf1, by simp, ?_⟩
  have hx2 : (upd (upd H a.p (.lst (ps ++ [.ref c]))) a.f (.lst (fs' ++ [V.ref cl]).dropLast)) a.x = some (.ins C_Store dx (stf c a.p a.f)) := by rw [upd_ne nfx.symm]; exact hx1
  refine ⟨_, rfl, a.x, C_Store, dx, _, rfl, hx2, T.cl, T.n0, (by show 3 < 1000; decide), ?_⟩
  rw [stf_putc]
  have fr : FrS a H (upd (upd (upd H a.p (.lst (ps ++ [.ref c]))) a.f (.lst (fs' ++ [V.ref cl]).dropLast)) a.x (.ins C_Store dx (stf cl a.p a.f))) := fun b o e n => by
    rw [upd_ne (fun z => n (.inl z)), upd_ne (fun z => n (.inr (.inr z))), upd_ne (fun z => n (.inr (.inl z)))]
    exact e
  have kp := StA.kp_of (K := K) (C := C_Store) (S := S) ⟨dx, c, ps, _, hx, hC, hp, hP, hf, hF, hpf⟩ fr
  exact q init l e _ ⟨dx, cl, ps ++ [.ref c], fs', upd_same, hL.kp kp, by rw [upd_ne npx, upd_ne hpf, upd_same], (hP.kp kp).app (.cons (hC.kp kp) .nil), by rw [upd_ne nfx, upd_same, List.dropLast_concat], hF2.kp kp, hpf⟩ fr

abbrev s_store_of : Stmt := top 54
theorem sc_store_of : FnScope ["contents", "store", "label"] ["contents"] (defScope s_store_of) := ⟨rfl, rfl, rfl, by decide +kernel, rfl, by decide +kernel, by decide +kernel⟩
def spSOf (K : PySem.W.Frag) (C : Addr) : Sp := fun vs H Q _ => ∃ (c : Addr) (cs : Cts), vs = [.ref c] ∧ CtA K H c cs ∧ CtOk cs ∧ ∀ (x p f' : Addr) (H' : Hp), H x = none → H p = none → H f' = none → Same H H' → StA K C ⟨x, p, f'⟩ ⟨cs, [], []⟩ H' → Q (.ref x) H'
theorem ok_store_of {C_Store fI : Addr} {fdI : FuncData} (d : D K mg "store_of" s_store_of ["contents"] f fd) (T_Store : StT K mg C_Store) (MKS : L2.Mk K C_Store fI) (FI : Fun K "__init__" "Store.__init__" s_Store___init__ fI fdI) (bI : Binds K fdI ["self"] []) : FnOk P w K mg base CX0 3 f fd ["contents"] (spSOf K C_Store) := by
  have T := T_Store
  have GI : FnOk P w K mg base CX0 1 fI fdI ["self"] (spSInit K C_Store) := ok_Store___init__ FI T_Store
  refine d.F.ok sc_store_of (fun vs H Q E h => ?_) (fun cdv A outer s H vs Q E hr h => ?_)
  · obtain ⟨_, _, rfl, _⟩ := h
    rfl
  obtain ⟨c, cs, rfl, hC, hok, q⟩ := h
  refine ⟨_, (pss_cons (ps_set (i := 1) sc_store_of.nd rfl (Or.inl rfl) (pe_make0 MKS GI (hr.mono (by decide)) rfl T_Store.mgC bI .nil pass0))
 (pss_cons (ps_fld (pv 1) (pe_lock (pe_dc (own := [("label", 2)]) (g := gName 2) (by rfl) sc_store_of.nd (pi_keys (pv 0)) (blkOk_by (own := [("label", 2)]) (N := ["contents", "store", "label"]) (sc := defScope s_store_of) (by decide +kernel)) (fun _ _ _ _ _ => (pg_name (i := 2) sc_store_of.nd rfl (Or.inl rfl))) (fun _ _ _ _ _ => pts_nil) (fun _ _ _ _ _ => (pv 2)) (fun _ _ _ _ _ => (pe_dget (Nat.lt_of_le_of_lt (Nat.add_le_add_left (by decide) _) hr.units) (pv 0) (pv 2) (fun _ _ => rfl))))) rfl)
 (pss_one (ps_ret (pv 1))))), ?_⟩
  refine fun x dx nx ndx ney => ⟨x, dx, rfl, upd_same, fun p f' H2 np nf hSt hb => ⟨rfl, ?_⟩⟩
  have sI : Same H (upd (upd H dx (.own x)) x (.ins C_Store dx [])) := (Same.new ndx (.own x)).trans (Same.new (by rw [upd_ne ney.symm]; exact nx) _)
  have s2 : Same H H2 := fun b o e => hb b o (fun z => by rw [z, nx] at e; cases e) (sI _ _ e)
  have np0 : H p = none := sI.free np
  have nf0 : H f' = none := sI.free nf
  obtain ⟨kvs, hc0, hCa⟩ := hC
  have hc := s2 _ _ hc0
  have hn := hCa.nodup hok.nd
  have hkl := hCa.len
  have hcl := hok.len
  obtain ⟨dx2, cc, ps, fs, hx, hC2, hp, hP, hf, hF, hpf⟩ := hSt
  refine ⟨c, _, hc, trivial, fun od => ?_⟩
  have hf0 : (upd H2 c (.frz od (.dK kvs))) c = some (.frz od (.dK kvs)) := upd_same
  have fat : ∀ {b : Addr} {o : HO}, b ≠ c → H2 b = some o → (upd H2 c (.frz od (.dK kvs))) b = some o := fun {b o} n e => by rw [upd_ne n]; exact e
  have nof : ∀ b, (upd H2 c (.frz od (.dK kvs))) b = none → H2 b = none := fun b e => by
    by_cases q : b = c
    · rw [q, upd_same] at e
      cases e
    · rw [upd_ne q] at e
      exact e
  generalize (upd H2 c (.frz od (.dK kvs))) = GF at *
  refine ⟨_, rfl, c, od, rfl, .inl ⟨_, hf0, fun D nD => dc_it walk_keys (fun i G' => Same GF G' ∧ G' D = some (.dK (kvs.take i))) ⟨Same.new nD _, upd_same⟩ (fun i G' _ h => h.1 _ _ hf0) ?_ ?_⟩⟩
  · rintro i x1 G1 G2 hi ⟨sG, hD⟩ ⟨rfl, k, v, hkv, rfl⟩
    obtain ⟨y, t, rfl, hy, _⟩ := hCa.keyAt hkv
    have hg : valV kvs (nmK y) = some v := val_at hn hkv
    have hlen : (kvs.take i).length < sizeLine := by
      rw [List.length_take]
      exact Nat.lt_of_le_of_lt (show _ ≤ 12 by omega) (by decide)
    refine ⟨rfl, ?_⟩
    have hget : ∃ kvs' k', Rd G2 c (.dK kvs') ∧ L2.kV (nmK y) = L2.kV k' ∧ some v = valV kvs' k' := ⟨_, nmK y, .inr ⟨_, sG _ _ hf0⟩, rfl, hg.symm⟩
    refine ⟨_, rfl, _, rfl, _, rfl, c, _, rfl, .inl hget, _, nmK y, rfl, hD, hlen, fun b o e2 => ?_, ?_⟩
    · rw [upd_ne (ne_of_none e2 nD)]
      exact sG _ _ e2
    · rw [upd_same, put_step hn hkv]
  · rintro G ⟨sG, hD⟩
    rw [List.take_length] at hD
    refine ⟨sG _ _ hf0, ?_⟩
    have nDc : D ≠ c := fun e => by rw [e, hf0] at nD; cases nD
    have sF : Same H2 (upd G c (.dK kvs)) := fun b o hb => by
      by_cases q : b = c
      · subst q
        rw [hc] at hb
        cases hb
        exact upd_same
      · rw [upd_ne q]
        exact sG _ _ (fat q hb)
    have nD2 := nof D nD
    have hx9 := sF _ _ hx
    refine ⟨_, rfl, x, C_Store, dx2, _, rfl, hx9, T.cl, T.n0, (by show 3 < 1000; decide), ?_⟩
    rw [stf_putc]
    have hD9 : (upd G c (.dK kvs)) D = some (.dK kvs) := by rw [upd_ne nDc]; exact hD
    generalize (upd G c (.dK kvs)) = G9 at *
    have npx : p ≠ x := ne_of (sF _ _ hp) hx9 (fun z => nomatch z)
    have nfx : f' ≠ x := ne_of (sF _ _ hf) hx9 (fun z => nomatch z)
    have nDx : D ≠ x := ne_of hD9 hx9 (fun z => nomatch z)
    have sT : Same H (upd G9 x (.ins C_Store dx2 (stf D p f'))) := fun b o e => by
      rw [upd_ne (fun z => by rw [z, nx] at e; cases e)]
      exact sF _ _ (s2 _ _ e)
    cases hP
    cases hF
    exact ⟨_, rfl, q x p f' _ nx np0 nf0 sT ⟨dx2, D, [], [], upd_same, ⟨kvs, by rw [upd_ne nDx]; exact hD9, hCa.tp (Tp.same sT)⟩, by rw [upd_ne npx]; exact sF _ _ hp, .nil, by rw [upd_ne nfx]; exact sF _ _ hf, .nil, hpf⟩⟩

abbrev s_Store___eq__ : Stmt := inClass (top 53) 2
theorem sc_Store___eq__ : FnScope ["self", "other"] ["self", "other"] (defScope s_Store___eq__) := ⟨rfl, rfl, rfl, by decide +kernel, rfl, by decide +kernel, by decide +kernel⟩
/-- what the class says of ==, != -/
structure StE (K : PySem.W.Frag) (C fq : Addr) : Prop where
  ha : PySem.W.findIn K (.ref C) "__class__" = some (some (.builtin "object.__class__"))
  hn : PySem.W.specialIn K (.builtin "object.__class__") "__get__" = some (some (.builtin "getset_descriptor.__get__"))
  ht : PySem.W.takesIn K (.builtin "object.__class__") = some true
  hm : PySem.W.mroIn K C (.type "object") = some true
  kC : PySem.W.kitOne K (.ref C) (.ref C) = some true
  nC : PySem.W.notFirst K C (.ref C) = true
  q : PySem.W.findIn K (.ref C) "__eq__" = some (some (.ref fq))
  f : PySem.W.isFn K (.ref fq) = true
  N : NeC K C fq
def spSEq (K : PySem.W.Frag) (C : Addr) : Sp := fun vs H Q _ => ∃ (a b : SAd) (S T : Sto), vs = [.ref a.x, .ref b.x] ∧ StH K C a S H ∧ StH K C b T H ∧ Q (.bl (ctEq S.cur T.cur)) H
theorem ok_Store___eq__ {C_Store fq : Addr} (F : Fun K "__eq__" "Store.__eq__" s_Store___eq__ f fd) (T : StT K mg C_Store) (TE : StE K C_Store fq) (B : Blt mg) : FnOk P w K mg base CX0 1 f fd ["self", "other"] (spSEq K C_Store) := by
  refine F.ok sc_Store___eq__ (fun vs H Q E h => ?_) (fun cdv A outer s H vs Q E hr h => ?_)
  · obtain ⟨_, _, _, _, rfl, _⟩ := h
    rfl
  obtain ⟨a, b, S, T', rfl, ⟨hS, okS, _⟩, ⟨hT, okT, _⟩, q⟩ := h
  obtain ⟨dx, c, ps, fs, hx, hC, hrest⟩ := id hS
  obtain ⟨dy, e, qs, gs, hy, hE, hrest2⟩ := id hT
  refine ⟨_, (pss_one (ps_ret (pe_and (pe_callB call_isi (by rfl) B.isinstance (by decide +kernel) (pa_cons (pv 1) (pa_cons (pe_glob (v := .ref C_Store) rfl T.mgC rfl) pa_nil))) (pe_one (pe_cmpR (op_eqCt hr.units) (pe_fld (pv 0) rfl) (pe_fld (pv 1) rfl) (nomark _)))))), ?_⟩
  refine ⟨_, rfl, _, _, _, _, true, rfl, .own C_Store, .base (.ins hy T.cl TE.ha TE.hn TE.ht TE.hm), TE.kC, true, rfl, iteT ?_⟩
  exact ⟨_, rfl, a.x, C_Store, dx, _, _, rfl, hx, T.cl, T.n0, stf_c _ _ _, _, rfl, b.x, C_Store, dy, _, _, rfl, hy, T.cl, T.n0, stf_c _ _ _, c, e, S.cur, T'.cur, rfl, rfl, hC, hE, okS, okT, q⟩

abbrev s_has_room : Stmt := top 26
theorem sc_has_room : FnScope ["open_lists", "room"] ["open_lists"] (defScope s_has_room) := ⟨rfl, rfl, rfl, by decide +kernel, rfl, by decide +kernel, by decide +kernel⟩
theorem ok_has_room (d : D K mg "has_room" s_has_room ["open_lists"] f fd) (B : Blt mg) : FnOk P w K mg base CX0 1 f fd ["open_lists"] spRoom := by
  refine d.F.ok sc_has_room (fun vs H Q E h => ?_) (fun cdv A outer s H vs Q E hr h => ?_)
  · obtain ⟨_, _, _, _, rfl, _⟩ := h
    rfl
  obtain ⟨p, a, as, ws, rfl, hp, ha, l1, l2, q⟩ := h
  refine ⟨_, (pss_cons (ps_set (i := 1) sc_has_room.nd rfl (Or.inl rfl) (pe_ifExp (pt_cmpR op_eq (pe_callB call_len_seq (by rfl) B.len PySem.boot_len (pa_cons (pv 0) pa_nil)) pe_int (nomark _)) pe_int pe_int))
 (pss_one (ps_ret (pe_cmpR op_lt (pe_callB call_len_seq (by rfl) B.len PySem.boot_len (pa_cons (pe_ix ix_list (pv 0) (pe_un un_neg pe_int) (fun _ _ => rfl)) pa_nil)) (pv 1) (nomark _))))), ?_⟩
  have hp' : H p = some (.lst (as.map V.ref ++ [.ref a])) := by
    rw [hp, List.map_append]
    rfl
  refine ⟨_, rfl, p, _, rfl, .inl (SqL.here hp'), rfl, _, rfl, ?_⟩
  have e1 : (as.map V.ref ++ [V.ref a]).length = as.length + 1 := by simp
  refine ite2 (fun c => ?_) (fun c => ?_)
  · have c' : V.int (((as.map V.ref ++ [V.ref a]).length : Nat) : Int) = V.int 1 := of_decide_eq_true c
    have c2 : as.length = 0 := by
      have := V.int.inj c'
      omega
    rw [if_pos c2] at q
    exact ⟨_, rfl, _, rfl, p, _, _, _, rfl, rfl, SqL.here hp', atI_last _ _, a, _, rfl, .inl (SqL.here ha), _, rfl, _, _, rfl, rfl, q⟩
  · have c2 : ¬ as.length = 0 := fun z => c (decide_eq_true (by rw [e1, z]; rfl))
    rw [if_neg c2] at q
    exact ⟨_, rfl, _, rfl, p, _, _, _, rfl, rfl, SqL.here hp', atI_last _ _, a, _, rfl, .inl (SqL.here ha), _, rfl, _, _, rfl, rfl, q⟩

abbrev s_read_term : Stmt := top 25
theorem sc_read_term : FnScope ["text", "open_lists", "position", "sign", "pair"] ["text"] (defScope s_read_term) := ⟨rfl, rfl, rfl, by decide +kernel, rfl, by decide +kernel, by decide +kernel⟩
theorem pile_len {G : Hp} : ∀ {as : List Addr} {st : List (List Tree)}, Pile K G as st → as.length = st.length
  | _, _, .nil => rfl
  | _, _, .cons _ _ h => congrArg (· + 1) (pile_len h)
theorem pile_free {G : Hp} {b : Addr} (nb : G b = none) : ∀ {as : List Addr} {st : List (List Tree)}, Pile K G as st → b ∉ as
  | _, _, .nil => List.not_mem_nil
  | _, _, .cons h1 _ h3 => fun hm => by
    rcases List.mem_cons.mp hm with e | hm
    · rw [e, h1] at nb
      cases nb
    · exact pile_free nb h3 hm
theorem rev_ref (a : Addr) (as : List Addr) : (a :: as).reverse.map V.ref = as.reverse.map V.ref ++ [.ref a] := by simp
theorem ok_read_term {fr CX fL : Addr} {frd fdL : FuncData} (d : D K mg "read_term" s_read_term ["text"] f fd) (B : Blt mg) (FL : FunS P K mg "InvalidText" "InvalidText.__init__" s_ITInit ["self", "position"] CX fL fdL) (nL : PySem.W.findIn K (.ref CX) "position" = some none) (d_has_room : D K mg "has_room" s_has_room ["open_lists"] fr frd) : FnOk P w K mg base (L2N.CX P w) 3 f fd ["text"] (spReadE K CX) := by
  have GL : FnOk P w K mg base CX0 1 fL fdL ["self", "position"] (spS CX "position" okInt) := ok_ITInit FL nL
  have G_has_room : FnOk P w K mg base CX0 1 fr frd ["open_lists"] spRoom := ok_has_room d_has_room B
  refine Fun.okN d.F sc_read_term (fun vs H Q E h => ?_) (fun cdv A outer s H vs Q E hr h => ?_)
  · obtain ⟨_, rfl, _⟩ := h
    rfl
  obtain ⟨z, rfl, hz, q, qE⟩ := h
  refine ⟨_, (pss_cons (ps_set (i := 1) sc_read_term.nd rfl (Or.inl rfl) (pe_lst (pa_cons (pe_lst pa_nil) pa_nil)))
 (pss_cons (ps_for (passes_of rfl) rfl (pi_ES (by rfl) B.enumerate (pa_cons (pv 0) pa_nil)) (pg_tup (by rfl) (pgs_cons (pg_name (i := 2) sc_read_term.nd rfl (Or.inl rfl)) (pgs_cons (pg_name (i := 3) sc_read_term.nd rfl (Or.inl rfl)) pgs_nil)))
  (pss_one (ps_if (PW.pt (pw_and (pt_cmpR op_eq (pv 3) pe_str (nomark _)) (pw_and1 (pt_val (pe_call G_has_room (hr.mono (by decide)) rfl d_has_room.m d_has_room.F.kp d_has_room.b .nil pass0 (pa_cons (pv 1) pa_nil)))))) (pss_one (ps_expr (pe_bm PySem.F.plainAttrs_list PySem.F.slot_list_append PySem.F.type_list_append mt_append (pe_ix ix_list (pv 1) (pe_un un_neg pe_int) (fun _ _ => rfl)) (pa_cons (pe_tup pa_nil) pa_nil)))) (pss_one (ps_if (PW.pt (pw_and (pt_cmpR op_eq (pv 3) pe_str (nomark _)) (pw_and1 (pt_val (pe_call G_has_room (hr.mono (by decide)) rfl d_has_room.m d_has_room.F.kp d_has_room.b .nil pass0 (pa_cons (pv 1) pa_nil)))))) (pss_one (ps_expr (pe_bm PySem.F.plainAttrs_list PySem.F.slot_list_append PySem.F.type_list_append mt_append (pv 1) (pa_cons (pe_lst pa_nil) pa_nil)))) (pss_one (ps_if (PW.pt (pw_and (pt_cmpR op_eq (pv 3) pe_str (nomark _)) (pw_and1 (pt_cmpR op_eq (pe_callB call_len_seq (by rfl) B.len PySem.boot_len (pa_cons (pe_ix ix_list (pv 1) (pe_un un_neg pe_int) (fun _ _ => rfl)) pa_nil)) pe_int (nomark _))))) (pss_cons (ps_set (i := 4) sc_read_term.nd rfl (Or.inl rfl) (pe_callTy call_tuple_of (by rfl) B.tuple (by decide +kernel) (pa_cons (pe_bm0 PySem.F.plainAttrs_list PySem.F.slot_list_pop PySem.F.type_list_pop mt_pop (pv 1)) pa_nil)))
 (pss_one (ps_expr (pe_bm PySem.F.plainAttrs_list PySem.F.slot_list_append PySem.F.type_list_append mt_append (pe_ix ix_list (pv 1) (pe_un un_neg pe_int) (fun _ _ => rfl)) (pa_cons (pv 4) pa_nil))))) (pss_one (L2N.ps_raise rfl (L2N.takes_of rfl rfl rfl rfl) (pmkN_oex FL.T FL.iC FL.tI GL (hr.mono (by decide)) FL.b (fun _ _ _ _ _ _ _ h => h.elim) (by exact rfl) FL.m (pa_cons (pv 2) pa_nil)))))))))))
 (pss_cons (ps_if (pt_cmpR op_eq (pe_callB call_len_seq (by rfl) B.len PySem.boot_len (pa_cons (pe_ix ix_list (pv 1) pe_int (fun _ _ => rfl)) pa_nil)) pe_int (nomark _)) (pss_one (L2N.ps_raise rfl (L2N.takes_of rfl rfl rfl rfl) (pmkN_oex FL.T FL.iC FL.tI GL (hr.mono (by decide)) FL.b (fun _ _ _ _ _ _ _ h => h.elim) (by exact rfl) FL.m (pa_cons (pe_callB call_len_str (by rfl) B.len PySem.boot_len (pa_cons (pv 0) pa_nil)) pa_nil)))) pss_nil)
 (pss_one (ps_ret (pe_ix ix_list (pe_ix ix_list (pv 1) pe_int (fun _ _ => rfl)) pe_int (fun _ _ => rfl))))))), ?_⟩
  refine ⟨zero_le', fun a na => ⟨one_le, fun p np => ?_⟩⟩
  have s1 := Same.new na (.lst [])
  have s2 := s1.trans (Same.new np (.lst [.ref a]))
  have npa : p ≠ a := fun e => by
    rw [e, upd_same] at np
    cases np
  have tl : z.cps.size ≤ 3000 := by omega
  refine ⟨_, rfl, z, rfl, for_ES (z := z) (fun j σ G => ∃ (st : List (List Tree)) (x2 x3 x4 : Option V), σ = [some (.str z), some (.ref p), x2, x3, x4] ∧ Same H G ∧ PileAt K H G p st ∧ st.length ≤ j + 1 ∧ (∀ l ∈ st, l.length ≤ j) ∧ pr st j (z.cps.toList.drop j) = pr [[]] 0 z.cps.toList ∧ Wf st) ?_ ?_ ?_⟩
  · refine ⟨[[]], none, none, none, rfl, s2, ⟨[a], upd_same, by simp, by simpa using npa, s1.free np, fun b hb => by rw [List.mem_singleton.mp hb]; exact na, .cons (by rw [upd_ne npa.symm, upd_same]) .nil .nil⟩, Nat.le_refl _, fun l hl => by rw [List.mem_singleton.mp hl]; exact Nat.le_refl _, rfl, ⟨Nat.zero_le _, trivial⟩⟩
  · rintro j c σ G hc ⟨st, x2, x3, x4, rfl, sm, ⟨as, hp, nd, hpa, hp0, ha0, hPg⟩, hl, hle, hrn, hwf⟩ q0 nq0
    have hj : j < z.cps.size := by
      rcases Nat.lt_or_ge j z.cps.size with h | h
      · exact h
      · rw [Array.getElem?_eq_none h] at hc
        cases hc
    have hj2 : j < 3000 := Nat.lt_of_lt_of_le hj tl
    have ed : z.cps.toList.drop j = c :: z.cps.toList.drop (j + 1) := by
      have h1 : j < z.cps.toList.length := by simpa using hj
      have h2 : z.cps.toList[j] = c := by
        have h3 : z.cps.toList[j]? = some c := by simpa using hc
        rw [List.getElem?_eq_getElem h1] at h3
        exact Option.some.inj h3
      rw [List.drop_eq_getElem_cons h1, h2]
    rw [ed] at hrn
    refine ⟨q0, _, rfl, SqT.here upd_same, rfl, _, _, rfl, _, _, rfl, rfl, ?_⟩
    have sg := Same.new nq0 (.tup [.int (j : Nat), .str ⟨#[c]⟩])
    have sm := sm.trans sg
    have hp := sg _ _ hp
    have hPn := hPg.mono (Tp.same sg) (fun a _ o => sg a o)
    clear hPg
    generalize upd G q0 (.tup [.int (j : Nat), .str ⟨#[c]⟩]) = G1 at *
    cases hPn with
    | nil =>
      exact hwf.elim
    | @cons a vs ts as rest hA hD hP =>
      rw [rev_ref] at hp
      have hrn : (match stp (ts :: rest) c with | none => Except.error j | some st' => pr st' (j + 1) (z.cps.toList.drop (j + 1))) = pr [[]] 0 z.cps.toList := hrn
      have bad : stp (ts :: rest) c = none → ∀ (e : Addr) (H' : Hp), Same H H' → H e = none → H' e = some (.xd [("position", .int (j : Int))]) → E (.ref CX) (some e) H' := fun h => by
        rw [h] at hrn
        refine qE j ?_
        unfold rd
        rw [← hrn]
      have lv := dpAll_len hD
      rw [List.length_map] at lv
      have la := pile_len hP
      have hl : rest.length + 1 ≤ j + 1 := hl
      have hle0 := hle ts List.mem_cons_self
      have hle1 : ∀ l ∈ rest, l.length ≤ j + 1 := fun l h => Nat.le_succ_of_le (hle l (List.mem_cons_of_mem _ h))
      have nd1 := List.nodup_cons.mp nd
      have hpa1 : p ≠ a := fun e => hpa (by rw [e]; exact List.mem_cons_self)
      have hpa2 : p ∉ as := fun e => hpa (List.mem_cons_of_mem _ e)
      have hpm : G1 p = some (.lst ((as.reverse ++ [a]).map V.ref)) := by
        rw [hp, List.map_append]
        rfl
      have rm : ts.length < room ts rest → decide ((vs.length : Int) < if as.reverse.length = 0 then 1 else 2) = true := fun h => by
        unfold room at h
        rw [List.length_reverse, la, lv]
        refine decide_eq_true ?_
        by_cases h0 : rest.length = 0
        · rw [if_pos h0] at h ⊢
          omega
        · rw [if_neg h0] at h ⊢
          omega
      have rm0 : ¬ ts.length < room ts rest → decide ((vs.length : Int) < if as.reverse.length = 0 then 1 else 2) = false := fun h => by
        unfold room at h
        rw [List.length_reverse, la, lv]
        refine decide_eq_false ?_
        by_cases h0 : rest.length = 0
        · rw [if_pos h0] at h ⊢
          omega
        · rw [if_neg h0] at h ⊢
          omega
      have r2 : ts.length < room ts rest → ts.length < 2 := fun h => by
        unfold room at h
        by_cases h0 : rest.length = 0
        · rw [if_pos h0] at h
          omega
        · rw [if_neg h0] at h
          exact h
      by_cases c1 : c = 120
      · subst c1
        rw [stp_x] at hrn
        by_cases rr : ts.length < room ts rest
        · rw [if_pos rr] at hrn
          have hrn : pr ((ts ++ [.L]) :: rest) (j + 1) (z.cps.toList.drop (j + 1)) = pr [[]] 0 z.cps.toList := hrn
          refine ⟨_, rfl, rfl, _, rfl, ite_yes (by decide +kernel) ⟨_, rfl, p, a, as.reverse, vs, rfl, hpm, hA, by rw [List.length_reverse]; omega, by have := r2 rr; omega, _, rfl, ite_yes (rm rr) ?_⟩⟩
          refine ⟨_, rfl, _, rfl, p, _, _, _, rfl, rfl, SqL.here hp, atI_last _ _, .inl ⟨rfl, _, SqL.here hA⟩, zero_le', fun q2 nq2 => ?_⟩
          have sq := Same.new nq2 (.tup [])
          have naq : a ≠ q2 := ne_of_none hA nq2
          have tp : Tp G1 (upd (upd G1 q2 (.tup [])) a (.lst (vs ++ [.ref q2]))) := (Tp.same sq).trans (Tp.but (sq _ _ hA) But.set)
          refine ⟨a, _, _, rfl, rfl, sq _ _ hA, small1000 (by have := r2 rr; omega), (ts ++ [.L]) :: rest, _, _, _, rfl, fun b o e => ?_, ⟨a :: as, ?_, nd, hpa, hp0, ha0, .cons upd_same ?_ (hP.mono tp fun b hb o e => ?_)⟩, by show rest.length + 1 ≤ _; omega, ?_, hrn, ⟨by rw [List.length_append, List.length_singleton]; exact rr, hwf.2⟩⟩
          · rw [upd_ne (ne_of_none e (ha0 a List.mem_cons_self))]
            exact sq _ _ (sm _ _ e)
          · rw [upd_ne hpa1, rev_ref]
            exact sq _ _ hp
          · rw [List.map_append]
            refine dpAll_snoc (dpAll_tp tp hD) (ta_leaf ?_)
            refine SqT.here ?_
            rw [upd_ne naq.symm, upd_same]
          · rw [upd_ne (fun z : b = a => nd1.1 (z ▸ hb))]
            exact sq _ _ e
          · intro l hm
            rcases List.mem_cons.mp hm with e | hm
            · rw [e, List.length_append, List.length_singleton]
              omega
            · exact hle1 l hm
        · refine ⟨_, rfl, rfl, _, rfl, ite_yes (by decide +kernel) ⟨_, rfl, p, a, as.reverse, vs, rfl, hpm, hA, by rw [List.length_reverse]; omega, by omega, _, rfl, ite_no (rm0 rr) ?_⟩⟩
          refine ⟨_, rfl, rfl, _, rfl, ite_no (by decide +kernel) (iteF ?_)⟩
          refine ⟨_, rfl, rfl, _, rfl, ite_no (by decide +kernel) (iteF ?_)⟩
          refine ⟨_, rfl, (by show 1 ≤ 1000; omega), fun b nb => ⟨b, _, rfl, upd_same, ⟨_, rfl, by omega, by omega⟩, fun dx ndx ne => ?_⟩⟩
          rw [upd_ne ne] at ndx
          refine ⟨rfl, dx, _, upd_same, (upd_ne ne).trans upd_same, ndx, ?_⟩
          refine bad (by rw [stp_x, if_neg rr]) dx _ (fun b' o hb' => ?_) (sm.free ndx) upd_same
          have h2 := sm _ _ hb'
          have ba : b' ≠ b := ne_of_none h2 nb
          have bd : b' ≠ dx := ne_of_none h2 ndx
          rw [upd_ne bd, del_ne ba, upd_ne ba, upd_ne bd, upd_ne ba]
          exact h2
      · by_cases c2 : c = 40
        · subst c2
          rw [stp_o] at hrn
          by_cases rr : ts.length < room ts rest
          · rw [if_pos rr] at hrn
            have hrn : pr ([] :: ts :: rest) (j + 1) (z.cps.toList.drop (j + 1)) = pr [[]] 0 z.cps.toList := hrn
            refine ⟨_, rfl, rfl, _, rfl, ite_no (by decide +kernel) (iteF ?_)⟩
            refine ⟨_, rfl, rfl, _, rfl, ite_yes (by decide +kernel) ⟨_, rfl, p, a, as.reverse, vs, rfl, hpm, hA, by rw [List.length_reverse]; omega, by have := r2 rr; omega, _, rfl, ite_yes (rm rr) ?_⟩⟩
            refine ⟨_, rfl, .inl ⟨rfl, _, SqL.here hp⟩, zero_le', fun b nb => ?_⟩
            have sq := Same.new nb (.lst [])
            have npb : p ≠ b := ne_of_none hp nb
            have hPb : b ∉ a :: as := pile_free nb (.cons hA hD hP)
            have tp : Tp G1 (upd (upd G1 b (.lst [])) p (.lst ((as.reverse.map V.ref ++ [.ref a]) ++ [.ref b]))) := (Tp.same sq).trans (Tp.but (sq _ _ hp) But.set)
            have lr : (as.reverse.map V.ref ++ [V.ref a]).length = as.length + 1 := by simp
            refine ⟨p, _, _, rfl, rfl, sq _ _ hp, Nat.lt_of_le_of_lt (m := 4000) (by rw [lr]; omega) (by decide), [] :: ts :: rest, _, _, _, rfl, fun b o e => ?_, ⟨b :: a :: as, ?_, List.nodup_cons.mpr ⟨hPb, nd⟩, ?_, hp0, ?_, .cons ?_ .nil (Pile.mono tp (fun e he o eo => ?_) (.cons hA hD hP))⟩, by show rest.length + 1 + 1 ≤ _; omega, ?_, hrn, ⟨Nat.zero_le _, rr, hwf.2⟩⟩
            · rw [upd_ne (ne_of_none e hp0)]
              exact sq _ _ (sm _ _ e)
            · rw [upd_same, rev_ref b, rev_ref a]
            · intro z
              rcases List.mem_cons.mp z with z | z
              · exact npb z
              · exact hpa z
            · intro e he
              rcases List.mem_cons.mp he with z | z
              · rw [z]
                exact sm.free nb
              · exact ha0 e z
            · rw [upd_ne npb.symm, upd_same]
            · rw [upd_ne (fun z : e = p => hpa (z ▸ he))]
              exact sq _ _ eo
            · intro l hm
              rcases List.mem_cons.mp hm with e | hm
              · rw [e]
                exact Nat.zero_le _
              · exact Nat.le_succ_of_le (hle l hm)
          · refine ⟨_, rfl, rfl, _, rfl, ite_no (by decide +kernel) (iteF ?_)⟩
            refine ⟨_, rfl, rfl, _, rfl, ite_yes (by decide +kernel) ⟨_, rfl, p, a, as.reverse, vs, rfl, hpm, hA, by rw [List.length_reverse]; omega, by omega, _, rfl, ite_no (rm0 rr) ?_⟩⟩
            refine ⟨_, rfl, rfl, _, rfl, ite_no (by decide +kernel) (iteF ?_)⟩
            refine ⟨_, rfl, (by show 1 ≤ 1000; omega), fun b nb => ⟨b, _, rfl, upd_same, ⟨_, rfl, by omega, by omega⟩, fun dx ndx ne => ?_⟩⟩
            rw [upd_ne ne] at ndx
            refine ⟨rfl, dx, _, upd_same, (upd_ne ne).trans upd_same, ndx, ?_⟩
            refine bad (by rw [stp_o, if_neg rr]) dx _ (fun b' o hb' => ?_) (sm.free ndx) upd_same
            have h2 := sm _ _ hb'
            have ba : b' ≠ b := ne_of_none h2 nb
            have bd : b' ≠ dx := ne_of_none h2 ndx
            rw [upd_ne bd, del_ne ba, upd_ne ba, upd_ne bd, upd_ne ba]
            exact h2
        · by_cases c3 : c = 41
          · subst c3
            rw [stp_c] at hrn
            by_cases l2 : ts.length = 2
            rotate_left
            · refine ⟨_, rfl, rfl, _, rfl, ite_no (by decide +kernel) (iteF ?_)⟩
              refine ⟨_, rfl, rfl, _, rfl, ite_no (by decide +kernel) (iteF ?_)⟩
              refine ⟨_, rfl, rfl, _, rfl, ite_yes (by decide +kernel) ⟨_, rfl, _, rfl, p, _, _, _, rfl, rfl, SqL.here hp, atI_last _ _, a, _, rfl, .inl (SqL.here hA), rfl, _, rfl, ite_no (decide_eq_false (fun y => l2 (by have := V.int.inj y; omega))) ?_⟩⟩
              refine ⟨_, rfl, (by show 1 ≤ 1000; omega), fun b nb => ⟨b, _, rfl, upd_same, ⟨_, rfl, by omega, by omega⟩, fun dx ndx ne => ?_⟩⟩
              rw [upd_ne ne] at ndx
              refine ⟨rfl, dx, _, upd_same, (upd_ne ne).trans upd_same, ndx, ?_⟩
              refine bad (by rw [stp_c]; match ts, rest, l2 with | [], _, _ => rfl | [_], _, _ => rfl | [_, _], _, l2 => exact absurd rfl l2 | _ :: _ :: _ :: _, _, _ => rfl) dx _ (fun b' o hb' => ?_) (sm.free ndx) upd_same
              have h2 := sm _ _ hb'
              have ba : b' ≠ b := ne_of_none h2 nb
              have bd : b' ≠ dx := ne_of_none h2 ndx
              rw [upd_ne bd, del_ne ba, upd_ne ba, upd_ne bd, upd_ne ba]
              exact h2
            clear bad
            match ts, rest, hD, hP, hrn, lv, la, hl, hwf, l2 with
            | [t1, t2], [], _, _, _, _, _, _, hwf, _ => exact absurd hwf.1 (by show ¬ 2 ≤ 1; omega)
            | [t1, t2], us :: more, hD, .cons (a := a2) (vs := ws) (as := as2) hA2 hD2 hP2, hrn, lv, la, hl, hwf, _ =>
              have hrn : pr ((us ++ [.N t1 t2]) :: more) (j + 1) (z.cps.toList.drop (j + 1)) = pr [[]] 0 z.cps.toList := hrn
              obtain ⟨y1, y2, rfl, h1, h2⟩ : ∃ y1 y2, vs = [y1, y2] ∧ TA K G1 y1 t1 ∧ TA K G1 y2 t2 := by
                cases hD with
                | cons h1 h2 =>
                  cases h2 with
                  | cons h3 h4 =>
                    cases h4
                    exact ⟨_, _, rfl, h1, h3⟩
              refine ⟨_, rfl, rfl, _, rfl, ite_no (by decide +kernel) (iteF ?_)⟩
              refine ⟨_, rfl, rfl, _, rfl, ite_no (by decide +kernel) (iteF ?_)⟩
              refine ⟨_, rfl, rfl, _, rfl, ite_yes (by decide +kernel) ⟨_, rfl, _, rfl, p, _, _, _, rfl, rfl, SqL.here hp, atI_last _ _, a, _, rfl, .inl (SqL.here hA), rfl, _, rfl, ite_yes (by show decide (V.int ((2 : Nat) : Int) = V.int 2) = true; decide +kernel) ?_⟩⟩
              rw [rev_ref] at hp
              have hpm2 : (List.map V.ref as2.reverse ++ [V.ref a2] ++ [V.ref a]).dropLast = List.map V.ref as2.reverse ++ [V.ref a2] := List.dropLast_concat
              have na2 : a2 ≠ a := fun z => nd1.1 (by rw [← z]; exact List.mem_cons_self)
              have np2 : a2 ≠ p := fun z => hpa2 (by rw [← z]; exact List.mem_cons_self)
              refine ⟨_, rfl, .inl ⟨rfl, _, SqL.here hp⟩, p, _, .ref a, rfl, rfl, hp, by simp, a, [y1, y2], rfl, .inl ⟨?_, fun l nl => ?_⟩⟩
              · refine SqL.here ?_
                rw [upd_ne hpa1.symm]
                exact hA
              rw [hpm2] at nl ⊢
              have tp1 : Tp G1 (upd G1 p (.lst (List.map V.ref as2.reverse ++ [V.ref a2]))) := Tp.but hp But.set
              have sl := Same.new nl (.tup [y1, y2])
              have hp3 : (upd (upd G1 p (.lst (List.map V.ref as2.reverse ++ [V.ref a2]))) l (.tup [y1, y2])) p = some (.lst (List.map V.ref as2.reverse ++ [V.ref a2])) := sl _ _ upd_same
              have hA3 : (upd (upd G1 p (.lst (List.map V.ref as2.reverse ++ [V.ref a2]))) l (.tup [y1, y2])) a2 = some (.lst ws) := sl _ _ (by rw [upd_ne np2]; exact hA2)
              have hl3 : (upd (upd G1 p (.lst (List.map V.ref as2.reverse ++ [V.ref a2]))) l (.tup [y1, y2])) l = some (.tup [y1, y2]) := upd_same
              have tp2 : Tp G1 (upd (upd G1 p (.lst (List.map V.ref as2.reverse ++ [V.ref a2]))) l (.tup [y1, y2])) := tp1.trans (Tp.same sl)
              have sm3 : Same H (upd (upd G1 p (.lst (List.map V.ref as2.reverse ++ [V.ref a2]))) l (.tup [y1, y2])) := fun b o e => sl _ _ (by rw [upd_ne (ne_of_none e hp0)]; exact sm _ _ e)
              have kp3 : ∀ b ∈ as2, ∀ o, G1 b = some o → (upd (upd G1 p (.lst (List.map V.ref as2.reverse ++ [V.ref a2]))) l (.tup [y1, y2])) b = some o := fun b hb o e => sl _ _ (by rw [upd_ne (fun z : b = p => hpa2 (z ▸ List.mem_cons_of_mem _ hb))]; exact e)
              generalize (upd (upd G1 p (.lst (List.map V.ref as2.reverse ++ [V.ref a2]))) l (.tup [y1, y2])) = G3 at *
              have lw := dpAll_len hD2
              rw [List.length_map] at lw
              have hle2 := hle us (List.mem_cons_of_mem _ List.mem_cons_self)
              have tp4 : Tp G3 (upd G3 a2 (.lst (ws ++ [.ref l]))) := Tp.but hA3 But.set
              have nd2 := List.nodup_cons.mp nd1.2
              refine ⟨_, rfl, _, rfl, p, _, _, _, rfl, rfl, SqL.here hp3, atI_last _ _, .inl ⟨rfl, _, SqL.here hA3⟩, _, rfl, a2, _, _, rfl, rfl, hA3, Nat.lt_of_le_of_lt (m := 4000) (by omega) (by decide), (us ++ [.N t1 t2]) :: more, _, _, _, rfl, fun b o e => ?_, ⟨a2 :: as2, ?_, nd1.2, hpa2, hp0, fun b hb => ha0 b (List.mem_cons_of_mem _ hb), .cons upd_same ?_ (hP2.mono (tp2.trans tp4) fun b hb o e => ?_)⟩, ?_, ?_, hrn, ⟨by rw [List.length_append, List.length_singleton]; exact hwf.2.1, hwf.2.2⟩⟩
              · rw [upd_ne (ne_of_none e (ha0 a2 (List.mem_cons_of_mem _ List.mem_cons_self)))]
                exact sm3 _ _ e
              · rw [upd_ne np2.symm, rev_ref]
                exact hp3
              · rw [List.map_append]
                refine dpAll_snoc (dpAll_tp (tp2.trans tp4) hD2) (ta_node (tp4.sqT (SqT.here hl3)) (ta_mono (tp2.trans tp4) h1) (ta_mono (tp2.trans tp4) h2))
              · rw [upd_ne (fun z : b = a2 => nd2.1 (z ▸ hb))]
                exact kp3 b hb o e
              · have hl : more.length + 1 + 1 ≤ j + 1 := hl
                show more.length + 1 ≤ _
                omega
              · intro l' hm
                rcases List.mem_cons.mp hm with e | hm
                · rw [e, List.length_append, List.length_singleton]
                  omega
                · exact Nat.le_succ_of_le (hle l' (List.mem_cons_of_mem _ (List.mem_cons_of_mem _ hm)))
          · have sne : ∀ {k : Nat} {y : Str}, y = ⟨#[k]⟩ → c ≠ k → decide (V.str ⟨#[c]⟩ = V.str y) = false := fun {k y} ey hk => decide_eq_false fun h => by
              rw [ey] at h
              injection h with h
              injection h with h
              have h3 := congrArg Array.toList h
              simp at h3
              exact hk h3
            refine ⟨_, rfl, rfl, _, rfl, ite_no (sne rfl c1) (iteF ?_)⟩
            refine ⟨_, rfl, rfl, _, rfl, ite_no (sne rfl c2) (iteF ?_)⟩
            refine ⟨_, rfl, rfl, _, rfl, ite_no (sne rfl c3) (iteF ?_)⟩
            refine ⟨_, rfl, (by show 1 ≤ 1000; omega), fun b nb => ⟨b, _, rfl, upd_same, ⟨_, rfl, by omega, by omega⟩, fun dx ndx ne => ?_⟩⟩
            rw [upd_ne ne] at ndx
            refine ⟨rfl, dx, _, upd_same, (upd_ne ne).trans upd_same, ndx, ?_⟩
            refine bad (stp_else ts rest c1 c2 c3) dx _ (fun b' o hb' => ?_) (sm.free ndx) upd_same
            have h2 := sm _ _ hb'
            have ba : b' ≠ b := ne_of_none h2 nb
            have bd : b' ≠ dx := ne_of_none h2 ndx
            rw [upd_ne bd, del_ne ba, upd_ne ba, upd_ne bd, upd_ne ba]
            exact h2
  · rintro σ G ⟨st, x2, x3, x4, rfl, sm, ⟨as, hp, nd, hpa, hp0, ha0, hP⟩, hl, hle, hrn, hwf⟩
    have e0 : z.cps.toList.drop z.cps.size = [] := List.drop_eq_nil_of_le (by simp)
    rw [e0] at hrn
    have hrn : Except.ok st = pr [[]] 0 z.cps.toList := hrn
    obtain ⟨as', a, vs, st', ts, ea, es, hA, hD⟩ := pile_bot hP (fun y => by rw [y] at hwf; exact hwf)
    have lv := dpAll_len hD
    rw [List.length_map] at lv
    have hp : G p = some (.lst (.ref a :: as'.reverse.map V.ref)) := by rw [hp, ea]; simp
    have er : rd z.cps.toList = hdT z.cps.toList.length ts := by
      unfold rd
      rw [← hrn, es]
      simp only [List.getLast?_append, List.getLast?_singleton, Option.some_or]
      cases ts <;> rfl
    have at0 : atI (V.ref a :: as'.reverse.map V.ref) 0 = some (.ref a) := atI_nat (j := 0) rfl
    refine ⟨_, rfl, p, _, 0, _, rfl, rfl, SqL.here hp, at0, a, _, rfl, .inl (SqL.here hA), rfl, _, rfl, ?_⟩
    cases ts with
    | nil =>
      cases hD
      refine ite_yes (by show decide (V.int ((0 : Nat) : Int) = V.int 0) = true; decide +kernel) ?_
      refine ⟨_, rfl, z, rfl, Nat.le_trans (show z.length ≤ 1000 from hz) (by decide), (by show 1 ≤ 1000; omega), fun b nb => ⟨b, _, rfl, upd_same, ⟨_, rfl, by omega, by have : z.length ≤ 1000 := hz; omega⟩, fun dx ndx ne => ?_⟩⟩
      rw [upd_ne ne] at ndx
      refine ⟨rfl, dx, _, upd_same, (upd_ne ne).trans upd_same, ndx, ?_⟩
      refine qE z.cps.toList.length er dx _ (fun b' o hb' => ?_) (sm.free ndx) (by rw [Array.length_toList]; exact upd_same)
      have h2 := sm _ _ hb'
      have ba : b' ≠ b := ne_of_none h2 nb
      have bd : b' ≠ dx := ne_of_none h2 ndx
      rw [upd_ne bd, del_ne ba, upd_ne ba, upd_ne bd, upd_ne ba]
      exact h2
    | cons t more =>
      cases hD with
      | cons h1 h2 =>
        refine ite_no (decide_eq_false (fun y => by have := V.int.inj y; rw [List.length_cons] at this; omega)) ?_
        exact ⟨_, rfl, p, _, 0, _, rfl, rfl, SqL.here hp, at0, a, _, 0, _, rfl, rfl, SqL.here hA, atI_nat (j := 0) rfl, q t er _ _ h1 sm⟩

abbrev s_parse_term : Stmt := top 24
theorem sc_parse_term : FnScope ["text", "term"] ["text"] (defScope s_parse_term) := ⟨rfl, rfl, rfl, by decide +kernel, rfl, by decide +kernel, by decide +kernel⟩
theorem ok_parse_term {fp fi fc fr fh CX CI fL : Addr} {fpd fid fcd frd fhd fdL : FuncData} (d : D K mg "parse_term" s_parse_term ["text"] f fd) (B : Blt mg) (C : Cst mg) (EI : ErrC K mg "InvalidTerm" CI) (FL : FunS P K mg "InvalidText" "InvalidText.__init__" s_ITInit ["self", "position"] CX fL fdL) (nL : PySem.W.findIn K (.ref CX) "position" = some none) (d_is_pair : D K mg "is_pair" s_is_pair ["part"] fp fpd) (d_is_term : D K mg "is_term" s_is_term ["term"] fi fid)
    (d_check_term : D K mg "check_term" s_check_term ["term"] fc fcd) (d_read_term : D K mg "read_term" s_read_term ["text"] fr frd) (d_has_room : D K mg "has_room" s_has_room ["open_lists"] fh fhd) : FnOk P w K mg base (L2N.CX P w) 4 f fd ["text"] (spParseE K CX CI) := by
  have G_check_term : FnOk P w K mg base (L2N.CX P w) 3 fc fcd ["term"] (spChk K CI) := ok_check_term d_check_term B C EI d_is_pair d_is_term
  have G_read_term : FnOk P w K mg base (L2N.CX P w) 3 fr frd ["text"] (spReadE K CX) := ok_read_term d_read_term B FL nL d_has_room
  refine Fun.okN d.F sc_parse_term (fun vs H Q E h => ?_) (fun cdv A outer s H vs Q E hr h => ?_)
  · obtain ⟨_, rfl, _⟩ := h
    rfl
  obtain ⟨z, rfl, hz, hsz, q, qI, qX⟩ := h
  refine ⟨_, (pss_cons (ps_set (i := 1) sc_parse_term.nd rfl (Or.inl rfl) (pe_call G_read_term (hr.mono (by decide)) rfl d_read_term.m d_read_term.F.kp d_read_term.b .nil passD (pa_cons (pv 0) pa_nil)))
 (pss_cons (ps_expr (pe_call G_check_term (hr.mono (by decide)) rfl d_check_term.m d_check_term.F.kp d_check_term.b .nil passD (pa_cons (pv 1) pa_nil)))
 (pss_one (ps_ret (pv 1))))), ?_⟩
  refine ⟨_, rfl, z, rfl, hz, fun t et v H1 a1 s1 => ?_, qX⟩
  have h1 := hsz t et
  have h2 := t.dp_sz
  have hnd := tree_nodes t
  refine ⟨_, rfl, v, t.d, rfl, NT.of a1 (by omega), by rw [tree_nd]; omega, fun ok H2 s2 => ?_, fun no H2 s2 => ?_⟩
  · rw [tree_okd] at ok
    have ok := Bool.and_eq_true_iff.mp ok
    exact ⟨_, rfl, q t et (of_decide_eq_true ok.2) (of_decide_eq_true ok.1) v H2 (ta_mono (Tp.same s2) a1) (s1.trans s2)⟩
  · refine qI t et (fun y => ?_) H2 (s1.trans s2)
    rw [tree_okd, decide_eq_true y.1, decide_eq_true y.2] at no
    cases no

abbrev s_written : Stmt := top 23
theorem sc_written : FnScope ["term"] ["term"] (defScope s_written) := ⟨rfl, rfl, rfl, by decide +kernel, rfl, by decide +kernel, by decide +kernel⟩
theorem ok_written (d_written : D K mg "written" s_written ["term"] f fd) : ∀ n : Nat, FnOk P w K mg base CX0 n f fd ["term"] (spText K n)
  | 0 => fn_none spText_no
  | n + 1 => by
    have G_written := ok_written d_written n
    refine d_written.F.ok sc_written (fun vs H Q E h => ?_) (fun cdv A outer s H vs Q E hr h => ?_)
    · obtain ⟨_, _, rfl, _⟩ := h
      rfl
    obtain ⟨v, t, rfl, ha, hd, hn, hz, q⟩ := h
    refine ⟨_, (pss_cons (ps_if (pt_cmpR (op_eqD hr.units) (pv 0) (pe_tup pa_nil) (nomark _)) (pss_one (ps_ret pe_str)) pss_nil)
 (pss_one (ps_ret (pe_joined (PJ.cons pe_str (PJ.cons (pe_fmt (pe_call G_written hr rfl d_written.m d_written.F.kp d_written.b .nil pass0 (pa_cons (pe_ix ix_tup (pv 0) pe_int (fun _ _ => rfl)) pa_nil))) (PJ.cons (pe_fmt (pe_call G_written hr rfl d_written.m d_written.F.kp d_written.b .nil pass0 (pa_cons (pe_ix ix_tup (pv 0) pe_int (fun _ _ => rfl)) pa_nil))) (PJ.cons pe_str PJ.nil)))))))), ?_⟩
    refine ⟨_, rfl, zero_le', fun p hp => ⟨t.d, .tuple [], ta_mono (Tp.same (Same.new hp _)) ha, Dp.tup (SqT.here upd_same) .nil, Tree.shaped (by omega), shapedE, _, rfl, ite_eq (Tree.eqvL t) ?_⟩⟩
    have s1 := Same.new hp (.tup [])
    cases t with
    | L => exact iteT (q _ s1)
    | N l r =>
      have hd : max l.dp r.dp + 1 < n + 1 := hd
      have hz : l.sz + r.sz ≤ 1000 := hz
      have l1 := tlen (t := l) (by omega)
      have l2 := tlen (t := r) (by omega)
      have lo : (Str.ofString "(").length = 1 := rfl
      have lc : (Str.ofString ")").length = 1 := rfl
      have le : (Str.empty).length = 0 := rfl
      obtain ⟨b, x1, x2, rfl, hS, hL, hR⟩ := ta_invN (ta_mono (Tp.same s1) ha)
      refine iteF ⟨_, rfl, fits (by rw [slen]; omega), _, rfl, b, _, 0, _, rfl, rfl, hS, rfl, x1, l, rfl, hL, by omega, by omega, by omega, fun H2 s2 => .inl ⟨_, rfl, fits (by omega), _, rfl, fits (by rw [slen, slen]; omega), ?_⟩⟩
      refine ⟨_, rfl, b, _, 1, _, rfl, rfl, (Tp.same s2).sqT hS, rfl, x2, r, rfl, ta_mono (Tp.same s2) hR, by omega, by omega, by omega, fun H3 s3 => .inl ⟨_, rfl, fits (by omega), _, rfl, fits (by rw [slen, slen, slen]; omega), _, rfl, fits (by rw [slen, slen, slen, slen]; omega), ?_⟩⟩
      have q' := q H3 ((s1.trans s2).trans s3)
      have e : (((Str.empty ++ Str.ofString "(") ++ l.txt) ++ r.txt) ++ Str.ofString ")" = (Tree.N l r).txt := by
        rw [← Tree.txtN]
        rfl
      show Q (.str ((((Str.empty ++ Str.ofString "(") ++ l.txt) ++ r.txt) ++ Str.ofString ")")) H3
      rw [e]
      exact q'

abbrev s_format_term : Stmt := top 22
theorem sc_format_term : FnScope ["term"] ["term"] (defScope s_format_term) := ⟨rfl, rfl, rfl, by decide +kernel, rfl, by decide +kernel, by decide +kernel⟩
theorem ok_format_term {fp fi fc fg CI : Addr} {fpd fid fcd fgd : FuncData} (d : D K mg "format_term" s_format_term ["term"] f fd) (B : Blt mg) (C : Cst mg) (EI : ErrC K mg "InvalidTerm" CI) (d_is_pair : D K mg "is_pair" s_is_pair ["part"] fp fpd) (d_is_term : D K mg "is_term" s_is_term ["term"] fi fid)
    (d_check_term : D K mg "check_term" s_check_term ["term"] fc fcd) (d_written : D K mg "written" s_written ["term"] fg fgd) : FnOk P w K mg base CX0 8 f fd ["term"] (spOkText K) := by
  have G_check_term : FnOk P w K mg base (L2N.CX P w) 3 fc fcd ["term"] (spChk K CI) := ok_check_term d_check_term B C EI d_is_pair d_is_term
  have G_written : FnOk P w K mg base CX0 7 fg fgd ["term"] (spText K 7) := ok_written d_written 7
  refine d.F.ok sc_format_term (fun vs H Q E h => ?_) (fun cdv A outer s H vs Q E hr h => ?_)
  · obtain ⟨_, _, rfl, _⟩ := h
    rfl
  obtain ⟨v, t, rfl, ha, hz, hd, q⟩ := h
  refine ⟨_, (pss_cons (ps_expr (pe_call G_check_term (hr.mono (by decide)) rfl d_check_term.m d_check_term.F.kp d_check_term.b .nil passF (pa_cons (pv 0) pa_nil)))
 (pss_one (ps_ret (pe_call G_written (hr.mono (by decide)) rfl d_written.m d_written.F.kp d_written.b .nil pass0 (pa_cons (pv 0) pa_nil))))), ?_⟩
  obtain ⟨n1, n2, n3⟩ := nt_ok ha hz hd
  exact ⟨_, rfl, v, t.d, rfl, n1, n2, fun _ H1 s1 => ⟨_, rfl, v, t, rfl, ta_mono (Tp.same s1) ha, by omega, by omega, by omega, fun H2 s2 => q H2 (s1.trans s2)⟩, fun bad => (n3 bad).elim⟩

abbrev s_term_in_row : Stmt := top 58
theorem sc_term_in_row : FnScope ["at", "written"] ["at", "written"] (defScope s_term_in_row) := ⟨rfl, rfl, rfl, by decide +kernel, rfl, by decide +kernel, by decide +kernel⟩
def spTRow (K : PySem.W.Frag) : Sp := fun vs H Q _ => ∃ (i : Nat) (z : List Nat) (t : Tree), vs = [.int (i : Int), .str (sL z)] ∧ z.length ≤ 1000 ∧ rd z = .ok t ∧ t.sz ≤ 12 ∧ t.dp ≤ 6 ∧ ∀ v H', TA K H' v t → Same H H' → Q v H'
theorem ok_term_in_row {fp fi fc fr fh fg CX CI fL : Addr} {fpd fid fcd frd fhd fgd fdL : FuncData} (d : D K mg "term_in_row" s_term_in_row ["at", "written"] f fd) (B : Blt mg) (C : Cst mg) (EI : ErrC K mg "InvalidTerm" CI) (FL : FunS P K mg "InvalidText" "InvalidText.__init__" s_ITInit ["self", "position"] CX fL fdL) (nL : PySem.W.findIn K (.ref CX) "position" = some none) (d_is_pair : D K mg "is_pair" s_is_pair ["part"] fp fpd) (d_is_term : D K mg "is_term" s_is_term ["term"] fi fid)
    (d_check_term : D K mg "check_term" s_check_term ["term"] fc fcd) (d_read_term : D K mg "read_term" s_read_term ["text"] fr frd) (d_has_room : D K mg "has_room" s_has_room ["open_lists"] fh fhd) (d_parse_term : D K mg "parse_term" s_parse_term ["text"] fg fgd) : FnOk P w K mg base CX0 5 f fd ["at", "written"] (spTRow K) := by
  have G_parse_term : FnOk P w K mg base (L2N.CX P w) 4 fg fgd ["text"] (spParseE K CX CI) := ok_parse_term d_parse_term B C EI FL nL d_is_pair d_is_term d_check_term d_read_term d_has_room
  refine d.F.ok sc_term_in_row (fun vs H Q E h => ?_) (fun cdv A outer s H vs Q E hr h => ?_)
  · obtain ⟨_, _, _, rfl, _⟩ := h
    rfl
  obtain ⟨i, z, t, rfl, hz, ht, h1, h2, q⟩ := h
  refine ⟨_, (pss_one (ps_try_thru0 (pss_one (ps_ret (pe_call G_parse_term (hr.mono (by decide)) rfl d_parse_term.m d_parse_term.F.kp d_parse_term.b .nil passF (pa_cons (pv 1) pa_nil)))))), ?_⟩
  have un : ∀ u, rd (sL z).cps.toList = .ok u → u = t := fun u hu => by
    have hu : rd z = .ok u := hu
    rw [ht] at hu
    cases hu
    rfl
  refine ⟨_, rfl, sL z, rfl, hz, fun u hu => by rw [un u hu]; omega, fun u hu _ _ v H' hv s1 => ?_, fun u hu n => absurd (by rw [un u hu]; exact ⟨h1, h2⟩) n, fun j hj => ?_⟩
  · rw [un u hu] at hv
    exact q v H' hv s1
  · have hj : rd z = .error j := hj
    rw [ht] at hj
    cases hj

abbrev s_load : Stmt := top 57
theorem sc_load : FnScope ["text", "rows", "rest", "contents", "before", "at", "row", "label", "space", "written"] ["text"] (defScope s_load) := ⟨rfl, rfl, rfl, by decide +kernel, rfl, by decide +kernel, by decide +kernel⟩
def spLoad (K : PySem.W.Frag) (C : Addr) : Sp := fun vs H Q _ => ∃ (z : List Nat) (cs : Cts), vs = [.str (sL z)] ∧ z.length ≤ 1000 ∧ ldT z = .ok cs ∧ ∀ (x p f' : Addr) (H' : Hp), H x = none → H p = none → H f' = none → Same H H' → StA K C ⟨x, p, f'⟩ ⟨cs, [], []⟩ H' → CtOk cs → Q (.ref x) H'
theorem rowP_len (row : List Nat) : (rowP row).1.length ≤ row.length ∧ (rowP row).2.length ≤ row.length := by
  unfold rowP
  cases e : TL.par [32] [] row with
  | none => exact ⟨Nat.le_refl _, Nat.zero_le _⟩
  | some pq =>
    obtain ⟨p, q⟩ := pq
    have key : ∀ (l acc : List Nat) (p q : List Nat), TL.par [32] acc l = some (p, q) → p.length + q.length ≤ acc.length + l.length := by
      intro l
      induction l with
      | nil => intro acc p q h; cases h
      | cons c r ih =>
        intro acc p q h
        unfold TL.par at h
        split at h
        · cases h
          rw [List.length_drop, List.length_cons]
          omega
        · have := ih _ _ _ h
          rw [List.length_append, List.length_singleton] at this
          rw [List.length_cons]
          omega
    have := key row [] p q e
    rw [List.length_nil, Nat.zero_add] at this
    exact ⟨by show p.length ≤ _; omega, by show q.length ≤ _; omega⟩
theorem part_row (row : List Nat) : ∃ sp : Str, Txt.partition (sL row) (Str.ofString " ") = (sL (rowP row).1, sp, sL (rowP row).2) := by
  have e0 : Str.ofString " " = SX.S [32] := by decide +kernel
  rw [e0]
  cases e : TL.par [32] [] row with
  | none =>
    refine ⟨SX.S [], ?_⟩
    unfold rowP
    rw [e]
    exact SX.partition_none (List.cons_ne_nil _ _) e
  | some pq =>
    obtain ⟨p, q⟩ := pq
    refine ⟨SX.S [32], ?_⟩
    unfold rowP
    rw [e]
    exact SX.partition_some (List.cons_ne_nil _ _) e
theorem spl_sum (c : Nat) : ∀ (l acc : List Nat), ((TL.spl [c] 0 acc l).map List.length).sum + (TL.spl [c] 0 acc l).length = acc.length + l.length + 1 := by
  intro l
  induction l with
  | nil => intro acc; rw [TL.spl_nil]; simp
  | cons d r ih =>
    intro acc
    cases h : TL.pre [c] (d :: r) with
    | true =>
      rw [TL.spl_hit h]
      have := ih []
      simp at this ⊢
      omega
    | false =>
      rw [TL.spl_miss h]
      have := ih (acc ++ [d])
      rw [List.length_append, List.length_singleton] at this
      rw [List.length_cons]
      omega
theorem sum_mem : ∀ {l : List Nat} {n : Nat}, n ∈ l → n ≤ l.sum
  | x :: l, n, h => by
    rw [List.sum_cons]
    rcases List.mem_cons.mp h with rfl | h
    · omega
    · have := sum_mem h
      omega
theorem rows_len {z row : List Nat} (h : row ∈ rowsT z) : row.length ≤ z.length := by
  have h1 := spl_sum 10 z []
  have h2 : row.length ≤ ((rowsT z).map List.length).sum := sum_mem (List.mem_map.mpr ⟨row, h, rfl⟩)
  have h3 : 1 ≤ (rowsT z).length := List.length_pos_of_mem h
  unfold rowsT at h2 h3
  rw [List.length_nil, Nat.zero_add] at h1
  omega
theorem rows_pos (z : List Nat) : 1 ≤ (rowsT z).length ∧ (rowsT z).length ≤ z.length + 1 := by
  have h1 := spl_sum 10 z []
  rw [List.length_nil, Nat.zero_add] at h1
  refine ⟨?_, by unfold rowsT; omega⟩
  unfold rowsT
  cases e : TL.spl [10] 0 [] z with
  | nil => rw [e] at h1; simp at h1
  | cons _ _ => exact Nat.succ_le_succ (Nat.zero_le _)
theorem drop_at {α : Type} {l : List α} {i : Nat} {x : α} (h : l[i]? = some x) : l.drop i = x :: l.drop (i + 1) := by
  have hi := (List.getElem?_eq_some_iff.mp h).1
  have e := (List.getElem?_eq_some_iff.mp h).2
  rw [List.drop_eq_getElem_cons hi, e]
theorem ok_load {C_Store fp fi fc fr fh fg ft fl fo fI CX CI fL : Addr} {fpd fid fcd frd fhd fgd ftd fld fod fdI fdL : FuncData} (d : D K mg "load" s_load ["text"] f fd) (B : Blt mg) (C : Cst mg) (CS : CstS mg) (EI : ErrC K mg "InvalidTerm" CI) (FL : FunS P K mg "InvalidText" "InvalidText.__init__" s_ITInit ["self", "position"] CX fL fdL) (nL : PySem.W.findIn K (.ref CX) "position" = some none) (d_is_pair : D K mg "is_pair" s_is_pair ["part"] fp fpd) (d_is_term : D K mg "is_term" s_is_term ["term"] fi fid)
    (d_check_term : D K mg "check_term" s_check_term ["term"] fc fcd) (d_read_term : D K mg "read_term" s_read_term ["text"] fr frd) (d_has_room : D K mg "has_room" s_has_room ["open_lists"] fh fhd) (d_parse_term : D K mg "parse_term" s_parse_term ["text"] fg fgd) (d_term_in_row : D K mg "term_in_row" s_term_in_row ["at", "written"] ft ftd) (d_is_label : D K mg "is_label" s_is_label ["label"] fl fld)
    (T_Store : StT K mg C_Store) (MKS : L2.Mk K C_Store fI) (FI : Fun K "__init__" "Store.__init__" s_Store___init__ fI fdI) (bI : Binds K fdI ["self"] []) (d_store_of : D K mg "store_of" s_store_of ["contents"] fo fod) : FnOk P w K mg base CX0 6 f fd ["text"] (spLoad K C_Store) := by
  have G_term_in_row : FnOk P w K mg base CX0 5 ft ftd ["at", "written"] (spTRow K) := ok_term_in_row d_term_in_row B C EI FL nL d_is_pair d_is_term d_check_term d_read_term d_has_room d_parse_term
  have G_is_label : FnOk P w K mg base CX0 1 fl fld ["label"] spIsLb := ok_is_label d_is_label B CS
  have G_store_of : FnOk P w K mg base CX0 3 fo fod ["contents"] (spSOf K C_Store) := ok_store_of d_store_of T_Store MKS FI bI
  obtain ⟨t12, C_MAX_LABELS⟩ := CS.c12
  refine d.F.ok sc_load (fun vs H Q E h => ?_) (fun cdv A outer s H vs Q E hr h => ?_)
  · obtain ⟨_, _, rfl, _⟩ := h
    rfl
  obtain ⟨z, cs, rfl, hz, hld, q⟩ := h
  refine ⟨_, (pss_cons (ps_set (i := 1) sc_load.nd rfl (Or.inl rfl) (pe_split (pv 0) pe_str))
 (pss_cons (ps_set (i := 2) sc_load.nd rfl (Or.inl rfl) (pe_bm0 PySem.F.plainAttrs_list PySem.F.slot_list_pop PySem.F.type_list_pop mt_pop (pv 1)))
 (pss_cons (ps_set (i := 3) sc_load.nd rfl (Or.inl rfl) pe_dnewK)
 (pss_cons (ps_set (i := 4) sc_load.nd rfl (Or.inl rfl) pe_str)
 (pss_cons (ps_for PassesOwn.never rfl (pi_enum (by rfl) B.enumerate (pa_cons (pv 1) pa_nil)) (pg_tup (by rfl) (pgs_cons (pg_name (i := 5) sc_load.nd rfl (Or.inl rfl)) (pgs_cons (pg_name (i := 6) sc_load.nd rfl (Or.inl rfl)) pgs_nil)))
  (pss_cons (ps_asg (pe_partition (pv 6) pe_str) (pg_tup (by rfl) (pgs_cons (pg_name (i := 7) sc_load.nd rfl (Or.inl rfl)) (pgs_cons (pg_name (i := 8) sc_load.nd rfl (Or.inl rfl)) (pgs_cons (pg_name (i := 9) sc_load.nd rfl (Or.inl rfl)) pgs_nil)))))
 (pss_cons (ps_if (PW.pt (pw_or (pt_cmpR op_ge (pv 5) (pe_glob (v := .int 12) rfl C_MAX_LABELS ⟨_, rfl⟩) (nomark _)) (pw_or (pt_not (pt_val (pe_call G_is_label (hr.mono (by decide)) rfl d_is_label.m d_is_label.F.kp d_is_label.b .nil pass0 (pa_cons (pv 7) pa_nil)))) (pw_or1 (pt_cmpR op_le_str (pv 7) (pv 4) (nomark _)))))) (pss_one ps_never) pss_nil)
 (pss_cons (ps_dput (Nat.lt_of_le_of_lt (Nat.add_le_add_left (by decide) _) hr.units) (pv 3) (pv 7) (pe_call G_term_in_row (hr.mono (by decide)) rfl d_term_in_row.m d_term_in_row.F.kp d_term_in_row.b .nil pass0 (pa_cons (pv 5) (pa_cons (pv 9) pa_nil))) (by rfl))
 (pss_one (ps_set (i := 4) sc_load.nd rfl (Or.inl rfl) (pv 7)))))))
 (pss_cons (ps_if (pt_cmpR op_ne (pv 2) pe_str (nomark _)) (pss_one ps_never) pss_nil)
 (pss_one (ps_ret (pe_call G_store_of (hr.mono (by decide)) rfl d_store_of.m d_store_of.F.kp d_store_of.b .nil pass0 (pa_cons (pv 3) pa_nil)))))))))), ?_⟩
  have e10 : Str.ofString "\n" = SX.S [10] := by decide +kernel
  have hsp : Txt.split (sL z) (Str.ofString "\n") = (rowsT z).map sL := by
    rw [e10]
    exact SX.split_S (List.cons_ne_nil _ _) (by decide)
  refine ⟨_, rfl, ⟨_, rfl⟩, sL z, _, rfl, rfl, (by decide +kernel), Nat.le_trans (show z.length + 2 ≤ 10000 by omega) (by decide), fun p np => ?_⟩
  rw [hsp]
  obtain ⟨rows, last, er⟩ : ∃ rows last, rowsT z = rows ++ [last] := by
    rcases List.eq_nil_or_concat (rowsT z) with h | ⟨a, b, h⟩
    · have := (rows_pos z).1
      rw [h] at this
      cases this
    · exact ⟨a, b, by rw [h, List.concat_eq_append]⟩
  have hlr : rows.length ≤ 1000 := by
    have := (rows_pos z).2
    rw [er, List.length_append] at this
    simp at this
    omega
  have hrl : ∀ row ∈ rows ++ [last], row.length ≤ 1000 := fun row hr => by
    have := rows_len (z := z) (by rw [er]; exact hr)
    omega
  have hld : ldC 0 [] [] rows = .ok cs ∧ last = [] := by
    unfold ldT at hld
    rw [er, List.dropLast_concat, List.getLast?_concat] at hld
    cases h : ldC 0 [] [] rows with
    | error i => rw [h] at hld; cases hld
    | ok c =>
      rw [h] at hld
      have hld : (if last = [] then Except.ok c else Except.error ((rows ++ [last]).length - 1)) = Except.ok cs := hld
      by_cases e : last = []
      · rw [if_pos e] at hld
        exact ⟨hld, e⟩
      · rw [if_neg e] at hld
        cases hld
  obtain ⟨hld, rfl⟩ := hld
  have hlst : ((rowsT z).map sL).map V.str = rows.map nmV ++ [nmV []] := by
    rw [er, List.map_map, List.map_append]
    rfl
  rw [hlst]
  have hp1 : (upd H p (.lst (rows.map nmV ++ [nmV []]))) p = some (.lst (rows.map nmV ++ [nmV []])) := upd_same
  refine ⟨_, rfl, .inl ⟨rfl, _, SqL.here hp1⟩, p, _, nmV [], rfl, rfl, hp1, by simp, ?_⟩
  rw [List.dropLast_concat]
  have hp2 : (upd (upd H p (.lst (rows.map nmV ++ [nmV []]))) p (.lst (rows.map nmV))) p = some (.lst (rows.map nmV)) := upd_same
  have s1 : Same H (upd (upd H p (.lst (rows.map nmV ++ [nmV []]))) p (.lst (rows.map nmV))) := fun b o e => by
    rw [upd_ne (ne_of_none e np), upd_ne (ne_of_none e np)]
    exact e
  generalize (upd (upd H p (.lst (rows.map nmV ++ [nmV []]))) p (.lst (rows.map nmV))) = H1 at *
  refine fun c3 n3 => ?_
  have s2 := Same.new n3 (.dK [])
  have nc : H c3 = none := s1.free n3
  have hc3 : CtA K (upd H1 c3 (.dK [])) c3 [] := ⟨[], upd_same, .nil⟩
  have npc : p ≠ c3 := ne_of_none hp2 n3
  have hp3 := s2 _ _ hp2
  have s3 := s1.trans s2
  generalize (upd H1 c3 (.dK [])) = H2 at *
  refine ⟨_, rfl, p, rows.map nmV, rfl, SqL.here hp3, for_EL (xs := rows.map nmV) (fun j σ G => ∃ (x5 x6 x7 x8 x9 : Option V) (b : List Nat) (acc : Cts), σ = [some (.str (sL z)), some (.ref p), some (nmV []), some (.ref c3), some (nmV b), x5, x6, x7, x8, x9] ∧ Same H G ∧ G p = some (.lst (rows.map nmV)) ∧ CtA K G c3 acc ∧ CtOk acc ∧ acc.length ≤ j ∧ ldC j b acc (rows.drop j) = .ok cs) ⟨none, none, none, none, none, [], [], rfl, s3, hp3, hc3, ctok_nil, Nat.le_refl _, hld⟩ (fun j σ G zz => by obtain ⟨_, _, _, _, _, _, _, _, _, h, _⟩ := zz; exact SqL.here h) ?_ ?_⟩
  · rintro j v σ G hv ⟨x5, x6, x7, x8, x9, b, acc, rfl, sG, hpG, hcG, okA, hlA, hl⟩ pp npp
    rw [List.getElem?_map] at hv
    obtain ⟨row, hrow, rfl⟩ := Option.map_eq_some_iff.mp hv
    rw [drop_at hrow] at hl
    obtain ⟨h12, hlb, hlt, t, hrd, hft, hl⟩ := ldC_step hl
    obtain ⟨f1, f2⟩ := fitsT_iff.mp hft
    have hrw := hrl row (List.mem_append_left _ (List.mem_of_getElem? hrow))
    have hpl := rowP_len row
    have st := Same.new npp (.tup [.int (j : Nat), nmV row])
    refine ⟨pp, _, rfl, SqT.here upd_same, rfl, _, _, rfl, _, _, rfl, rfl, ?_⟩
    generalize (upd G pp (.tup [.int (j : Nat), nmV row])) = G1 at *
    obtain ⟨sp, esp⟩ := part_row row
    refine ⟨_, rfl, ⟨_, rfl⟩, sL row, _, rfl, rfl, (by decide +kernel), Nat.le_trans (show row.length ≤ 10000 by omega) (by decide), fun qq nqq => ?_⟩
    rw [esp]
    have st2 := Same.new nqq (.tup [.str (sL (rowP row).1), .str sp, .str (sL (rowP row).2)])
    refine ⟨qq, _, rfl, SqT.here upd_same, rfl, _, _, rfl, _, _, rfl, _, _, rfl, rfl, ?_⟩
    generalize (upd G1 qq (.tup [.str (sL (rowP row).1), .str sp, .str (sL (rowP row).2)])) = G2 at *
    have sG2 := (sG.trans st).trans st2
    have hpG2 := st2 _ _ (st _ _ hpG)
    have hcG2 := (hcG.same st).same st2
    refine ⟨_, rfl, _, _, rfl, rfl, _, rfl, ite_no (decide_eq_false (by omega)) ?_⟩
    refine ⟨_, rfl, (rowP row).1, rfl, by omega, ⟨_, rfl, ?_⟩⟩
    rw [hlb]
    refine ite_no rfl ?_
    refine ⟨_, rfl, _, rfl, _, _, rfl, rfl, _, rfl, ite_no ?_ ?_⟩
    · show (!decide (b < (rowP row).1)) = false
      rw [decide_eq_true hlt]
      rfl
    refine ⟨_, rfl, _, rfl, j, (rowP row).2, t, rfl, by omega, hrd, f1, f2, fun v G3 hv s4 => ?_⟩
    obtain ⟨kvs, hk, hK⟩ := hcG2.same s4
    have hkl := hK.len
    refine ⟨_, rfl, _, rfl, c3, _, rfl, DPut.k (k := nmK (rowP row).1) hk (small1000 (by omega)), ?_⟩
    have sG3 := sG2.trans s4
    have hpG3 := s4 _ _ hpG2
    have npc2 : p ≠ c3 := fun e => by rw [e, hk] at hpG3; cases hpG3
    have tp : Tp G3 (upd G3 c3 (.dK (putK kvs (nmK (rowP row).1) v))) := fun b xs hb => by
      rcases hb with hb | ⟨o, hb⟩
      · exact .inl (by rw [upd_ne (fun z => by rw [z, hk] at hb; cases hb)]; exact hb)
      · exact .inr ⟨o, by rw [upd_ne (fun z => by rw [z, hk] at hb; cases hb)]; exact hb⟩
    obtain ⟨ok2, len2⟩ := put_okT (t := t) okA (by omega) hlb hft
    refine ⟨_, rfl, _, _, _, _, _, (rowP row).1, putC acc (rowP row).1 t, rfl, fun b o e => ?_, ?_, ⟨_, upd_same, CtAll.put (hK.tp tp) (ta_mono tp hv)⟩, ok2, by omega, hl⟩
    · rw [upd_ne (ne_of_none e nc)]
      exact sG3 _ _ e
    · rw [upd_ne npc2]
      exact hpG3
  · rintro σ G ⟨x5, x6, x7, x8, x9, b, acc, rfl, sG, hpG, hcG, okA, hlA, hl⟩
    rw [List.length_map, List.drop_length] at hl
    have hl : acc = cs := Except.ok.inj hl
    subst hl
    refine ⟨_, rfl, rfl, _, rfl, ite_no ?_ ?_⟩
    · show (!decide (nmV [] = V.str (Str.ofString ""))) = false
      rw [decide_eq_true (show nmV [] = V.str (Str.ofString "") from congrArg V.str (by decide +kernel))]
      rfl
    · exact ⟨_, rfl, c3, acc, rfl, hcG, okA, fun x p' f' H' nx np' nf s5 hSt => q x p' f' H' (sG.free nx) (sG.free np') (sG.free nf) (sG.trans s5) hSt okA⟩

abbrev s_dump : Stmt := top 56
theorem sc_dump : FnScope ["store", "label"] ["store"] (defScope s_dump) := ⟨rfl, rfl, rfl, by decide +kernel, rfl, by decide +kernel, by decide +kernel⟩
def spDump (K : PySem.W.Frag) (C : Addr) : Sp := fun vs H Q _ => ∃ (a : SAd) (S : Sto), vs = [.ref a.x] ∧ StH K C a S H ∧ ∀ (ms : List (List Nat)) (H' : Hp), SrtL ms (S.cur.map (·.1)) → Same H H' → Q (.str (sL (snC (rdC S.cur ms)))) H'
theorem joinL_nil : ∀ ys : List (List Nat), TL.joinL [] ys = ys.flatten
  | [] => rfl
  | [y] => (List.append_nil y).symm
  | y :: x :: ys => by
    show y ++ ([] ++ TL.joinL [] (x :: ys)) = y ++ (x :: ys).flatten
    rw [joinL_nil (x :: ys), List.nil_append]
theorem join_all (ys : List (List Nat)) : Txt.join (Str.ofString "") (ys.map sL) = sL ys.flatten := by
  have e := SX.join_S [] ys
  rw [joinL_nil] at e
  exact e
theorem snC_len {es : Cts} (h : ∀ e ∈ es, isLb e.1 = true ∧ e.2.sz ≤ 12) : (snC es).length ≤ 50 * es.length := by
  unfold snC
  induction es with
  | nil => exact Nat.zero_le _
  | cons e es ih =>
    have h1 := ih fun x hx => h x (List.mem_cons_of_mem _ hx)
    obtain ⟨h2, h3⟩ := h e List.mem_cons_self
    have h4 := (lb_len h2).2
    have h5 := e.2.cs_len
    have h6 : (rowB e.1 e.2).length = e.1.length + (e.2.cs.length + 1) := by
      unfold rowB
      rw [List.length_append, List.length_cons]
    rw [List.flatMap_cons, List.length_append, List.length_append, h6, List.length_cons (as := es)]
    show e.1.length + (e.2.cs.length + 1) + 1 + (List.flatMap (fun (e : List Nat × Tree) => rowB e.1 e.2 ++ [10]) es).length ≤ 50 * (es.length + 1)
    omega
theorem ok_dump {C_Store u0 u1 fp fi fc fg ff CI : Addr} {v0 v1 fpd fid fcd fgd ffd : FuncData} {A0 : EAd} (d : D K mg "dump" s_dump ["store"] f fd) (B : Blt mg) (C : Cst mg) (EI : ErrC K mg "InvalidTerm" CI) (T_Store : StT K mg C_Store) (d_Store_labels : Mt K C_Store "labels" "Store.labels" s_Store_labels ["self"] u0 v0) (d_Store_term : Mt K C_Store "term" "Store.term" s_Store_term ["self", "label"] u1 v1) (G_Store_labels : FnOk P w K mg base CX0 1 u0 v0 ["self"] (spSLabs K C_Store)) (G_Store_term : FnOk P w K mg base (L2N.CX P w) 4 u1 v1 ["self", "label"] (spSTerm K C_Store A0)) (d_is_pair : D K mg "is_pair" s_is_pair ["part"] fp fpd) (d_is_term : D K mg "is_term" s_is_term ["term"] fi fid)
    (d_check_term : D K mg "check_term" s_check_term ["term"] fc fcd) (d_written : D K mg "written" s_written ["term"] fg fgd) (d_format_term : D K mg "format_term" s_format_term ["term"] ff ffd) : FnOk P w K mg base CX0 9 f fd ["store"] (spDump K C_Store) := by
  have G_format_term : FnOk P w K mg base CX0 8 ff ffd ["term"] (spOkText K) := ok_format_term d_format_term B C EI d_is_pair d_is_term d_check_term d_written
  have n0 : ∀ {m : Str}, ¬ m = "contents" → ¬ m = "past" → ¬ m = "future" → ∀ c p f, (stf c p f).lookup m = none := fun h1 h2 h3 _ _ _ => stf_no _ _ _ h1 h2 h3
  have nLab := n0 (m := "labels") (by decide +kernel) (by decide +kernel) (by decide +kernel)
  have nTer := n0 (m := "term") (by decide +kernel) (by decide +kernel) (by decide +kernel)
  refine d.F.ok sc_dump (fun vs H Q E h => ?_) (fun cdv A outer s H vs Q E hr h => ?_)
  · obtain ⟨_, _, rfl, _⟩ := h
    rfl
  obtain ⟨a, S, rfl, ⟨hS, hok, hpl⟩, q⟩ := h
  refine ⟨_, (pss_one (ps_ret (pe_join pe_str (pe_lc (own := [("label", 1)]) (g := gName 1) (tt := tYes) (by rfl) sc_dump.nd (pi_list (pe_meth0 (pv 0) T_Store.cl d_Store_labels.m G_Store_labels (hr.mono (by decide)) d_Store_labels.b .nil pass0)) (blkOk_by (own := [("label", 1)]) (N := ["store", "label"]) (sc := defScope s_dump) (by decide +kernel)) (fun _ _ _ _ _ => (pg_name (i := 1) sc_dump.nd rfl (Or.inl rfl))) (fun _ _ _ _ _ => pts_nil) (fun _ _ _ _ _ => (pe_joined (PJ.cons (pe_fmt (pv 1)) (PJ.cons pe_str (PJ.cons (pe_fmt (pe_call G_format_term (hr.mono (by decide)) rfl d_format_term.m d_format_term.F.kp d_format_term.b .nil pass0 (pa_cons (pe_meth (pv 0) T_Store.cl d_Store_term.m G_Store_term (hr.mono (by decide)) d_Store_term.b .nil passF (pa_cons (pv 1) pa_nil)) pa_nil))) (PJ.cons pe_str PJ.nil)))))))))), ?_⟩
  obtain ⟨dx, c0, ps0, fs0, hx, hrest⟩ := id hS
  refine ⟨⟨_, rfl⟩, _, rfl, a.x, dx, _, rfl, hx, nLab _ _ _, a, S, rfl, hS, hok.len, fun ms p hsr np => ⟨p, rfl, ⟨_, SqL.here upd_same⟩, ?_⟩⟩
  have hml : ms.length ≤ 12 := by
    have h3 : ms.length = (S.cur.map (·.1)).length := hsr.1.length_eq
    rw [List.length_map] at h3
    have := hok.len
    omega
  have s1 := Same.new np (.lst (ms.map nmV))
  have hp1 : (upd H p (.lst (ms.map nmV))) p = some (.lst (ms.map nmV)) := upd_same
  generalize (upd H p (.lst (ms.map nmV))) = H1 at *
  refine fun D nD => ?_
  refine lc_list (te := fun σ H Q => tJs [tFmt (tVar 1), tC (.str " "), tFmt (tCall (spOkText K) [] E0 (tCons (tMeth C_Store "term" (spSTerm K C_Store A0) [] (fun _ _ _ => False) (tVar 0) (tCons (tVar 1) tNil)) tNil)), tC (.str "\n")] Str.empty σ H fun out H1 => Q (.str out) H1) (xs := ms.map nmV) (fun i G => Same H1 G ∧ G D = some (.lst (((rdC S.cur (ms.take i)).map fun e => sL (rowB e.1 e.2 ++ [10])).map V.str))) ⟨Same.new nD _, upd_same⟩ (fun i G _ h => SqL.here (h.1 _ _ hp1)) ?_ ?_
  · rintro i x G hx0 ⟨sG, hD⟩
    rw [List.getElem?_map] at hx0
    obtain ⟨y, hy, rfl⟩ := Option.map_eq_some_iff.mp hx0
    have hym := hsr.1.mem_iff.mp (List.mem_of_getElem? hy)
    obtain ⟨e0, he0, ey⟩ := List.mem_map.mp hym
    have hlb0 := hok.lb e0 he0
    rw [ey] at hlb0
    have hyl := lb_len hlb0
    have hlk : lkC S.cur y = some e0.2 := lk_of_mem hok.nd (by rw [← ey]; exact he0)
    have hft := hok.fit e0 he0
    have sD := s1.trans sG
    have l1 : (Str.empty).length = 0 := rfl
    have l2 : (sL y).length = y.length := rfl
    have l3 : (Str.ofString " ").length = 1 := by decide +kernel
    have l4 : (Str.ofString "
").length = 1 := by decide +kernel
    have l5 := tlen (t := e0.2) (by omega)
    refine ⟨rfl, ?_⟩
    refine ⟨_, rfl, .inl ⟨_, rfl, fits (by rw [l2]; omega), _, rfl, fits (by rw [slen, l1, l2]; omega), _, rfl, fits (by rw [slen, slen, l1, l2, l3]; omega), _, rfl, a.x, dx, _, rfl, sD _ _ hx, nTer _ _ _, _, rfl, a, S, y, rfl, hS.same sD, by omega, fun e => absurd e (by rw [hlk]; exact nofun), fun t e v hv => ?_⟩⟩
    rw [hlk] at e
    cases e
    refine ⟨v, e0.2, rfl, hv, hft.1, hft.2, fun H2 s2 => .inl ⟨_, rfl, fits (by omega), _, rfl, fits (by rw [slen, slen, slen, l1, l2, l3]; omega), _, rfl, fits (by rw [slen, slen, slen, slen, l1, l2, l3, l4]; omega), ?_⟩⟩
    have er : (((Str.empty ++ sL y) ++ Str.ofString " ") ++ e0.2.txt) ++ Str.ofString "
" = sL (rowB y e0.2 ++ [10]) := by
      have q0 : Str.empty = sL [] := rfl
      have q1 : Str.ofString " " = sL [32] := by decide +kernel
      have q2 : Str.ofString "
" = sL [10] := by decide +kernel
      have q3 : e0.2.txt = sL e0.2.cs := rfl
      rw [q0, q1, q2, q3, sL_app, sL_app, sL_app, sL_app]
      unfold rowB
      simp
    have sG2 := sG.trans s2
    refine ⟨_, s2 _ _ hD, (by rw [List.length_map, List.length_map]; exact small1000 (by unfold rdC; rw [List.length_map, List.length_take]; omega)), fun b o e => ?_, ?_⟩
    · rw [upd_ne (ne_of_none e nD)]
      exact sG2 _ _ e
    · have eR : rdC S.cur (ms.take (i + 1)) = rdC S.cur (ms.take i) ++ [(y, e0.2)] := by
        unfold rdC
        rw [take_snocS hy, List.map_append]
        show _ ++ [(y, (lkC S.cur y).getD .L)] = _
        rw [hlk]
        rfl
      rw [upd_same, eR, List.map_append, List.map_append]
      show some (HO.lst (_ ++ [V.str ((((Str.empty ++ sL y) ++ Str.ofString " ") ++ e0.2.txt) ++ Str.ofString "
")])) = some (HO.lst (_ ++ [V.str (sL (rowB y e0.2 ++ [10]))]))
      rw [er]
  · rintro G ⟨sG, hD⟩
    rw [List.length_map, List.take_length] at hD
    have hD : G D = some (.lst ((((rdC S.cur ms).map fun e => rowB e.1 e.2 ++ [10]).map sL).map V.str)) := by
      rw [hD]
      simp only [List.map_map]
      rfl
    have hlen : (snC (rdC S.cur ms)).length ≤ 50 * 12 := by
      have h1 := snC_len (es := rdC S.cur ms) fun e he => by
        have hok2 : CtOk (rdC S.cur ms) := hok.perm (rdC_perm hok.nd hsr.1).symm
        exact ⟨hok2.lb e he, (hok2.fit e he).1⟩
      have h2 : (rdC S.cur ms).length = ms.length := by unfold rdC; rw [List.length_map]
      omega
    have efl : ((rdC S.cur ms).map fun e => rowB e.1 e.2 ++ [10]).flatten = snC (rdC S.cur ms) := (List.flatMap_def ..).symm
    refine ⟨Str.ofString "", D, ((rdC S.cur ms).map fun e => rowB e.1 e.2 ++ [10]).map sL, rfl, rfl, .inl (SqL.here hD), ?_, ?_⟩
    · have e1 : (((rdC S.cur ms).map fun e => rowB e.1 e.2 ++ [10]).map sL).map (fun x => x.length) = ((rdC S.cur ms).map fun e => rowB e.1 e.2 ++ [10]).map List.length := by
        rw [List.map_map]
        rfl
      rw [e1, ← List.length_flatten, efl, show (Str.ofString "").length = 0 from rfl, Nat.mul_zero]
      omega
    · rw [join_all, efl]
      exact q ms G hsr (s1.trans sG)

abbrev s__law_draws : Stmt := top 60
theorem sc__law_draws : FnScope ["_law_script", "_law_salt", "_law_cell"] ["_law_script"] (defScope s__law_draws) := ⟨rfl, rfl, rfl, by decide +kernel, rfl, by decide +kernel, by decide +kernel⟩
theorem ok__law_draws (d : D K mg "_law_draws" s__law_draws ["_law_script"] f fd) (B : Blt mg) : FnOk P w K mg base CX0 1 f fd ["_law_script"] (spDraws K) := by
  refine d.F.ok sc__law_draws (fun vs H Q E h => ?_) (fun cdv A outer s H vs Q E hr h => ?_)
  · obtain ⟨a, ns, rfl, _⟩ := h
    rfl
  obtain ⟨a, ns, rfl, hS, q⟩ := h
  refine ⟨_, (pss_cons (ps_set (i := 1) sc__law_draws.nd rfl (Or.inl rfl) pe_int)
 (pss_cons (ps_for PassesOwn.never rfl (pi_list (pe_slice sl_list (pv 0) po_none (po_some pe_int))) (pg_name (i := 2) sc__law_draws.nd rfl (Or.inl rfl))
  (pss_one (ps_set (i := 1) sc__law_draws.nd rfl (Or.inl rfl) (pe_op op_mod (pe_op op_add (pe_op op_add (pe_op op_mul (pv 1) pe_int) (pe_op op_mod (pv 2) pe_int)) pe_int) pe_int))))
 (pss_one (ps_ret (pe_lst (pa_cons (pe_callTy call_list_of (by rfl) B.list (by decide +kernel) (pa_cons (pe_slice sl_list (pv 0) po_none (po_some pe_int)) pa_nil)) (pa_cons pe_int (pa_cons pe_int (pa_cons (pv 1) pa_nil))))))))), ?_⟩
  refine ⟨_, rfl, 63, rfl, a, _, rfl, hS, fun p hp => ?_⟩
  rw [cut63]
  have s1 : Same H (upd H p (.lst ((ns.take 63).map V.int))) := Same.new hp _
  refine ⟨p, rfl, ⟨_, SqL.here upd_same⟩, for_list (K := K) (a := p) (xs := (ns.take 63).map V.int) (fun i σ H' => ∃ (s : Int) (v : Option V), σ = [some (.ref a), some (.int s), v] ∧ 0 ≤ s ∧ s < 2147483647 ∧ H' = upd H p (.lst ((ns.take 63).map V.int)))
    ⟨9471, none, rfl, by decide, by decide, rfl⟩ (fun i σ H' _ ⟨_, _, _, _, _, e⟩ => by rw [e]; exact SqL.here upd_same) ?_ ?_⟩
  · rintro i x σ H' hi ⟨s, v, rfl, h0, h1, rfl⟩
    obtain ⟨u, rfl⟩ : ∃ u, x = V.int u := by
      rw [List.getElem?_map] at hi
      cases e : (ns.take 63)[i]? with
      | none =>
        rw [e] at hi
        cases hi
      | some u =>
        rw [e] at hi
        exact ⟨u, (Option.some.inj hi).symm⟩
    refine ⟨_, rfl, _, _, rfl, rfl, .inl ⟨by omega, by omega⟩, _, rfl, _, _, rfl, rfl, (by show (0 : Int) < 2147483587; decide), _, _, rfl, rfl, _, _, rfl, rfl, _, _, rfl, rfl, (by show (0 : Int) < 2147483647; decide), ?_⟩
    exact ⟨_, _, rfl, Int.emod_nonneg _ (by decide), Int.emod_lt_of_pos _ (by decide), rfl⟩
  · rintro σ H' ⟨s, v, rfl, h0, h1, rfl⟩
    refine ⟨_, rfl, 63, rfl, a, _, rfl, s1.seq hS, fun p2 hp2 => ?_⟩
    rw [cut63]
    have s2 := s1.trans (Same.new hp2 (.lst ((ns.take 63).map V.int)))
    refine ⟨p2, _, rfl, .inl (SqL.here upd_same), fun c hc => ?_⟩
    have s3 := s2.trans (Same.new hc (.lst ((ns.take 63).map V.int)))
    refine ⟨_, rfl, four_le, fun r hr' => ?_⟩
    have nrc : c ≠ r := fun e => by
      rw [← e, upd_same] at hr'
      cases hr'
    refine q r _ (s3.trans (Same.new hr' _)) (s3.free hr') ⟨c, ns.take 63, 0, 0, s, upd_same, ?_, nrc, by decide, by decide, h0, h1⟩
    rw [upd_ne nrc, upd_same]

abbrev s__law_draw : Stmt := top 61
theorem sc__law_draw : FnScope ["_law_rng", "_law_amount", "_law_cell", "_law_got", "_law_seed"] ["_law_rng", "_law_amount"] (defScope s__law_draw) := ⟨rfl, rfl, rfl, by decide +kernel, rfl, by decide +kernel, by decide +kernel⟩
theorem ok__law_drawC (d : D K mg "_law_draw" s__law_draw ["_law_rng", "_law_amount"] f fd) (B : Blt mg) : FnOk P w K mg base CX0 1 f fd ["_law_rng", "_law_amount"] spDrawC := by
  refine d.F.ok sc__law_draw (fun vs H Q E h => ?_) (fun cdv A outer s H vs Q E hr h => ?_)
  · obtain ⟨_, _, _, rfl, _⟩ := h
    rfl
  obtain ⟨r, n, c, rfl, ⟨ns, i, b, s, hR, hC, ncr, hi, hb, h0, h1⟩, hn, hn2, q⟩ := h
  refine ⟨_, (C8.pss_cut (ps_if (PW.pt (pw_and (pt_cmpR op_eq (pe_ix ix_list (pv 0) pe_int (fun _ _ => rfl)) pe_int (nomark _)) (pw_and1 (pt_cmpR op_lt (pe_ix ix_list (pv 0) pe_int (fun _ _ => rfl)) (pe_callB call_len_seq (by rfl) B.len PySem.boot_len (pa_cons (pe_ix ix_list (pv 0) pe_int (fun _ _ => rfl)) pa_nil)) (nomark _))))) (pss_cons (ps_set (i := 2) sc__law_draw.nd rfl (Or.inl rfl) (pe_ix ix_list (pe_ix ix_list (pv 0) pe_int (fun _ _ => rfl)) (pe_ix ix_list (pv 0) pe_int (fun _ _ => rfl)) (fun _ _ => rfl)))
 (pss_cons (ps_asg (pe_op op_add (pe_ix ix_list (pv 0) pe_int (fun _ _ => rfl)) pe_int) (pg_sub (pv 0) pe_int set_list))
 (pss_one (ps_if (pt_cmpR op_ge (pv 2) (pe_op op_pow pe_int pe_int) (nomark _)) (pss_one (ps_asg (pv 2) (pg_sub (pv 0) pe_int set_list))) (pss_one (ps_asg (pe_op op_mod (pe_op op_add (pe_op op_add (pe_op op_mul (pe_ix ix_list (pv 0) pe_int (fun _ _ => rfl)) pe_int) (pe_op op_mul (pe_op op_mod (pv 2) pe_int) pe_int)) pe_int) pe_int) (pg_sub (pv 0) pe_int set_list))))))) pss_nil)
 (pss_cons (ps_if (pt_cmpR op_gt (pe_ix ix_list (pv 0) pe_int (fun _ _ => rfl)) pe_int (nomark _)) (pss_cons (ps_set (i := 3) sc__law_draw.nd rfl (Or.inl rfl) (pe_op op_mod (pe_ix ix_list (pv 0) pe_int (fun _ _ => rfl)) (pv 1)))
 (pss_cons (ps_asg (pe_op op_fdiv (pe_ix ix_list (pv 0) pe_int (fun _ _ => rfl)) (pv 1)) (pg_sub (pv 0) pe_int set_list))
 (pss_one (ps_ret (pv 3))))) pss_nil)
 (pss_cons (ps_set (i := 4) sc__law_draw.nd rfl (Or.inl rfl) (pe_ix ix_list (pv 0) pe_int (fun _ _ => rfl)))
 (pss_cons (ps_asg (pe_op op_mod (pe_op op_add (pe_op op_add (pe_op op_mul (pv 4) pe_int) (pe_op op_mul (pe_op op_fdiv (pv 4) pe_int) pe_int)) pe_int) pe_int) (pg_sub (pv 0) pe_int set_list))
 (pss_one (ps_ret (pe_op op_mod (pe_op op_add (pe_op op_fdiv (pe_ix ix_list (pv 0) pe_int (fun _ _ => rfl)) pe_int) (pe_op op_mul (pe_op op_mod (pe_ix ix_list (pv 0) pe_int (fun _ _ => rfl)) pe_int) pe_int)) (pv 1)))))))), ?_⟩
  refine ⟨fun σ H1 => ∃ (i b s : Int) (cell : Option V), σ = [some (.ref r), some (.int n), cell, none, none] ∧ But r H H1 ∧ H1 r = some (.lst [.ref c, .int i, .int b, .int s]) ∧ H1 c = some (.lst (ns.map V.int)) ∧ 0 ≤ i ∧ 0 ≤ b ∧ 0 ≤ s ∧ s < 2147483647, ?_, ?_⟩
  · refine ⟨_, rfl, r, _, 2, _, rfl, rfl, SqL.here hR, rfl, rfl, _, rfl, ?_⟩
    refine ite2 (fun c1 => ?_) (fun c1 => ?_)
    · refine ⟨_, rfl, r, _, 1, _, rfl, rfl, SqL.here hR, rfl, _, rfl, r, _, 0, _, rfl, rfl, SqL.here hR, rfl, c, _, rfl, .inl (SqL.here hC), _, _, rfl, rfl, _, rfl, ?_⟩
      refine ite2 (fun c2 => ?_) (fun c2 => ?_)
      · have c3 : i < (((ns.map V.int).length : Nat) : Int) := of_decide_eq_true c2
        rw [List.length_map] at c3
        have hk : i.toNat < ns.length := by omega
        have ek : i = ((i.toNat : Nat) : Int) := by omega
        obtain ⟨u, q1⟩ : ∃ u, atI (ns.map V.int) i = some (.int u) := by
          refine ⟨ns[i.toNat], ?_⟩
          have q0 : atI (ns.map V.int) ((i.toNat : Nat) : Int) = some (.int ns[i.toNat]) := atI_nat (by rw [List.getElem?_map, List.getElem?_eq_getElem hk] <;> rfl)
          rw [← ek] at q0
          exact q0
        refine ⟨_, rfl, r, _, 0, _, rfl, rfl, SqL.here hR, rfl, _, rfl, r, _, 1, _, rfl, rfl, SqL.here hR, rfl, c, _, i, _, rfl, rfl, SqL.here hC, q1, ?_⟩
        -- rng[1] = rng[1] + 1
        refine ⟨_, rfl, r, _, 1, _, rfl, rfl, SqL.here hR, rfl, _, _, rfl, rfl, _, rfl, r, _, 1, 1, rfl, rfl, hR, rfl, ?_⟩
        have hC2 : (upd H r (.lst [.ref c, .int (i + 1), .int b, .int s])) c = some (.lst (ns.map V.int)) := by rw [upd_ne ncr]; exact hC
        refine ⟨_, rfl, _, _, rfl, rfl, ⟨by decide, by decide, by decide⟩, _, _, rfl, rfl, _, rfl, ?_⟩
        refine ite2 (fun c4 => ?_) (fun c4 => ?_)
        · have c5 : (10 : Int) ^ (18 : Int).toNat ≤ u := of_decide_eq_true c4
          have c6 : (0 : Int) ≤ (10 : Int) ^ (18 : Int).toNat := by decide
          refine ⟨_, rfl, _, rfl, r, _, 2, 2, rfl, rfl, upd_same, rfl, ?_⟩
          refine ⟨i + 1, u, s, _, rfl, But.set.trans But.set, upd_same, ?_, by omega, by omega, h0, h1⟩
          rw [upd_ne ncr]
          exact hC2
        · refine ⟨_, rfl, r, _, 3, _, rfl, rfl, SqL.here upd_same, rfl, _, _, rfl, rfl, .inl ⟨by omega, by omega⟩, _, rfl, _, _, rfl, rfl, (by show (0 : Int) < 2147483587; decide), _, _, rfl, rfl, .inl ⟨?_, ?_⟩, _, _, rfl, rfl, _, _, rfl, rfl, _, _, rfl, rfl, (by show (0 : Int) < 2147483647; decide), _, rfl, r, _, 3, 3, rfl, rfl, upd_same, rfl, ?_⟩
          · have := Int.emod_nonneg u (show (2147483587 : Int) ≠ 0 by decide)
            omega
          · have := Int.emod_lt_of_pos u (show (0 : Int) < 2147483587 by decide)
            omega
          · refine ⟨i + 1, b, _, _, rfl, But.set.trans But.set, upd_same, ?_, by omega, hb, Int.emod_nonneg _ (by decide), Int.emod_lt_of_pos _ (by decide)⟩
            rw [upd_ne ncr]
            exact hC2
      · exact ⟨i, b, s, none, rfl, fun _ _ _ h => h, hR, hC, hi, hb, h0, h1⟩
    · exact iteF ⟨i, b, s, none, rfl, fun _ _ _ h => h, hR, hC, hi, hb, h0, h1⟩
  · rintro σ H1 ⟨i, b, s, cell, rfl, e1, hR, hC, hi, hb, h0, h1⟩
    refine ⟨_, rfl, r, _, 2, _, rfl, rfl, SqL.here hR, rfl, _, _, rfl, rfl, _, rfl, ?_⟩
    refine ite2 (fun c1 => ?_) (fun c1 => ?_)
    · refine ⟨_, rfl, r, _, 2, _, rfl, rfl, SqL.here hR, rfl, _, rfl, _, _, rfl, rfl, hn, ?_⟩
      refine ⟨_, rfl, r, _, 2, _, rfl, rfl, SqL.here hR, rfl, _, rfl, _, _, rfl, rfl, ⟨hn, hn2⟩, _, rfl, r, _, 2, 2, rfl, rfl, hR, rfl, _, rfl, ?_⟩
      refine q _ _ (Int.emod_nonneg _ (by omega)) (Int.emod_lt_of_pos _ hn) ⟨ns, i, _, s, upd_same, ?_, ncr, hi, Int.ediv_nonneg hb (by omega), h0, h1⟩ (e1.trans But.set)
      rw [upd_ne ncr]
      exact hC
    · refine ⟨_, rfl, r, _, 3, _, rfl, rfl, SqL.here hR, rfl, ?_⟩
      refine ⟨_, rfl, _, _, rfl, rfl, .inl ⟨by omega, by omega⟩, _, rfl, _, _, rfl, rfl, ⟨by decide, by decide⟩, _, _, rfl, rfl, .inl ⟨?_, ?_⟩, _, _, rfl, rfl, _, _, rfl, rfl, _, _, rfl, rfl, (by show (0 : Int) < 2147483647; decide), _, rfl, r, _, 3, 3, rfl, rfl, hR, rfl, ?_⟩
      · have := Int.ediv_nonneg h0 (show (0 : Int) ≤ 65539 by decide)
        omega
      · have : s / 65539 ≤ s := Int.ediv_le_self _ h0
        omega
      · have z0 : 0 ≤ (s * 62089 + s / 65539 * 29 + 1013904223) % 2147483647 := Int.emod_nonneg _ (by decide)
        have z1 : (s * 62089 + s / 65539 * 29 + 1013904223) % 2147483647 < 2147483647 := Int.emod_lt_of_pos _ (by decide)
        refine ⟨_, rfl, r, _, 3, _, rfl, rfl, SqL.here upd_same, rfl, _, _, rfl, rfl, ⟨by decide, by decide⟩, _, rfl, r, _, 3, _, rfl, rfl, SqL.here upd_same, rfl, _, _, rfl, rfl, (by show (0 : Int) < 8191; decide), _, _, rfl, rfl, .inl ⟨?_, ?_⟩, _, _, rfl, rfl, _, rfl, _, _, rfl, rfl, hn, ?_⟩
        · have := Int.emod_nonneg ((s * 62089 + s / 65539 * 29 + 1013904223) % 2147483647) (show (8191 : Int) ≠ 0 by decide)
          omega
        · have := Int.emod_lt_of_pos ((s * 62089 + s / 65539 * 29 + 1013904223) % 2147483647) (show (0 : Int) < 8191 by decide)
          omega
        · refine q _ _ (Int.emod_nonneg _ (by omega)) (Int.emod_lt_of_pos _ hn) ⟨ns, i, b, _, upd_same, ?_, ncr, hi, hb, z0, z1⟩ (e1.trans But.set)
          rw [upd_ne ncr]
          exact hC
theorem ok__law_draw (d : D K mg "_law_draw" s__law_draw ["_law_rng", "_law_amount"] f fd) (B : Blt mg) : FnOk P w K mg base CX0 1 f fd ["_law_rng", "_law_amount"] spDraw := (ok__law_drawC d B).imp fun _ _ _ _ => spDraw_C

abbrev s__law_pick : Stmt := top 62
theorem sc__law_pick : FnScope ["_law_rng", "_law_terms"] ["_law_rng", "_law_terms"] (defScope s__law_pick) := ⟨rfl, rfl, rfl, by decide +kernel, rfl, by decide +kernel, by decide +kernel⟩
theorem ok__law_pickC {f1 : Addr} {e1 : FuncData} (d__law_pick : D K mg "_law_pick" s__law_pick ["_law_rng", "_law_terms"] f fd) (B : Blt mg) (d__law_draw : D K mg "_law_draw" s__law_draw ["_law_rng", "_law_amount"] f1 e1) : FnOk P w K mg base CX0 2 f fd ["_law_rng", "_law_terms"] (spPickC K) := by
  have G__law_draw : FnOk P w K mg base CX0 1 f1 e1 ["_law_rng", "_law_amount"] spDrawC := ok__law_drawC d__law_draw B
  refine d__law_pick.F.ok sc__law_pick (fun vs H Q E h => ?_) (fun cdv A outer s H vs Q E hr h => ?_)
  · obtain ⟨_, _, _, _, rfl, _⟩ := h
    rfl
  obtain ⟨r, l, c, xs, rfl, hR, hS, h0, h1, hn, q⟩ := h
  refine ⟨_, (pss_one (ps_ret (pe_ix (r := rIx K) ix_seq (pv 1) (pe_call G__law_draw (hr.mono (by decide)) rfl d__law_draw.m d__law_draw.F.kp d__law_draw.b .nil pass0 (pa_cons (pv 0) (pa_cons (pe_callB call_len_seq (by rfl) B.len PySem.boot_len (pa_cons (pv 1) pa_nil)) pa_nil))) (fun _ _ => rfl)))), ?_⟩
  refine ⟨_, rfl, _, rfl, _, rfl, l, xs, rfl, hS, r, _, c, rfl, hR, by omega, by omega, fun n H' n0 n1 R' b' => ?_⟩
  exact rix_in (hS.imp (b'.sqL hn) (b'.sqT hn)) n0 n1 fun v hv => q v H' hv R' b'
theorem ok__law_pick {f1 : Addr} {e1 : FuncData} (d__law_pick : D K mg "_law_pick" s__law_pick ["_law_rng", "_law_terms"] f fd) (B : Blt mg) (d__law_draw : D K mg "_law_draw" s__law_draw ["_law_rng", "_law_amount"] f1 e1) : FnOk P w K mg base CX0 2 f fd ["_law_rng", "_law_terms"] (spPick K) := (ok__law_pickC d__law_pick B d__law_draw).imp fun _ _ _ _ => spPick_C

abbrev s__law_same : Stmt := top 63
theorem sc__law_same : FnScope ["_law_result_here", "_law_expected", "_law_k"] ["_law_result_here", "_law_expected"] (defScope s__law_same) := ⟨rfl, rfl, rfl, by decide +kernel, rfl, by decide +kernel, by decide +kernel⟩
theorem same_ix {H : Hp} {x y : V} {d : PyData} {ds : List PyData} (hd : d = .list ds ∨ d = .tuple ds) (hx : Dp K H x d) : ∃ a xs, x = .ref a ∧ (SqL K H a xs ∨ SqT K H a xs) ∧ DpAll K H xs ds := by
  rcases hd with rfl | rfl
  · cases hx with
    | lst hs ha => exact ⟨_, _, rfl, .inl hs, ha⟩
  · cases hx with
    | tup hs ha => exact ⟨_, _, rfl, .inr hs, ha⟩
theorem rix_of {H : Hp} {a : Addr} {xs : List V} {i : Nat} {v : V} {Q : VK} (h : SqL K H a xs ∨ SqT K H a xs) (hi : xs[i]? = some v) (q : Q v H) : rIx K (.ref a) (.int (0 + (i : Int))) H Q := by
  have e : (0 + (i : Int)) = (i : Int) := by omega
  rcases h with h | h
  · exact .inl ⟨a, xs, _, v, rfl, rfl, h, by rw [e]; exact atI_nat hi, q⟩
  · exact .inr (.inl ⟨a, xs, _, v, rfl, rfl, h, by rw [e]; exact atI_nat hi, q⟩)
theorem same_sq {H H' : Hp} {a : Addr} {xs : List V} (e : Same H H') (h : SqL K H a xs ∨ SqT K H a xs) : SqL K H' a xs ∨ SqT K H' a xs := by
  rcases h with h | h
  · exact .inl (e.seq h)
  · exact .inr ((Tp.same e).sqT h)
theorem ok__law_same (d__law_same : D K mg "_law_same" s__law_same ["_law_result_here", "_law_expected"] f fd) (B : Blt mg) : ∀ n : Nat, FnOk P w K mg base CX0 n f fd ["_law_result_here", "_law_expected"] (spSame K n)
  | 0 => fn_none fun vs H Q E h => by
    obtain ⟨_, _, _, _, _, _, _, h, _⟩ := h
    omega
  | n + 1 => by
    have G__law_same := ok__law_same d__law_same B n
    refine d__law_same.F.ok sc__law_same (fun vs H Q E h => ?_) (fun cdv A outer s H vs Q E hr h => ?_)
    · obtain ⟨_, _, _, rfl, _⟩ := h
      rfl
    obtain ⟨x, y, d, rfl, hx, hy, hs, hd, hw, q⟩ := h
    refine ⟨_, (pss_cons (ps_if (pt_val (pe_callB call_isi (by rfl) B.isinstance (by decide +kernel) (pa_cons (pv 1) (pa_cons (pe_bltn (v := .ty "dict") (by rfl) B.dict (by decide +kernel) rfl) pa_nil)))) (pss_one ps_never) pss_nil)
 (pss_cons (ps_if (PW.pt (pw_or (pt_cmpR op_ne (pe_callB call_isi (by rfl) B.isinstance (by decide +kernel) (pa_cons (pv 1) (pa_cons (pe_bltn (v := .ty "tuple") (by rfl) B.tuple (by decide +kernel) rfl) pa_nil))) (pe_callB call_isi (by rfl) B.isinstance (by decide +kernel) (pa_cons (pv 0) (pa_cons (pe_bltn (v := .ty "tuple") (by rfl) B.tuple (by decide +kernel) rfl) pa_nil))) (nomark _)) (pw_or1 (pt_cmpR op_ne (pe_callB call_isi (by rfl) B.isinstance (by decide +kernel) (pa_cons (pv 1) (pa_cons (pe_bltn (v := .ty "list") (by rfl) B.list (by decide +kernel) rfl) pa_nil))) (pe_callB call_isi (by rfl) B.isinstance (by decide +kernel) (pa_cons (pv 0) (pa_cons (pe_bltn (v := .ty "list") (by rfl) B.list (by decide +kernel) rfl) pa_nil))) (nomark _))))) (pss_one (ps_ret pe_bl)) pss_nil)
 (pss_cons (ps_if (pt_not (pt_val (pe_callB call_isiT (by rfl) B.isinstance (by decide +kernel) (pa_cons (pv 1) (pa_cons (pe_tup (pa_cons (pe_bltn (v := .ty "tuple") (by rfl) B.tuple (by decide +kernel) rfl) (pa_cons (pe_bltn (v := .ty "list") (by rfl) B.list (by decide +kernel) rfl) pa_nil))) pa_nil))))) (pss_one (ps_ret (pe_and (pe_cmpR op_eq (pe_callB call_isi (by rfl) B.isinstance (by decide +kernel) (pa_cons (pv 0) (pa_cons (pe_bltn (v := .ty "bool") (by rfl) B.bool (by decide +kernel) rfl) pa_nil))) (pe_callB call_isi (by rfl) B.isinstance (by decide +kernel) (pa_cons (pv 1) (pa_cons (pe_bltn (v := .ty "bool") (by rfl) B.bool (by decide +kernel) rfl) pa_nil))) (nomark _)) (pe_one (pe_cmpR (op_eqD hr.units) (pv 0) (pv 1) (nomark _)))))) pss_nil)
 (pss_one (ps_ret (pe_and (pe_cmpR op_eq (pe_callB call_len_seq (by rfl) B.len PySem.boot_len (pa_cons (pv 0) pa_nil)) (pe_callB call_len_seq (by rfl) B.len PySem.boot_len (pa_cons (pv 1) pa_nil)) (nomark _)) (pe_one (pe_callB (cr_all rfl) (by rfl) B.all (by decide +kernel) (pa_cons (pe_lc (own := [("_law_k", 2)]) (g := gName 2) (tt := tYes) (by rfl) sc__law_same.nd (pi_range1 (by rfl) B.range (pa_cons (pe_callB call_len_seq (by rfl) B.len PySem.boot_len (pa_cons (pv 1) pa_nil)) pa_nil)) (blkOk_by (own := [("_law_k", 2)]) (N := ["_law_result_here", "_law_expected", "_law_k"]) (sc := defScope s__law_same) (by decide +kernel)) (fun _ _ _ _ _ => (pg_name (i := 2) sc__law_same.nd rfl (Or.inl rfl))) (fun _ _ _ _ _ => pts_nil) (fun _ _ _ _ _ => (pe_call G__law_same hr rfl d__law_same.m d__law_same.F.kp d__law_same.b .nil pass0 (pa_cons (pe_ix (r := rIx K) ix_seq (pv 0) (pv 2) (fun _ _ => rfl)) (pa_cons (pe_ix (r := rIx K) ix_seq (pv 1) (pv 2) (fun _ _ => rfl)) pa_nil))))) pa_nil))))))))), ?_⟩
    refine ⟨_, rfl, _, _, _, _, false, rfl, .ty "dict", dp_ty hy, kit_dict hy, false, rfl, iteF ?_⟩
    refine ⟨_, rfl, _, _, _, _, _, rfl, .ty "tuple", dp_ty hy, kit_tuple hy, _, rfl, _, _, _, _, _, rfl, .ty "tuple", dp_ty hx, kit_tuple hx, rfl, _, rfl, ite_no ?_ ?_⟩
    · rw [decide_eq_true rfl]
      rfl
    refine ⟨_, rfl, _, _, _, _, _, rfl, .ty "list", dp_ty hy, kit_list hy, _, rfl, _, _, _, _, _, rfl, .ty "list", dp_ty hx, kit_list hx, rfl, _, rfl, ite_no ?_ ?_⟩
    · rw [decide_eq_true rfl]
      rfl
    refine ⟨_, rfl, two_le, fun p hp => ?_⟩
    have s1 := Same.new hp (.tup [.ty "tuple", .ty "list"])
    have hx1 := dp_same s1 d hx
    have hy1 := dp_same s1 d hy
    refine ⟨_, p, _, _, _, _, rfl, upd_same, .cons (.ty _) (.cons (.ty _) .nil), dp_ty hy1, kit_seq hy1, _, rfl, ?_⟩
    generalize (upd H p (.tup [.ty "tuple", .ty "list"])) = H1 at *
    cases hsq : (isT d || isLs d) with
    | false =>
      refine iteT ?_
      refine ⟨_, rfl, _, _, _, _, _, rfl, .ty "bool", dp_ty hx1, kit_bool hx1, _, rfl, _, _, _, _, _, rfl, .ty "bool", dp_ty hy1, kit_bool hy1, rfl, true, ?_, iteT ?_⟩
      · rw [decide_eq_true rfl]
      · refine ⟨_, rfl, _, rfl, d, d, hx1, hy1, hs, hs, ?_⟩
        rw [SeqAt.eqv_refl d (SeqAt.canLay_of_shaped hs)]
        exact q H1 s1
    | true =>
      refine iteF ?_
      obtain ⟨ds, hds⟩ : ∃ ds, d = .list ds ∨ d = .tuple ds := by
        cases d <;> first | exact ⟨_, .inl rfl⟩ | exact ⟨_, .inr rfl⟩ | exact absurd (show false = true from hsq) (by decide)
      obtain ⟨a, xs, rfl, hX, hXA⟩ := same_ix (y := y) hds hx1
      obtain ⟨b, ys, rfl, hY, hYA⟩ := same_ix (y := .ref a) hds hy1
      have lx := dpAll_len hXA
      have ly := dpAll_len hYA
      have hcan : PyData.canLayAll0 ds = true := by
        have := SeqAt.canLay_of_shaped hs
        rcases hds with rfl | rfl <;> exact this
      have hdep : d.depth = PyData.depthAll ds + 1 := by rcases hds with rfl | rfl <;> rfl
      have hd64 := SeqAt.depth_of_shaped hs
      have hwd : ds.length ≤ 1000 ∧ wideAll ds = true := by
        have h0 : (decide (ds.length ≤ 1000) && wideAll ds) = true := by rcases hds with rfl | rfl <;> exact hw
        have h1 := Bool.and_eq_true_iff.mp h0
        exact ⟨of_decide_eq_true h1.1, h1.2⟩
      refine ⟨_, rfl, a, _, rfl, hX, _, rfl, b, _, rfl, hY, rfl, true, ?_, iteT ?_⟩
      · rw [lx, ly, decide_eq_true rfl]
      refine ⟨_, rfl, b, _, rfl, hY, (ys.length : Int), rfl, by omega, by omega, fun D hD => ?_⟩
      refine lc_range (lo := 0) (n := ((ys.length : Int)).toNat) (fun i H' => Same H1 H' ∧ H' D = some (.lst (List.replicate i (V.bl true)))) ⟨Same.new hD _, upd_same⟩ ?_ ?_
      · rintro i H' hi ⟨sm, hl⟩
        have hi' : i < ds.length := by omega
        obtain ⟨u, eu, hu⟩ := dpAll_at hXA i ds[i] (List.getElem?_eq_getElem hi')
        obtain ⟨v, ev, hv⟩ := dpAll_at hYA i ds[i] (List.getElem?_eq_getElem hi')
        have hm : ds[i] ∈ ds := List.getElem_mem hi'
        have hdi := depth_at hm
        refine ⟨rfl, ?_⟩
        refine ⟨_, rfl, _, rfl, rix_of (same_sq sm hX) eu ⟨_, rfl, _, rfl, rix_of (same_sq sm hY) ev ⟨u, v, ds[i], rfl, dp_same sm _ hu, dp_same sm _ hv, ?_, by omega, wide_at hwd.2 hm, fun H2 s2 => ?_⟩⟩⟩
        · unfold SeqAt.shaped
          rw [shaped_at hcan hm, decide_eq_true (by omega)]
          rfl
        · refine ⟨_, s2 _ _ hl, by rw [List.length_replicate]; exact small1000 (by omega), fun c o e => ?_, ?_⟩
          · rw [upd_ne (ne_of_none e hD)]
            exact s2 _ _ (sm _ _ e)
          · rw [upd_same, List.replicate_succ']
      · rintro H' ⟨sm, hl⟩
        refine ⟨D, List.replicate ((ys.length : Int)).toNat true, rfl, SqL.here (by rw [hl, List.map_replicate]), ?_⟩
        rw [all_rep]
        exact q H' (s1.trans sm)

abbrev s__law_term : Stmt := top 64
theorem sc__law_term : FnScope ["_law_rng", "_law_many", "_law_cap", "_law_half", "_law_low", "_law_high", "_law_left"] ["_law_rng", "_law_many", "_law_cap"] (defScope s__law_term) := ⟨rfl, rfl, rfl, by decide +kernel, rfl, by decide +kernel, by decide +kernel⟩
theorem ok__law_termC {fr : Addr} {frd : FuncData} (d__law_term : D K mg "_law_term" s__law_term ["_law_rng", "_law_many", "_law_cap"] f fd) (B : Blt mg) (d__law_draw : D K mg "_law_draw" s__law_draw ["_law_rng", "_law_amount"] fr frd) : ∀ n : Nat, FnOk P w K mg base CX0 (n + 1) f fd ["_law_rng", "_law_many", "_law_cap"] (spTermC K n)
  | 0 => fn_none fun vs H Q E h => by
    obtain ⟨_, _, _, _, h, _⟩ := h
    omega
  | n + 1 => by
    have G__law_term := ok__law_termC d__law_term B d__law_draw n
    have G__law_draw : FnOk P w K mg base CX0 1 fr frd ["_law_rng", "_law_amount"] spDrawC := ok__law_drawC d__law_draw B
    refine d__law_term.F.ok sc__law_term (fun vs H Q E h => ?_) (fun cdv A outer s H vs Q E hr h => ?_)
    · obtain ⟨_, _, _, _, _, rfl, _⟩ := h
      rfl
    obtain ⟨r, many, k, cc, hk, rfl, h6, h1, h2, hR, q⟩ := h
    refine ⟨_, (pss_cons (ps_if (pt_cmpR op_lt (pv 1) pe_int (nomark _)) (pss_one (ps_ret (pe_tup pa_nil))) pss_nil)
 (pss_cons (ps_set (i := 3) sc__law_term.nd rfl (Or.inl rfl) (pe_op op_fdiv (pv 2) pe_int))
 (pss_cons (ps_par (i := 4) (j := 5) (by rfl) sc__law_term.nd rfl rfl (by decide) rfl rfl (pa_cons (pe_callB (call_max2 rfl) (by rfl) B.max (by decide +kernel) (pa_cons pe_int (pa_cons (pe_op op_sub (pv 1) (pv 3)) pa_nil))) (pa_cons (pe_callB (call_min2 rfl) (by rfl) B.min (by decide +kernel) (pa_cons (pe_op op_sub (pv 1) pe_int) (pa_cons (pv 3) pa_nil))) pa_nil)) (by rfl))
 (pss_cons (ps_set (i := 6) sc__law_term.nd rfl (Or.inl rfl) (pe_op op_add (pv 4) (pe_call G__law_draw (hr.mono (by omega)) rfl d__law_draw.m d__law_draw.F.kp d__law_draw.b .nil pass0 (pa_cons (pv 0) (pa_cons (pe_op op_add (pe_op op_sub (pv 5) (pv 4)) pe_int) pa_nil)))))
 (pss_one (ps_ret (pe_tup (pa_cons (pe_call G__law_term hr rfl d__law_term.m d__law_term.F.kp d__law_term.b .nil pass0 (pa_cons (pv 0) (pa_cons (pv 6) (pa_cons (pv 3) pa_nil)))) (pa_cons (pe_call G__law_term hr rfl d__law_term.m d__law_term.F.kp d__law_term.b .nil pass0 (pa_cons (pv 0) (pa_cons (pe_op op_sub (pv 1) (pv 6)) (pa_cons (pv 3) pa_nil)))) pa_nil))))))))), ?_⟩
    refine ⟨_, rfl, _, _, rfl, rfl, _, rfl, ?_⟩
    refine ite2 (fun c => ?_) (fun c => ?_)
    · have c' : many < 2 := of_decide_eq_true c
      refine ⟨zero_le', fun p hp => ?_⟩
      refine q _ .L _ (ta_leaf (SqT.here upd_same)) (by show ((1 : Nat) : Int) = many; omega) (Nat.zero_le _) (hR.same (Same.new hp _)) (But.same (Same.new hp _))
    · have c' : ¬ many < 2 := of_decide_eq_false (Bool.eq_false_iff.mpr c)
      cases k with
      | zero => exact absurd h2 (by show ¬ many ≤ 1; omega)
      | succ k =>
        have hp : (0 : Int) < 2 ^ k := Int.pow_pos (by decide)
        have hp6 : (2 : Int) ^ k ≤ 2 ^ 6 := by
          have : (2 : Nat) ^ k ≤ 2 ^ 6 := Nat.pow_le_pow_right (by decide) (by omega)
          exact_mod_cast this
        have e2 : (2 : Int) ^ (k + 1) = 2 * 2 ^ k := by rw [Int.pow_succ]; omega
        have eh : (2 : Int) ^ (k + 1) / 2 = 2 ^ k := by rw [e2]; omega
        refine ⟨_, rfl, _, _, rfl, rfl, ⟨by decide, by decide⟩, ?_⟩
        rw [e2] at h2
        generalize hh : (2 : Int) ^ (k + 1) / 2 = half at eh
        refine ⟨_, rfl, _, rfl, _, _, rfl, rfl, _, _, rfl, _, rfl, _, _, rfl, rfl, _, rfl, _, _, rfl, _, _, rfl, ?_⟩
        have el : ∀ a b : Int, (if a > b then a else b) = max b a := fun a b => by
          by_cases h : a > b
          · rw [if_pos h]; omega
          · rw [if_neg h]; omega
        have em : ∀ a b : Int, (if a < b then a else b) = min b a := fun a b => by
          by_cases h : a < b
          · rw [if_pos h]; omega
          · rw [if_neg h]; omega
        generalize hlo : (if many - (2 : Int) ^ (k + 1) / 2 > 1 then many - (2 : Int) ^ (k + 1) / 2 else 1) = lo
        generalize hhi : (if (2 : Int) ^ (k + 1) / 2 < many - 1 then (2 : Int) ^ (k + 1) / 2 else many - 1) = hi
        rw [el, hh, eh] at hlo
        rw [em, hh, eh] at hhi
        have p6 : (2 : Int) ^ 6 = 64 := by decide
        refine ⟨_, rfl, _, rfl, _, rfl, _, rfl, _, _, rfl, rfl, _, _, rfl, rfl, r, hi - lo + 1, cc, rfl, hR, by omega, by omega, fun v H1 v0 v1 R1 b1 => ?_⟩
        refine ⟨_, _, rfl, rfl, ?_⟩
        refine ⟨_, rfl, _, rfl, _, rfl, r, lo + v, k, cc, by omega, ?_, by omega, by omega, by omega, R1, fun x tx H2 a2 z2 d2 R2 b2 => ?_⟩
        · show [V.ref r, V.int (lo + v), V.int ((2 : Int) ^ (k + 1) / 2)] = _
          rw [hh, eh]
        refine ⟨_, rfl, _, rfl, _, rfl, _, _, rfl, rfl, _, rfl, r, many - (lo + v), k, cc, by omega, ?_, by omega, by omega, by omega, R2, fun y ty H3 a3 z3 d3 R3 b3 => ?_⟩
        · show [V.ref r, V.int (many - (lo + v)), V.int ((2 : Int) ^ (k + 1) / 2)] = _
          rw [hh, eh]
        refine ⟨two_le, fun p hp' => ?_⟩
        obtain ⟨ys, l2⟩ := R2.lst
        have sn := Same.new hp' (.tup [x, y])
        refine q _ (.N tx ty) _ (ta_node (SqT.here upd_same) (ta_mono (Tp.same sn) (ta_mono (Tp.but l2 b3) a2)) (ta_mono (Tp.same sn) a3)) ?_ ?_ (R3.same sn) (((b1.trans b2).trans b3).trans (But.same sn))
        · show ((tx.sz + ty.sz : Nat) : Int) = many
          omega
        · show max tx.dp ty.dp + 1 ≤ k + 1
          omega
theorem ok__law_term {fr : Addr} {frd : FuncData} (d__law_term : D K mg "_law_term" s__law_term ["_law_rng", "_law_many", "_law_cap"] f fd) (B : Blt mg) (d__law_draw : D K mg "_law_draw" s__law_draw ["_law_rng", "_law_amount"] fr frd) (n : Nat) : FnOk P w K mg base CX0 (n + 1) f fd ["_law_rng", "_law_many", "_law_cap"] (spTerm K n) := (ok__law_termC d__law_term B d__law_draw n).imp fun _ _ _ _ => spTerm_C

abbrev s__law_comb : Stmt := top 65
theorem sc__law_comb : FnScope ["_law_many", "_law_onleft", "_law_term_here", "_law_step"] ["_law_many", "_law_onleft"] (defScope s__law_comb) := ⟨rfl, rfl, rfl, by decide +kernel, rfl, by decide +kernel, by decide +kernel⟩
theorem ok__law_comb (d : D K mg "_law_comb" s__law_comb ["_law_many", "_law_onleft"] f fd) (B : Blt mg) : FnOk P w K mg base CX0 1 f fd ["_law_many", "_law_onleft"] (spComb K) := by
  refine d.F.ok sc__law_comb (fun vs H Q E h => ?_) (fun cdv A outer s H vs Q E hr h => ?_)
  · obtain ⟨_, _, rfl, _⟩ := h
    rfl
  obtain ⟨m, b, rfl, h1, h2, q⟩ := h
  refine ⟨_, (pss_cons (ps_set (i := 2) sc__law_comb.nd rfl (Or.inl rfl) (pe_tup pa_nil))
 (pss_cons (ps_for PassesOwn.never rfl (pi_range1 (by rfl) B.range (pa_cons (pe_op op_sub (pv 0) pe_int) pa_nil)) (pg_name (i := 3) sc__law_comb.nd rfl (Or.inl rfl))
  (pss_one (ps_set (i := 2) sc__law_comb.nd rfl (Or.inl rfl) (pe_ifExp (pt_truth (pv 1) (by intro _; rfl)) (pe_tup (pa_cons (pv 2) (pa_cons (pe_tup pa_nil) pa_nil))) (pe_tup (pa_cons (pe_tup pa_nil) (pa_cons (pv 2) pa_nil)))))))
 (pss_one (ps_ret (pv 2))))), ?_⟩
  refine ⟨zero_le', fun p hp => ?_⟩
  refine ⟨_, rfl, _, _, rfl, rfl, m - 1, rfl, by omega, by omega, for_range (lo := 0) (n := (m - 1).toNat) (fun i σ H' => ∃ (v : V) (t : Tree) (x : Option V), σ = [some (.int m), some (.bl b), some v, x] ∧ TA K H' v t ∧ t.sz = i + 1 ∧ t.dp = i ∧ Same H H')
    ⟨.ref p, .L, none, rfl, ta_leaf (SqT.here upd_same), rfl, rfl, Same.new hp _⟩ ?_ ?_⟩
  · rintro i σ H' hi ⟨v, t, x, rfl, ha, hz, hd, sm⟩
    refine ⟨_, rfl, b, rfl, ?_⟩
    refine ite2 (fun c => ?_) (fun c => ?_)
    · refine ⟨_, rfl, zero_le', fun p2 hp2 => ⟨two_le, fun p3 hp3 => ?_⟩⟩
      have s2 := Same.new hp2 (.tup [])
      have s3 := s2.trans (Same.new hp3 (.tup [v, .ref p2]))
      refine ⟨_, .N t .L, _, rfl, ta_node (SqT.here upd_same) (ta_mono (Tp.same s3) ha) (ta_mono (Tp.same (Same.new hp3 _)) (ta_leaf (SqT.here upd_same))), by show t.sz + 1 = _; omega, by show max t.dp 0 + 1 = _; omega, sm.trans s3⟩
    · refine ⟨zero_le', fun p2 hp2 => ⟨_, rfl, two_le, fun p3 hp3 => ?_⟩⟩
      have s2 := Same.new hp2 (.tup [])
      have s3 := s2.trans (Same.new hp3 (.tup [.ref p2, v]))
      refine ⟨_, .N .L t, _, rfl, ta_node (SqT.here upd_same) (ta_mono (Tp.same (Same.new hp3 _)) (ta_leaf (SqT.here upd_same))) (ta_mono (Tp.same s3) ha), by show 1 + t.sz = _; omega, by show max 0 t.dp + 1 = _; omega, sm.trans s3⟩
  · rintro σ H' ⟨v, t, x, rfl, ha, hz, hd, sm⟩
    refine ⟨_, rfl, q v t H' ha (by omega) (by omega) sm⟩

abbrev s__law_any_term : Stmt := top 66
theorem sc__law_any_term : FnScope ["_law_rng", "_law_top", "_law_way", "_law_many"] ["_law_rng", "_law_top"] (defScope s__law_any_term) := ⟨rfl, rfl, rfl, by decide +kernel, rfl, by decide +kernel, by decide +kernel⟩
theorem ok__law_any_termC {fr fc ft : Addr} {frd fcd ftd : FuncData} (d__law_any_term : D K mg "_law_any_term" s__law_any_term ["_law_rng", "_law_top"] f fd) (B : Blt mg) (d__law_draw : D K mg "_law_draw" s__law_draw ["_law_rng", "_law_amount"] fr frd)
    (d__law_comb : D K mg "_law_comb" s__law_comb ["_law_many", "_law_onleft"] fc fcd) (d__law_term : D K mg "_law_term" s__law_term ["_law_rng", "_law_many", "_law_cap"] ft ftd) : FnOk P w K mg base CX0 9 f fd ["_law_rng", "_law_top"] (spAnyC K) := by
  have G__law_draw : FnOk P w K mg base CX0 1 fr frd ["_law_rng", "_law_amount"] spDrawC := ok__law_drawC d__law_draw B
  have G__law_comb : FnOk P w K mg base CX0 1 fc fcd ["_law_many", "_law_onleft"] (spComb K) := ok__law_comb d__law_comb B
  have G__law_term : FnOk P w K mg base CX0 8 ft ftd ["_law_rng", "_law_many", "_law_cap"] (spTermC K 7) := ok__law_termC d__law_term B d__law_draw 7
  refine d__law_any_term.F.ok sc__law_any_term (fun vs H Q E h => ?_) (fun cdv A outer s H vs Q E hr h => ?_)
  · obtain ⟨_, _, _, rfl, _⟩ := h
    rfl
  obtain ⟨r, n, cc, rfl, h1, h2, hR, q⟩ := h
  refine ⟨_, (pss_cons (ps_par (i := 2) (j := 3) (by rfl) sc__law_any_term.nd rfl rfl (by decide) rfl rfl (pa_cons (pe_call G__law_draw (hr.mono (by decide)) rfl d__law_draw.m d__law_draw.F.kp d__law_draw.b .nil pass0 (pa_cons (pv 0) (pa_cons pe_int pa_nil))) (pa_cons (pe_op op_add pe_int (pe_call G__law_draw (hr.mono (by decide)) rfl d__law_draw.m d__law_draw.F.kp d__law_draw.b .nil pass0 (pa_cons (pv 0) (pa_cons (pv 1) pa_nil)))) pa_nil)) (by rfl))
 (pss_cons (ps_if (pt_cmpR op_lt (pv 2) pe_int (nomark _)) (pss_one (ps_ret (pe_call G__law_comb (hr.mono (by decide)) rfl d__law_comb.m d__law_comb.F.kp d__law_comb.b .nil pass0 (pa_cons (pe_callB (call_min2 rfl) (by rfl) B.min (by decide +kernel) (pa_cons (pv 3) (pa_cons pe_int pa_nil))) (pa_cons (pe_cmpR op_eq (pv 2) pe_int (nomark _)) pa_nil))))) pss_nil)
 (pss_one (ps_ret (pe_call G__law_term (hr.mono (by decide)) rfl d__law_term.m d__law_term.F.kp d__law_term.b .nil pass0 (pa_cons (pv 0) (pa_cons (pv 3) (pa_cons pe_int pa_nil)))))))), ?_⟩
  refine ⟨_, rfl, r, 8, cc, rfl, hR, by decide, by decide, fun way H1 w0 w1 R1 b1 => ?_⟩
  refine ⟨_, rfl, _, rfl, r, n, cc, rfl, R1, by omega, by omega, fun m H2 m0 m1 R2 b2 => ?_⟩
  have b12 := b1.trans b2
  refine ⟨_, _, rfl, rfl, _, _, rfl, ?_⟩
  refine ⟨_, rfl, _, _, rfl, rfl, _, rfl, ?_⟩
  refine ite2 (fun c => ?_) (fun c => ?_)
  · refine ⟨_, rfl, _, _, rfl, _, rfl, rfl, (if 7 < 1 + m then 7 else 1 + m), decide (V.int way = V.int 0), rfl, ?_, ?_, fun v t H3 a3 z3 d3 s3 => ?_⟩
    · split <;> omega
    · split <;> omega
    · refine q v t H3 a3 ?_ ?_ (R2.same s3) (b12.trans (But.same s3))
      · rw [z3]
        split <;> omega
      · have : (t.dp : Int) ≤ 6 := by
          rw [d3]
          split <;> omega
        omega
  · refine ⟨_, rfl, _, rfl, r, 1 + m, 6, cc, by decide, rfl, by decide, by omega, by show 1 + m ≤ 64; omega, R2, fun v t H3 a3 z3 d3 R3 b3 => ?_⟩
    exact q v t H3 a3 (by omega) d3 R3 (b12.trans b3)
theorem ok__law_any_term {fr fc ft : Addr} {frd fcd ftd : FuncData} (d__law_any_term : D K mg "_law_any_term" s__law_any_term ["_law_rng", "_law_top"] f fd) (B : Blt mg) (d__law_draw : D K mg "_law_draw" s__law_draw ["_law_rng", "_law_amount"] fr frd)
    (d__law_comb : D K mg "_law_comb" s__law_comb ["_law_many", "_law_onleft"] fc fcd) (d__law_term : D K mg "_law_term" s__law_term ["_law_rng", "_law_many", "_law_cap"] ft ftd) : FnOk P w K mg base CX0 9 f fd ["_law_rng", "_law_top"] (spAny K) := (ok__law_any_termC d__law_any_term B d__law_draw d__law_comb d__law_term).imp fun _ _ _ _ => spAny_C

abbrev s__law_size : Stmt := top 67
theorem sc__law_size : FnScope ["_law_term_here"] ["_law_term_here"] (defScope s__law_size) := ⟨rfl, rfl, rfl, by decide +kernel, rfl, by decide +kernel, by decide +kernel⟩
theorem ok__law_size (d__law_size : D K mg "_law_size" s__law_size ["_law_term_here"] f fd) : ∀ n : Nat, FnOk P w K mg base CX0 n f fd ["_law_term_here"] (spTree K (fun t => .int t.sz) n)
  | 0 => fn_none spTree_no
  | n + 1 => by
    have G__law_size := ok__law_size d__law_size n
    refine d__law_size.F.ok sc__law_size (fun vs H Q E h => ?_) (fun cdv A outer s H vs Q E hr h => ?_)
    · obtain ⟨_, _, rfl, _⟩ := h
      rfl
    obtain ⟨v, t, rfl, ha, hd, hn, q⟩ := h
    refine ⟨_, (pss_one (ps_ret (pe_ifExp (pt_cmpR (op_eqD hr.units) (pv 0) (pe_tup pa_nil) (nomark _)) pe_int (pe_op op_add (pe_call G__law_size hr rfl d__law_size.m d__law_size.F.kp d__law_size.b .nil pass0 (pa_cons (pe_ix ix_tup (pv 0) pe_int (fun _ _ => rfl)) pa_nil)) (pe_call G__law_size hr rfl d__law_size.m d__law_size.F.kp d__law_size.b .nil pass0 (pa_cons (pe_ix ix_tup (pv 0) pe_int (fun _ _ => rfl)) pa_nil)))))), ?_⟩
    refine ⟨_, rfl, zero_le', fun p hp => ⟨t.d, .tuple [], ta_mono (Tp.same (Same.new hp _)) ha, Dp.tup (SqT.here upd_same) .nil, Tree.shaped (by omega), shapedE, _, rfl, ite_eq (Tree.eqvL t) ?_⟩⟩
    have s1 := Same.new hp (.tup [])
    cases t with
    | L => exact iteT (q _ s1)
    | N l r =>
      have hd : max l.dp r.dp + 1 < n + 1 := hd
      obtain ⟨b, x1, x2, rfl, hS, hL, hR⟩ := ta_invN (ta_mono (Tp.same s1) ha)
      refine iteF ⟨_, rfl, b, _, 0, _, rfl, rfl, hS, rfl, x1, l, rfl, hL, by omega, by omega, fun H2 s2 => ?_⟩
      refine ⟨_, rfl, b, _, 1, _, rfl, rfl, (Tp.same s2).sqT hS, rfl, x2, r, rfl, ta_mono (Tp.same s2) hR, by omega, by omega, fun H3 s3 => ?_⟩
      refine ⟨_, _, rfl, rfl, ?_⟩
      have e : ((Tree.N l r).sz : Int) = (l.sz : Int) + (r.sz : Int) := by
        show ((l.sz + r.sz : Nat) : Int) = _
        omega
      have q' := q H3 ((s1.trans s2).trans s3)
      show Q (.int ((l.sz : Int) + (r.sz : Int))) H3
      rw [← e]
      exact q'

abbrev s__law_depth : Stmt := top 68
theorem sc__law_depth : FnScope ["_law_term_here"] ["_law_term_here"] (defScope s__law_depth) := ⟨rfl, rfl, rfl, by decide +kernel, rfl, by decide +kernel, by decide +kernel⟩
theorem ok__law_depth (d__law_depth : D K mg "_law_depth" s__law_depth ["_law_term_here"] f fd) (B : Blt mg) : ∀ n : Nat, FnOk P w K mg base CX0 n f fd ["_law_term_here"] (spTree K (fun t => .int t.dp) n)
  | 0 => fn_none spTree_no
  | n + 1 => by
    have G__law_depth := ok__law_depth d__law_depth B n
    refine d__law_depth.F.ok sc__law_depth (fun vs H Q E h => ?_) (fun cdv A outer s H vs Q E hr h => ?_)
    · obtain ⟨_, _, rfl, _⟩ := h
      rfl
    obtain ⟨v, t, rfl, ha, hd, hn, q⟩ := h
    refine ⟨_, (pss_one (ps_ret (pe_ifExp (pt_cmpR (op_eqD hr.units) (pv 0) (pe_tup pa_nil) (nomark _)) pe_int (pe_op op_add pe_int (pe_callB (call_max2 rfl) (by rfl) B.max (by decide +kernel) (pa_cons (pe_call G__law_depth hr rfl d__law_depth.m d__law_depth.F.kp d__law_depth.b .nil pass0 (pa_cons (pe_ix ix_tup (pv 0) pe_int (fun _ _ => rfl)) pa_nil)) (pa_cons (pe_call G__law_depth hr rfl d__law_depth.m d__law_depth.F.kp d__law_depth.b .nil pass0 (pa_cons (pe_ix ix_tup (pv 0) pe_int (fun _ _ => rfl)) pa_nil)) pa_nil))))))), ?_⟩
    refine ⟨_, rfl, zero_le', fun p hp => ⟨t.d, .tuple [], ta_mono (Tp.same (Same.new hp _)) ha, Dp.tup (SqT.here upd_same) .nil, Tree.shaped (by omega), shapedE, _, rfl, ite_eq (Tree.eqvL t) ?_⟩⟩
    have s1 := Same.new hp (.tup [])
    cases t with
    | L => exact iteT (q _ s1)
    | N l r =>
      have hd : max l.dp r.dp + 1 < n + 1 := hd
      obtain ⟨b, x1, x2, rfl, hS, hL, hR⟩ := ta_invN (ta_mono (Tp.same s1) ha)
      refine iteF ⟨_, rfl, b, _, 0, _, rfl, rfl, hS, rfl, x1, l, rfl, hL, by omega, by omega, fun H2 s2 => ?_⟩
      refine ⟨_, rfl, b, _, 1, _, rfl, rfl, (Tp.same s2).sqT hS, rfl, x2, r, rfl, ta_mono (Tp.same s2) hR, by omega, by omega, fun H3 s3 => ?_⟩
      refine ⟨_, _, rfl, _, _, rfl, rfl, ?_⟩
      have e : (((Tree.N l r).dp : Nat) : Int) = 1 + (if (r.dp : Int) > (l.dp : Int) then (r.dp : Int) else (l.dp : Int)) := by
        show ((max l.dp r.dp + 1 : Nat) : Int) = _
        split <;> omega
      have q' := q H3 ((s1.trans s2).trans s3)
      show Q (.int (1 + (if (r.dp : Int) > (l.dp : Int) then (r.dp : Int) else (l.dp : Int)))) H3
      rw [← e]
      exact q'

abbrev s__law_fits : Stmt := top 70
theorem sc__law_fits : FnScope ["_law_term_here", "_law_top"] ["_law_term_here", "_law_top"] (defScope s__law_fits) := ⟨rfl, rfl, rfl, by decide +kernel, rfl, by decide +kernel, by decide +kernel⟩
theorem ok__law_fits {f1 f2 : Addr} {e1 e2 : FuncData} (d : D K mg "_law_fits" s__law_fits ["_law_term_here", "_law_top"] f fd) (B : Blt mg) (d__law_size : D K mg "_law_size" s__law_size ["_law_term_here"] f1 e1) (d__law_depth : D K mg "_law_depth" s__law_depth ["_law_term_here"] f2 e2) : FnOk P w K mg base CX0 41 f fd ["_law_term_here", "_law_top"] (spFitsX K) := by
  have G__law_size : FnOk P w K mg base CX0 40 f1 e1 ["_law_term_here"] (spTree K (fun t => .int t.sz) 40) := ok__law_size d__law_size 40
  have G__law_depth : FnOk P w K mg base CX0 40 f2 e2 ["_law_term_here"] (spTree K (fun t => .int t.dp) 40) := ok__law_depth d__law_depth B 40
  refine d.F.ok sc__law_fits (fun vs H Q E h => ?_) (fun cdv A outer s H vs Q E hr h => ?_)
  · obtain ⟨_, _, _, rfl, _⟩ := h
    rfl
  obtain ⟨v, t, top, rfl, ha, hd, q⟩ := h
  refine ⟨_, (pss_one (ps_ret (pe_and (pe_cmpR op_le (pe_call G__law_size (hr.mono (by decide)) rfl d__law_size.m d__law_size.F.kp d__law_size.b .nil pass0 (pa_cons (pv 0) pa_nil)) (pv 1) (nomark _)) (pe_one (pe_cmpR op_lt (pe_call G__law_depth (hr.mono (by decide)) rfl d__law_depth.m d__law_depth.F.kp d__law_depth.b .nil pass0 (pa_cons (pv 0) pa_nil)) pe_int (nomark _)))))), ?_⟩
  refine ⟨_, rfl, v, t, rfl, ha, by omega, by omega, fun H2 s2 => ?_⟩
  refine ⟨_, rfl, _, _, rfl, rfl, _, rfl, ?_⟩
  by_cases c : (t.sz : Int) ≤ top
  · refine ite_yes (decide_eq_true c) ⟨_, rfl, v, t, rfl, ta_mono (Tp.same s2) ha, by omega, by omega, fun H3 s3 => ⟨_, _, rfl, rfl, ?_⟩⟩
    have q := q H3 (s2.trans s3)
    rw [decide_eq_true c, Bool.true_and] at q
    have e : decide ((t.dp : Int) < 7) = decide (t.dp < 7) := by
      by_cases h : t.dp < 7
      · rw [decide_eq_true h, decide_eq_true (by omega)]
      · rw [decide_eq_false h, decide_eq_false (by omega)]
    rw [← e] at q
    exact q
  · have q := q H2 s2
    rw [decide_eq_false c, Bool.false_and] at q
    exact ite_no (decide_eq_false c) q

abbrev s__law_paths : Stmt := top 71
theorem sc__law_paths : FnScope ["_law_term_here", "_law_spot"] ["_law_term_here", "_law_spot"] (defScope s__law_paths) := ⟨rfl, rfl, rfl, by decide +kernel, rfl, by decide +kernel, by decide +kernel⟩
theorem ok__law_paths (d__law_paths : D K mg "_law_paths" s__law_paths ["_law_term_here", "_law_spot"] f fd) : ∀ n : Nat, FnOk P w K mg base CX0 (n + 1) f fd ["_law_term_here", "_law_spot"] (spPts K n)
  | 0 => fn_none fun vs H Q E h => by
    obtain ⟨_, _, _, _, _, h, _⟩ := h
    omega
  | n + 1 => by
    have G__law_paths := ok__law_paths d__law_paths n
    refine d__law_paths.F.ok sc__law_paths (fun vs H Q E h => ?_) (fun cdv A outer s H vs Q E hr h => ?_)
    · obtain ⟨_, _, _, rfl, _⟩ := h
      rfl
    obtain ⟨v, t, p, rfl, ha, hn, hn2, hnd, hpl, q⟩ := h
    refine ⟨_, (pss_cons (ps_if (pt_cmpR (op_eqD hr.units) (pv 0) (pe_tup pa_nil) (nomark _)) (pss_one (ps_ret (pe_lst (pa_cons (pv 1) pa_nil)))) pss_nil)
 (pss_one (ps_ret (pe_op op_cat (pe_op op_cat (pe_lst (pa_cons (pv 1) pa_nil)) (pe_call G__law_paths hr rfl d__law_paths.m d__law_paths.F.kp d__law_paths.b .nil pass0 (pa_cons (pe_ix ix_tup (pv 0) pe_int (fun _ _ => rfl)) (pa_cons (pe_op op_add_str (pv 1) pe_str) pa_nil)))) (pe_call G__law_paths hr rfl d__law_paths.m d__law_paths.F.kp d__law_paths.b .nil pass0 (pa_cons (pe_ix ix_tup (pv 0) pe_int (fun _ _ => rfl)) (pa_cons (pe_op op_add_str (pv 1) pe_str) pa_nil))))))), ?_⟩
    refine ⟨_, rfl, zero_le', fun p5 hp5 => ⟨t.d, .tuple [], ta_mono (Tp.same (Same.new hp5 _)) ha, Dp.tup (SqT.here upd_same) .nil, Tree.shaped (by omega), shapedE, _, rfl, ite_eq (Tree.eqvL t) ?_⟩⟩
    have s1 := Same.new hp5 (.tup [])
    cases t with
    | L => exact iteT ⟨_, rfl, one_le, fun l nl => q l _ (s1.trans (Same.new nl _)) (s1.free nl) upd_same⟩
    | N l r =>
      have hn : max l.dp r.dp + 1 < n + 1 := hn
      have hnd : l.nodes + r.nodes + 1 ≤ 1000 := hnd
      have hpl : p.length + (max l.dp r.dp + 1) ≤ 60 := hpl
      obtain ⟨b, x1, x2, rfl, hS, hL, hR⟩ := ta_invN (ta_mono (Tp.same s1) ha)
      refine iteF ⟨_, rfl, one_le, fun l0 nl0 => ?_⟩
      have s2 := Same.new nl0 (.lst [.str (ptx p)])
      refine ⟨_, rfl, b, _, 0, _, rfl, rfl, (Tp.same s2).sqT hS, rfl, _, rfl, _, _, rfl, rfl, ?_, ?_⟩
      · rw [ptx_len]
        exact fits (by show p.length + 1 ≤ 10000; omega)
      rw [ptx_snoc0]
      refine ⟨x1, l, p ++ [false], rfl, ta_mono (Tp.same s2) hL, by omega, by omega, by omega, by rw [List.length_append, List.length_singleton]; omega, fun l1 H3 s3 nl1 h1 => ?_⟩
      refine ⟨l0, l1, _, _, rfl, rfl, s3 _ _ upd_same, h1, ?_, fun l2 nl2 => ?_⟩
      · rw [ptxs_len, Tree.pts_len]
        exact fits (by show 1 + l.nodes ≤ 10000; omega)
      have s4 := Same.new nl2 (.lst ([.str (ptx p)] ++ ptxs (l.pts (p ++ [false]))))
      have s24 := s2.trans (s3.trans s4)
      refine ⟨_, rfl, b, _, 1, _, rfl, rfl, (Tp.same s24).sqT hS, rfl, _, rfl, _, _, rfl, rfl, ?_, ?_⟩
      · rw [ptx_len]
        exact fits (by show p.length + 1 ≤ 10000; omega)
      rw [ptx_snoc1]
      refine ⟨x2, r, p ++ [true], rfl, ta_mono (Tp.same s24) hR, by omega, by omega, by omega, by rw [List.length_append, List.length_singleton]; omega, fun l3 H5 s5 nl3 h3 => ?_⟩
      refine ⟨l2, l3, _, _, rfl, rfl, s5 _ _ upd_same, h3, ?_, fun l4 nl4 => ?_⟩
      · rw [List.length_append, ptxs_len, Tree.pts_len, ptxs_len, Tree.pts_len]
        exact fits (by show 1 + l.nodes + r.nodes ≤ 10000; omega)
      have sA := s1.trans (s24.trans s5)
      refine q l4 _ (sA.trans (Same.new nl4 _)) (sA.free nl4) ?_
      rw [upd_same]
      show _ = some (HO.lst (ptxs (([p] ++ l.pts (p ++ [false])) ++ r.pts (p ++ [true]))))
      rw [ptxs_app, ptxs_app]
      rfl

abbrev s__law_subterm : Stmt := top 72
theorem sc__law_subterm : FnScope ["_law_term_here", "_law_spot", "_law_sign"] ["_law_term_here", "_law_spot"] (defScope s__law_subterm) := ⟨rfl, rfl, rfl, by decide +kernel, rfl, by decide +kernel, by decide +kernel⟩
theorem ok__law_subterm (d : D K mg "_law_subterm" s__law_subterm ["_law_term_here", "_law_spot"] f fd) : FnOk P w K mg base CX0 1 f fd ["_law_term_here", "_law_spot"] (spStN K) := by
  refine d.F.ok sc__law_subterm (fun vs H Q E h => ?_) (fun cdv A outer s H vs Q E hr h => ?_)
  · obtain ⟨_, _, _, rfl, _⟩ := h
    rfl
  obtain ⟨v, t, p, rfl, ha, hd, qn, q⟩ := h
  refine ⟨_, (pss_cons (ps_for PassesOwn.never rfl (pi_str (pv 1)) (pg_name (i := 2) sc__law_subterm.nd rfl (Or.inl rfl))
  (pss_cons (ps_if (pt_cmpR (op_eqD hr.units) (pv 0) (pe_tup pa_nil) (nomark _)) (pss_one (ps_ret pe_non)) pss_nil)
 (pss_one (ps_set (i := 0) sc__law_subterm.nd rfl (Or.inl rfl) (pe_ifExp (pt_cmpR op_eq (pv 2) pe_str (nomark _)) (pe_ix ix_tup (pv 0) pe_int (fun _ _ => rfl)) (pe_ix ix_tup (pv 0) pe_int (fun _ _ => rfl)))))))
 (pss_one (ps_ret (pv 0)))), ?_⟩
  refine ⟨_, rfl, ptx p, rfl, for_S (z := ptx p) (fun j σ G => ∃ (v : V) (u : Tree) (x : Option V), σ = [some v, some (.str (ptx p)), x] ∧ TA K G v u ∧ u.dp ≤ 60 ∧ Same H G ∧ t.st p = u.st (p.drop j)) ⟨v, t, none, rfl, ha, hd, Same.refl _, rfl⟩ ?_ ?_⟩
  · rintro j c σ G hc ⟨v, u, x, rfl, ha, hd, sm, hst⟩
    obtain ⟨b, hb, rfl⟩ := pcs_at p j c hc
    obtain ⟨hj, eb⟩ := List.getElem?_eq_some_iff.mp hb
    rw [List.drop_eq_getElem_cons hj, eb] at hst
    refine ⟨_, rfl, zero_le', fun p5 hp5 => ⟨u.d, .tuple [], ta_mono (Tp.same (Same.new hp5 _)) ha, Dp.tup (SqT.here upd_same) .nil, Tree.shaped (by omega), shapedE, _, rfl, ite_eq (Tree.eqvL _) ?_⟩⟩
    have s5 := Same.new hp5 (.tup [])
    cases u with
    | L => exact iteT (qn hst _ (sm.trans s5))
    | N l r =>
      have hd : max l.dp r.dp + 1 ≤ 60 := hd
      obtain ⟨q1, x1, x2, rfl, hS, hL, hR⟩ := ta_invN (ta_mono (Tp.same s5) ha)
      refine iteF ?_
      cases b with
      | false =>
        refine ⟨_, rfl, rfl, _, rfl, ite_yes (by decide +kernel) ⟨_, rfl, q1, _, 0, _, rfl, rfl, hS, rfl, ?_⟩⟩
        exact ⟨x1, l, _, rfl, hL, by omega, sm.trans s5, hst⟩
      | true =>
        refine ⟨_, rfl, rfl, _, rfl, ite_no (by decide +kernel) ⟨_, rfl, q1, _, 1, _, rfl, rfl, hS, rfl, ?_⟩⟩
        exact ⟨x2, r, _, rfl, hR, by omega, sm.trans s5, hst⟩
  · rintro σ G ⟨v, u, x, rfl, ha, hd, sm, hst⟩
    rw [ptx_size, List.drop_eq_nil_of_le (Nat.le_refl _), Tree.st_nil] at hst
    exact ⟨_, rfl, q u hst v G ha sm⟩

abbrev s__law_replace : Stmt := top 73
theorem sc__law_replace : FnScope ["_law_term_here", "_law_spot", "_law_new"] ["_law_term_here", "_law_spot", "_law_new"] (defScope s__law_replace) := ⟨rfl, rfl, rfl, by decide +kernel, rfl, by decide +kernel, by decide +kernel⟩
theorem ok__law_replace (d__law_replace : D K mg "_law_replace" s__law_replace ["_law_term_here", "_law_spot", "_law_new"] f fd) : ∀ n : Nat, FnOk P w K mg base CX0 n f fd ["_law_term_here", "_law_spot", "_law_new"] (spRp K n)
  | 0 => fn_none fun vs H Q E h => by
    obtain ⟨_, _, _, _, _, _, _, _, _, h, _⟩ := h
    omega
  | n + 1 => by
    have G__law_replace := ok__law_replace d__law_replace n
    refine d__law_replace.F.ok sc__law_replace (fun vs H Q E h => ?_) (fun cdv A outer s H vs Q E hr h => ?_)
    · obtain ⟨_, _, _, _, _, _, rfl, _⟩ := h
      rfl
    obtain ⟨v, w', t, u, t', p, rfl, ha, hu, hp, hn, hrp, q⟩ := h
    refine ⟨_, (pss_cons (ps_if (pt_cmpR op_eq (pv 1) pe_str (nomark _)) (pss_one (ps_ret (pv 2))) pss_nil)
 (pss_cons (ps_if (pt_cmpR op_eq (pe_ix ix_str (pv 1) pe_int (fun _ _ => rfl)) pe_str (nomark _)) (pss_one (ps_ret (pe_tup (pa_cons (pe_call G__law_replace hr rfl d__law_replace.m d__law_replace.F.kp d__law_replace.b .nil pass0 (pa_cons (pe_ix ix_tup (pv 0) pe_int (fun _ _ => rfl)) (pa_cons (pe_slice sl_str (pv 1) (po_some pe_int) po_none) (pa_cons (pv 2) pa_nil)))) (pa_cons (pe_ix ix_tup (pv 0) pe_int (fun _ _ => rfl)) pa_nil))))) pss_nil)
 (pss_one (ps_ret (pe_tup (pa_cons (pe_ix ix_tup (pv 0) pe_int (fun _ _ => rfl)) (pa_cons (pe_call G__law_replace hr rfl d__law_replace.m d__law_replace.F.kp d__law_replace.b .nil pass0 (pa_cons (pe_ix ix_tup (pv 0) pe_int (fun _ _ => rfl)) (pa_cons (pe_slice sl_str (pv 1) (po_some pe_int) po_none) (pa_cons (pv 2) pa_nil)))) pa_nil))))))), ?_⟩
    cases p with
    | nil =>
      rw [Tree.rp_nil] at hrp
      cases hrp
      exact ⟨_, rfl, rfl, _, rfl, ite_yes (by decide +kernel) ⟨_, rfl, q w' H hu (Same.refl _)⟩⟩
    | cons b p =>
      have hp : p.length + 1 < n + 1 := hp
      have lp : (ptx (b :: p)).length ≤ sizeLine := by
        rw [ptx_len]
        show p.length + 1 ≤ _
        exact fits (by omega)
      have at0 : atI (ptx (b :: p)).cps.toList 0 = some (if b then 49 else 48) := by
        rw [ptx_cps]
        exact atI_nat (j := 0) rfl
      cases t with
      | L => cases hrp
      | N l r =>
        obtain ⟨q1, x1, x2, rfl, hS, hL, hR⟩ := ta_invN ha
        refine ⟨_, rfl, rfl, _, rfl, ite_no (not_empty b p) ?_⟩
        cases b with
        | false =>
          have hrp : (l.rp p u).map (fun l' => Tree.N l' r) = some t' := hrp
          cases e : l.rp p u with
          | none =>
            rw [e] at hrp
            cases hrp
          | some l' =>
            rw [e] at hrp
            cases hrp
            refine ⟨_, rfl, _, 0, _, rfl, rfl, lp, at0, rfl, _, rfl, ite_yes (by decide +kernel) ?_⟩
            refine ⟨_, rfl, q1, _, 0, _, rfl, rfl, hS, rfl, _, rfl, 1, rfl, _, rfl, lp, ?_⟩
            rw [ptx_tail]
            refine ⟨_, rfl, x1, w', l, u, l', p, rfl, hL, hu, by omega, by omega, e, fun y H2 t2 s2 => ?_⟩
            refine ⟨_, rfl, q1, _, 1, _, rfl, rfl, (Tp.same s2).sqT hS, rfl, two_le, fun p3 hp3 => ?_⟩
            have s3 := Same.new hp3 (.tup [y, x2])
            exact q _ _ (ta_node (SqT.here upd_same) (ta_mono (Tp.same s3) t2) (ta_mono (Tp.same (s2.trans s3)) hR)) (s2.trans s3)
        | true =>
          have hrp : (r.rp p u).map (fun r' => Tree.N l r') = some t' := hrp
          cases e : r.rp p u with
          | none =>
            rw [e] at hrp
            cases hrp
          | some r' =>
            rw [e] at hrp
            cases hrp
            refine ⟨_, rfl, _, 0, _, rfl, rfl, lp, at0, rfl, _, rfl, ite_no (by decide +kernel) ?_⟩
            refine ⟨_, rfl, q1, _, 0, _, rfl, rfl, hS, rfl, _, rfl, q1, _, 1, _, rfl, rfl, hS, rfl, _, rfl, 1, rfl, _, rfl, lp, ?_⟩
            rw [ptx_tail]
            refine ⟨_, rfl, x2, w', r, u, r', p, rfl, hR, hu, by omega, by omega, e, fun y H2 t2 s2 => ⟨two_le, fun p3 hp3 => ?_⟩⟩
            have s3 := Same.new hp3 (.tup [x1, y])
            exact q _ _ (ta_node (SqT.here upd_same) (ta_mono (Tp.same (s2.trans s3)) hL) (ta_mono (Tp.same s3) t2)) (s2.trans s3)

abbrev s__law_expanded : Stmt := top 74
theorem sc__law_expanded : FnScope ["_law_some"] ["_law_some"] (defScope s__law_expanded) := ⟨rfl, rfl, rfl, by decide +kernel, rfl, by decide +kernel, by decide +kernel⟩
theorem ok__law_expanded (d : D K mg "_law_expanded" s__law_expanded ["_law_some"] f fd) : FnOk P w K mg base CX0 1 f fd ["_law_some"] (spR0 K true) := by
  refine d.F.ok sc__law_expanded (fun vs H Q E h => ?_) (fun cdv A outer s H vs Q E hr h => ?_)
  · obtain ⟨_, _, rfl, _⟩ := h
    rfl
  obtain ⟨v, t, rfl, ha, hd, qn, q⟩ := h
  refine ⟨_, (pss_cons (ps_if (PW.pt (pw_or (pt_cmpR (op_eqD hr.units) (pv 0) (pe_tup pa_nil) (nomark _)) (pw_or1 (pt_cmpR (op_eqD hr.units) (pe_ix ix_tup (pv 0) pe_int (fun _ _ => rfl)) (pe_tup pa_nil) (nomark _))))) (pss_one (ps_ret pe_non)) pss_nil)
 (pss_one (ps_ret (pe_tup (pa_cons (pe_tup (pa_cons (pe_ix ix_tup (pv 0) pe_int (fun _ _ => rfl)) (pa_cons (pe_ix ix_tup (pe_ix ix_tup (pv 0) pe_int (fun _ _ => rfl)) pe_int (fun _ _ => rfl)) pa_nil))) (pa_cons (pe_tup (pa_cons (pe_ix ix_tup (pv 0) pe_int (fun _ _ => rfl)) (pa_cons (pe_ix ix_tup (pe_ix ix_tup (pv 0) pe_int (fun _ _ => rfl)) pe_int (fun _ _ => rfl)) pa_nil))) pa_nil)))))), ?_⟩
  refine ⟨_, rfl, zero_le', fun p hp => ⟨t.d, .tuple [], ta_mono (Tp.same (Same.new hp _)) ha, Dp.tup (SqT.here upd_same) .nil, Tree.shaped (by omega), shapedE, _, rfl, ite_eq (Tree.eqvL _) ?_⟩⟩
  have s1 := Same.new hp (.tup [])
  cases t with
  | L => exact iteT (iteT (qn rfl _ s1))
  | N a r =>
    have hd : max a.dp r.dp + 1 ≤ 60 := hd
    obtain ⟨q1, x1, x2, rfl, hS, hL, hR⟩ := ta_invN (ta_mono (Tp.same s1) ha)
    refine iteF ⟨_, rfl, q1, _, 1, _, rfl, rfl, hS, rfl, zero_le', fun p2 hp2 => ⟨r.d, .tuple [], ta_mono (Tp.same (Same.new hp2 _)) hR, Dp.tup (SqT.here upd_same) .nil, Tree.shaped (by omega), shapedE, _, rfl, ite_eq (Tree.eqvL _) ?_⟩⟩
    have s2 := Same.new hp2 (.tup [])
    cases r with
    | L => exact iteT (qn rfl _ (s1.trans s2))
    | N b c =>
      obtain ⟨q2, y1, y2, rfl, hS2, hL2, hR2⟩ := ta_invN hR
      refine iteF ?_
      refine ⟨_, rfl, q1, _, 0, _, rfl, rfl, (Tp.same s2).sqT hS, rfl, _, rfl, q1, _, 1, _, rfl, rfl, (Tp.same s2).sqT hS, rfl, q2, _, 0, _, rfl, rfl, (Tp.same s2).sqT hS2, rfl, two_le, fun p3 hp3 => ?_⟩
      have s3 := s2.trans (Same.new hp3 (.tup [x1, y1]))
      refine ⟨_, rfl, q1, _, 0, _, rfl, rfl, (Tp.same s3).sqT hS, rfl, _, rfl, q1, _, 1, _, rfl, rfl, (Tp.same s3).sqT hS, rfl, q2, _, 1, _, rfl, rfl, (Tp.same s3).sqT hS2, rfl, two_le, fun p4 hp4 => ⟨two_le, fun p5 hp5 => ?_⟩⟩
      have s4 := Same.new hp4 (.tup [x1, y2])
      have s5 := Same.new hp5 (.tup [.ref p3, .ref p4])
      have s35 := (s3.trans s4).trans s5
      refine q (.N (.N a b) (.N a c)) rfl _ _ (ta_node (SqT.here upd_same) (ta_node (SqT.here (s5 _ _ (s4 _ _ upd_same))) (ta_mono (Tp.same s35) hL) (ta_mono (Tp.same s35) hL2)) (ta_node (SqT.here (s5 _ _ upd_same)) (ta_mono (Tp.same s35) hL) (ta_mono (Tp.same s35) hR2))) (s1.trans s35)

abbrev s__law_contracted : Stmt := top 75
theorem sc__law_contracted : FnScope ["_law_some"] ["_law_some"] (defScope s__law_contracted) := ⟨rfl, rfl, rfl, by decide +kernel, rfl, by decide +kernel, by decide +kernel⟩
theorem ok__law_contracted (d : D K mg "_law_contracted" s__law_contracted ["_law_some"] f fd) : FnOk P w K mg base CX0 1 f fd ["_law_some"] (spR0 K false) := by
  refine d.F.ok sc__law_contracted (fun vs H Q E h => ?_) (fun cdv A outer s H vs Q E hr h => ?_)
  · obtain ⟨_, _, rfl, _⟩ := h
    rfl
  obtain ⟨v, t, rfl, ha, hd, qn, q⟩ := h
  refine ⟨_, (pss_cons (ps_if (PW.pt (pw_or (pt_cmpR (op_eqD hr.units) (pv 0) (pe_tup pa_nil) (nomark _)) (pw_or (pt_cmpR (op_eqD hr.units) (pe_ix ix_tup (pv 0) pe_int (fun _ _ => rfl)) (pe_tup pa_nil) (nomark _)) (pw_or (pt_cmpR (op_eqD hr.units) (pe_ix ix_tup (pv 0) pe_int (fun _ _ => rfl)) (pe_tup pa_nil) (nomark _)) (pw_or1 (pt_cmpR (op_neD hr.units) (pe_ix ix_tup (pe_ix ix_tup (pv 0) pe_int (fun _ _ => rfl)) pe_int (fun _ _ => rfl)) (pe_ix ix_tup (pe_ix ix_tup (pv 0) pe_int (fun _ _ => rfl)) pe_int (fun _ _ => rfl)) (nomark _))))))) (pss_one (ps_ret pe_non)) pss_nil)
 (pss_one (ps_ret (pe_tup (pa_cons (pe_ix ix_tup (pe_ix ix_tup (pv 0) pe_int (fun _ _ => rfl)) pe_int (fun _ _ => rfl)) (pa_cons (pe_tup (pa_cons (pe_ix ix_tup (pe_ix ix_tup (pv 0) pe_int (fun _ _ => rfl)) pe_int (fun _ _ => rfl)) (pa_cons (pe_ix ix_tup (pe_ix ix_tup (pv 0) pe_int (fun _ _ => rfl)) pe_int (fun _ _ => rfl)) pa_nil))) pa_nil)))))), ?_⟩
  refine ⟨_, rfl, zero_le', fun p hp => ⟨t.d, .tuple [], ta_mono (Tp.same (Same.new hp _)) ha, Dp.tup (SqT.here upd_same) .nil, Tree.shaped (by omega), shapedE, _, rfl, ite_eq (Tree.eqvL _) ?_⟩⟩
  have s1 := Same.new hp (.tup [])
  cases t with
  | L => exact iteT (iteT (qn rfl _ s1))
  | N l r =>
    have hd : max l.dp r.dp + 1 ≤ 60 := hd
    obtain ⟨q1, x1, x2, rfl, hS, hL, hR⟩ := ta_invN (ta_mono (Tp.same s1) ha)
    refine iteF ⟨_, rfl, q1, _, 0, _, rfl, rfl, hS, rfl, zero_le', fun p2 hp2 => ⟨l.d, .tuple [], ta_mono (Tp.same (Same.new hp2 _)) hL, Dp.tup (SqT.here upd_same) .nil, Tree.shaped (by omega), shapedE, _, rfl, ite_eq (Tree.eqvL _) ?_⟩⟩
    have s2 := Same.new hp2 (.tup [])
    cases l with
    | L => exact iteT (iteT (qn rfl _ (s1.trans s2)))
    | N a b =>
      refine iteF ⟨_, rfl, q1, _, 1, _, rfl, rfl, (Tp.same s2).sqT hS, rfl, zero_le', fun p3 hp3 => ⟨r.d, .tuple [], ta_mono (Tp.same (s2.trans (Same.new hp3 _))) hR, Dp.tup (SqT.here upd_same) .nil, Tree.shaped (by omega), shapedE, _, rfl, ite_eq (Tree.eqvL _) ?_⟩⟩
      have s3 := s2.trans (Same.new hp3 (.tup []))
      cases r with
      | L => exact iteT (iteT (qn rfl _ (s1.trans s3)))
      | N a' c =>
        have hd : max (max a.dp b.dp + 1) (max a'.dp c.dp + 1) + 1 ≤ 60 := hd
        have hS := (Tp.same s3).sqT hS
        obtain ⟨q2, y1, y2, rfl, hS2, hL2, hR2⟩ := ta_invN (ta_mono (Tp.same s3) hL)
        obtain ⟨q3, z1, z2, rfl, hS3, hL3, hR3⟩ := ta_invN (ta_mono (Tp.same s3) hR)
        refine iteF ⟨_, rfl, q1, _, 0, _, rfl, rfl, hS, rfl, q2, _, 0, _, rfl, rfl, hS2, rfl, _, rfl, q1, _, 1, _, rfl, rfl, hS, rfl, q3, _, 0, _, rfl, rfl, hS3, rfl, a.d, a'.d, hL2, hL3, Tree.shaped (by omega), Tree.shaped (by omega), _, rfl, ite_eq (congrArg not (Tree.eqvT a a')) ?_⟩
        cases e : a.eqb a' with
        | false =>
          refine iteT (qn ?_ _ (s1.trans s3))
          show (if a.eqb a' = true then some (Tree.N a (.N b c)) else none) = none
          rw [e]
          rfl
        | true =>
          refine iteF ?_
          refine ⟨_, rfl, q1, _, 0, _, rfl, rfl, hS, rfl, q2, _, 0, _, rfl, rfl, hS2, rfl, _, rfl, q1, _, 0, _, rfl, rfl, hS, rfl, q2, _, 1, _, rfl, rfl, hS2, rfl, _, rfl, q1, _, 1, _, rfl, rfl, hS, rfl, q3, _, 1, _, rfl, rfl, hS3, rfl, two_le, fun p4 hp4 => ⟨two_le, fun p5 hp5 => ?_⟩⟩
          have s4 := Same.new hp4 (.tup [y2, z2])
          have s5 := Same.new hp5 (.tup [y1, .ref p4])
          refine q (.N a (.N b c)) ?_ _ _ (ta_node (SqT.here upd_same) (ta_mono (Tp.same (s4.trans s5)) hL2) (ta_node (SqT.here (s5 _ _ upd_same)) (ta_mono (Tp.same (s4.trans s5)) hR2) (ta_mono (Tp.same (s4.trans s5)) hR3))) ((s1.trans s3).trans (s4.trans s5))
          show (if a.eqb a' = true then some (Tree.N a (.N b c)) else none) = _
          rw [e]
          rfl

abbrev s__law_rewrite : Stmt := top 76
theorem sc__law_rewrite : FnScope ["_law_term_here", "_law_spot", "_law_onward", "_law_current", "_law_new"] ["_law_term_here", "_law_spot", "_law_onward"] (defScope s__law_rewrite) := ⟨rfl, rfl, rfl, by decide +kernel, rfl, by decide +kernel, by decide +kernel⟩
theorem ta_ne {H : Hp} {v : V} {t : Tree} (h : TA K H v t) : decide (v = V.non) = false := by
  obtain ⟨a, xs, rfl, _⟩ := ta_inv h
  exact decide_eq_false fun z => by cases z
theorem ok__law_rewrite {f1 f2 f3 f4 : Addr} {e1 e2 e3 e4 : FuncData} (d : D K mg "_law_rewrite" s__law_rewrite ["_law_term_here", "_law_spot", "_law_onward"] f fd) (d__law_subterm : D K mg "_law_subterm" s__law_subterm ["_law_term_here", "_law_spot"] f1 e1) (d__law_expanded : D K mg "_law_expanded" s__law_expanded ["_law_some"] f2 e2)
    (d__law_replace : D K mg "_law_replace" s__law_replace ["_law_term_here", "_law_spot", "_law_new"] f3 e3) (d__law_contracted : D K mg "_law_contracted" s__law_contracted ["_law_some"] f4 e4) (n : Nat) : FnOk P w K mg base CX0 (n + 1 + 1) f fd ["_law_term_here", "_law_spot", "_law_onward"] (spRwN K n) := by
  have G__law_subterm : FnOk P w K mg base CX0 1 f1 e1 ["_law_term_here", "_law_spot"] (spStN K) := ok__law_subterm d__law_subterm
  have G__law_expanded : FnOk P w K mg base CX0 1 f2 e2 ["_law_some"] (spR0 K true) := ok__law_expanded d__law_expanded
  have G__law_contracted : FnOk P w K mg base CX0 1 f4 e4 ["_law_some"] (spR0 K false) := ok__law_contracted d__law_contracted
  have G__law_replace : FnOk P w K mg base CX0 n f3 e3 ["_law_term_here", "_law_spot", "_law_new"] (spRp K n) := ok__law_replace d__law_replace n
  refine d.F.ok sc__law_rewrite (fun vs H Q E h => ?_) (fun cdv A outer s H vs Q E hr h => ?_)
  · obtain ⟨_, _, _, _, rfl, _⟩ := h
    rfl
  obtain ⟨v, t, p, on, rfl, ha, hd, hp, hn, qn, q⟩ := h
  refine ⟨_, (pss_cons (ps_set (i := 3) sc__law_rewrite.nd rfl (Or.inl rfl) (pe_call G__law_subterm (hr.mono (by omega)) rfl d__law_subterm.m d__law_subterm.F.kp d__law_subterm.b .nil pass0 (pa_cons (pv 0) (pa_cons (pv 1) pa_nil))))
 (pss_cons (ps_set (i := 4) sc__law_rewrite.nd rfl (Or.inl rfl) pe_non)
 (pss_cons (ps_if (pt_cmpR op_notN (pv 3) pe_non (nomark _)) (pss_one (ps_set (i := 4) sc__law_rewrite.nd rfl (Or.inl rfl) (pe_ifExp (pt_truth (pv 2) (by intro _; rfl)) (pe_call G__law_expanded (hr.mono (by omega)) rfl d__law_expanded.m d__law_expanded.F.kp d__law_expanded.b .nil pass0 (pa_cons (pv 3) pa_nil)) (pe_call G__law_contracted (hr.mono (by omega)) rfl d__law_contracted.m d__law_contracted.F.kp d__law_contracted.b .nil pass0 (pa_cons (pv 3) pa_nil))))) pss_nil)
 (pss_one (ps_ret (pe_ifExp (pt_cmpR op_isN (pv 4) pe_non (nomark _)) pe_non (pe_call G__law_replace (hr.mono (by omega)) rfl d__law_replace.m d__law_replace.F.kp d__law_replace.b .nil pass0 (pa_cons (pv 0) (pa_cons (pv 1) (pa_cons (pv 4) pa_nil)))))))))), ?_⟩
  refine ⟨_, rfl, _, rfl, v, t, p, rfl, ha, hd, fun hz H1 s1 => ?_, fun u hz x H1 a1 s1 => ?_⟩
  · refine ⟨_, rfl, rfl, _, rfl, ite_no rfl ?_⟩
    refine ⟨_, rfl, rfl, _, rfl, ite_yes rfl (qn ?_ H1 s1)⟩
    unfold Tree.rwt
    rw [hz]
    rfl
  have hl := Tree.st_len t p u hz
  have hW : t.rwt on p = (u.r0 on).bind fun u' => t.rp p u' := by
    unfold Tree.rwt
    rw [hz]
    rfl
  refine ⟨_, rfl, rfl, _, rfl, ite_yes (by rw [ta_ne a1]; rfl) ?_⟩
  have fin : ∀ (u' : Tree), u.r0 on = some u' → ∀ (y : V) (H2 : Hp), TA K H2 y u' → Same H1 H2 → ∃ t', t.rp p u' = some t' ∧ t.rwt on p = some t' := fun u' e y H2 _ _ => by
    obtain ⟨t', e'⟩ := Tree.rp_some u' t p u hz
    refine ⟨t', e', ?_⟩
    rw [hW, e]
    exact e'
  have non : u.r0 on = none → t.rwt on p = none := fun e => by
    rw [hW, e]
    rfl
  refine ⟨_, rfl, on, rfl, ?_⟩
  cases on with
  | true =>
    refine iteT ⟨_, rfl, x, u, rfl, a1, by omega, fun hz2 H2 s2 => ?_, fun u' hz2 y H2 a2 s2 => ?_⟩
    · exact ⟨_, rfl, rfl, _, rfl, ite_yes rfl (qn (non hz2) H2 (s1.trans s2))⟩
    obtain ⟨t', e1, e2⟩ := fin u' hz2 y H2 a2 s2
    refine ⟨_, rfl, rfl, _, rfl, ite_no (ta_ne a2) ?_⟩
    exact ⟨_, rfl, _, rfl, _, rfl, v, y, t, u', t', p, rfl, ta_mono (Tp.same (s1.trans s2)) ha, a2, hp, by omega, e1, fun z H3 a3 s3 => q t' e2 z H3 a3 ((s1.trans s2).trans s3)⟩
  | false =>
    refine iteF ⟨_, rfl, x, u, rfl, a1, by omega, fun hz2 H2 s2 => ?_, fun u' hz2 y H2 a2 s2 => ?_⟩
    · exact ⟨_, rfl, rfl, _, rfl, ite_yes rfl (qn (non hz2) H2 (s1.trans s2))⟩
    obtain ⟨t', e1, e2⟩ := fin u' hz2 y H2 a2 s2
    refine ⟨_, rfl, rfl, _, rfl, ite_no (ta_ne a2) ?_⟩
    exact ⟨_, rfl, _, rfl, _, rfl, v, y, t, u', t', p, rfl, ta_mono (Tp.same (s1.trans s2)) ha, a2, hp, by omega, e1, fun z H3 a3 s3 => q t' e2 z H3 a3 ((s1.trans s2).trans s3)⟩

abbrev s__law_steps : Stmt := top 77
theorem sc__law_steps : FnScope ["_law_term_here", "_law_result_here", "_law_spot", "_law_onward"] ["_law_term_here"] (defScope s__law_steps) := ⟨rfl, rfl, rfl, by decide +kernel, rfl, by decide +kernel, by decide +kernel⟩
theorem ok__law_steps {f1 f2 f3 f4 f5 f6 : Addr} {e1 e2 e3 e4 e5 e6 : FuncData} (d : D K mg "_law_steps" s__law_steps ["_law_term_here"] f fd) (d__law_paths : D K mg "_law_paths" s__law_paths ["_law_term_here", "_law_spot"] f6 e6) (d__law_rewrite : D K mg "_law_rewrite" s__law_rewrite ["_law_term_here", "_law_spot", "_law_onward"] f5 e5) (d__law_subterm : D K mg "_law_subterm" s__law_subterm ["_law_term_here", "_law_spot"] f1 e1) (d__law_expanded : D K mg "_law_expanded" s__law_expanded ["_law_some"] f2 e2)
    (d__law_replace : D K mg "_law_replace" s__law_replace ["_law_term_here", "_law_spot", "_law_new"] f3 e3) (d__law_contracted : D K mg "_law_contracted" s__law_contracted ["_law_some"] f4 e4) : FnOk P w K mg base CX0 12 f fd ["_law_term_here"] (spStps K) := by
  have G__law_paths : FnOk P w K mg base CX0 10 f6 e6 ["_law_term_here", "_law_spot"] (spPts K 9) := ok__law_paths d__law_paths 9
  have G__law_rewrite : FnOk P w K mg base CX0 11 f5 e5 ["_law_term_here", "_law_spot", "_law_onward"] (spRwN K 9) := ok__law_rewrite d__law_rewrite d__law_subterm d__law_expanded d__law_replace d__law_contracted 9
  refine d.F.ok sc__law_steps (fun vs H Q E h => ?_) (fun cdv A outer s H vs Q E hr h => ?_)
  · obtain ⟨_, _, rfl, _⟩ := h
    rfl
  obtain ⟨v, t, rfl, ha, hd, hnd, q⟩ := h
  refine ⟨_, (pss_cons (ps_set (i := 1) sc__law_steps.nd rfl (Or.inl rfl) (pe_lst pa_nil))
 (pss_cons (ps_for PassesOwn.never rfl (pi_list (pe_call G__law_paths (hr.mono (by decide)) rfl d__law_paths.m d__law_paths.F.kp d__law_paths.b .nil pass0 (pa_cons (pv 0) (pa_cons pe_str pa_nil)))) (pg_name (i := 2) sc__law_steps.nd rfl (Or.inl rfl))
  (pss_one (ps_for PassesOwn.never rfl (pi_list (pe_lst (pa_cons pe_bl (pa_cons pe_bl pa_nil)))) (pg_name (i := 3) sc__law_steps.nd rfl (Or.inl rfl))
  (pss_one (ps_if (pt_cmpR op_notN (pe_call G__law_rewrite (hr.mono (by decide)) rfl d__law_rewrite.m d__law_rewrite.F.kp d__law_rewrite.b .nil pass0 (pa_cons (pv 0) (pa_cons (pv 2) (pa_cons (pv 3) pa_nil)))) pe_non (nomark _)) (pss_one (ps_expr (pe_bm PySem.F.plainAttrs_list PySem.F.slot_list_append PySem.F.type_list_append mt_append (pv 1) (pa_cons (pe_tup (pa_cons (pv 2) (pa_cons (pv 3) pa_nil))) pa_nil)))) pss_nil)))))
 (pss_one (ps_ret (pv 1))))), ?_⟩
  refine ⟨zero_le', fun l nl => ?_⟩
  have s1 := Same.new nl (.lst [])
  refine ⟨_, rfl, v, t, [], rfl, ta_mono (Tp.same s1) ha, by omega, by omega, by omega, by show 0 + t.dp ≤ 60; omega, fun b H2 s2 nb hb => ?_⟩
  have nbl : b ≠ l := fun z => by rw [z, upd_same] at nb; cases nb
  have hpl : ∀ p ∈ t.pts [], p.length ≤ 8 := fun p hp => by
    have := Tree.pts_le t [] p hp
    have e : ([] : List Bool).length = 0 := rfl
    omega
  have hl2 : H2 l = some (.lst []) := s2 _ _ upd_same
  refine ⟨b, rfl, ⟨_, SqL.here hb⟩, for_list (xs := ptxs (t.pts [])) (fun i σ G => ∃ (x y : Option V) (xs : List V), σ = [some v, some (.ref l), x, y] ∧ Same H G ∧ G b = some (.lst (ptxs (t.pts []))) ∧ G l = some (.lst xs) ∧ xs.length ≤ 2 * i ∧ ∀ x ∈ xs, StepAt K G t x)
    ⟨none, none, [], rfl, s1.trans s2, hb, hl2, Nat.zero_le _, fun x hx => nomatch hx⟩ ?_ ?_ ?_⟩
  · rintro i σ G _ ⟨x, y, xs, rfl, _, hb, _⟩
    exact SqL.here hb
  · rintro i x0 σ G hx ⟨x, y, xs, rfl, sm, hb, hl, hlen, hX⟩
    unfold ptxs at hx
    rw [List.getElem?_map] at hx
    cases ep : (t.pts [])[i]? with
    | none => rw [ep] at hx; cases hx
    | some p =>
      rw [ep] at hx
      cases hx
      have hi : i < (t.pts []).length := (List.getElem?_eq_some_iff.mp ep).1
      have hi : i < t.nodes := by rw [← Tree.pts_len t []]; exact hi
      have hp8 := hpl p (List.mem_of_getElem? ep)
      refine ⟨two_le, fun z nz => ?_⟩
      have nzl : z ≠ l := fun e => by rw [e, hl] at nz; cases nz
      have nzb : z ≠ b := fun e => by rw [e, hb] at nz; cases nz
      have sz := Same.new nz (.lst [.bl true, .bl false])
      refine ⟨z, rfl, ⟨_, SqL.here upd_same⟩, for_list (xs := [.bl true, .bl false]) (fun j σ G => ∃ (y : Option V) (xs : List V), σ = [some v, some (.ref l), some (.str (ptx p)), y] ∧ Same H G ∧ G b = some (.lst (ptxs (t.pts []))) ∧ G z = some (.lst [.bl true, .bl false]) ∧ G l = some (.lst xs) ∧ xs.length ≤ 2 * i + j ∧ ∀ x ∈ xs, StepAt K G t x)
        ⟨y, xs, rfl, sm.trans sz, sz _ _ hb, upd_same, sz _ _ hl, hlen, fun x hx => (hX x hx).tp (Tp.same sz)⟩ ?_ ?_ ?_⟩
      · rintro j σ G _ ⟨y, xs, rfl, _, _, hz, _⟩
        exact SqL.here hz
      · rintro j x1 σ G hx ⟨y, xs, rfl, sm, hb, hz, hl, hlen, hX⟩
        obtain ⟨on, rfl⟩ : ∃ on, x1 = V.bl on := by
          match j, hx with
          | 0, hx => cases hx; exact ⟨_, rfl⟩
          | 1, hx => cases hx; exact ⟨_, rfl⟩
        have hj : j < 2 := (List.getElem?_eq_some_iff.mp hx).1
        refine ⟨_, rfl, _, rfl, _, rfl, v, t, p, on, rfl, ta_mono (Tp.same sm) ha, by omega, by omega, by omega, fun _ G2 s3 => ?_, fun t' ht' x2 G2 a2 s3 => ?_⟩
        · refine ⟨rfl, _, rfl, ite_no rfl ?_⟩
          exact ⟨_, xs, rfl, sm.trans s3, s3 _ _ hb, s3 _ _ hz, s3 _ _ hl, by omega, fun x hx => (hX x hx).tp (Tp.same s3)⟩
        · refine ⟨rfl, _, rfl, ite_yes (by rw [ta_ne a2]; rfl) ?_⟩
          have hl3 := s3 _ _ hl
          refine ⟨_, rfl, .inl ⟨rfl, _, SqL.here hl3⟩, _, rfl, _, rfl, two_le, fun p3 np3 => ?_⟩
          have s4 := Same.new np3 (.tup [.str (ptx p), .bl on])
          have hl4 := s4 _ _ hl3
          have tp5 := Tp.but hl4 (But.set (o := .lst (xs ++ [.ref p3])))
          refine ⟨l, _, _, rfl, rfl, hl4, small1000 (by omega), ⟨_, xs ++ [.ref p3], rfl, fun c o e => ?_, ?_, ?_, upd_same, by rw [List.length_append]; show xs.length + 1 ≤ _; omega, fun x hx => ?_⟩⟩
          · rw [upd_ne (ne_of_none e nl)]
            exact s4 _ _ (s3 _ _ (sm _ _ e))
          · rw [upd_ne nbl]
            exact s4 _ _ (s3 _ _ hb)
          · rw [upd_ne nzl]
            exact s4 _ _ (s3 _ _ hz)
          · rcases List.mem_append.mp hx with hx | hx
            · exact (hX x hx).tp ((Tp.same (s3.trans s4)).trans tp5)
            · rw [List.mem_singleton.mp hx]
              exact ⟨p3, p, on, t', rfl, tp5.sqT (SqT.here upd_same), ht'⟩
      · rintro σ G ⟨y, xs, rfl, sm, hb, hz, hl, hlen, hX⟩
        exact ⟨_, _, xs, rfl, sm, hb, hl, by show xs.length ≤ 2 * (i + 1); have : xs.length ≤ 2 * i + 2 := hlen; omega, hX⟩
  · rintro σ G ⟨x, y, xs, rfl, sm, hb, hl, hlen, hX⟩
    rw [ptxs_len, Tree.pts_len] at hlen
    exact ⟨_, rfl, q l xs G sm nl hl (by omega) hX⟩

abbrev s__law_labels : Stmt := top 78
theorem sc__law_labels : FnScope ["_law_rng", "_law_letters", "_law_head", "_law_ahead", "_law_k"] ["_law_rng"] (defScope s__law_labels) := ⟨rfl, rfl, rfl, by decide +kernel, rfl, by decide +kernel, by decide +kernel⟩
theorem ok__law_labels {f1 f2 : Addr} {e1 e2 : FuncData} (d__law_labels : D K mg "_law_labels" s__law_labels ["_law_rng"] f fd) (B : Blt mg) (d__law_draw : D K mg "_law_draw" s__law_draw ["_law_rng", "_law_amount"] f1 e1) (d__law_pick : D K mg "_law_pick" s__law_pick ["_law_rng", "_law_terms"] f2 e2) : FnOk P w K mg base CX0 3 f fd ["_law_rng"] (spLabs K) := by
  have G__law_draw : FnOk P w K mg base CX0 1 f1 e1 ["_law_rng", "_law_amount"] spDrawC := ok__law_drawC d__law_draw B
  have G__law_pick : FnOk P w K mg base CX0 2 f2 e2 ["_law_rng", "_law_terms"] (spPickC K) := ok__law_pickC d__law_pick B d__law_draw
  refine d__law_labels.F.ok sc__law_labels (fun vs H Q E h => ?_) (fun cdv A outer s H vs Q E hr h => ?_)
  · obtain ⟨_, _, rfl, _⟩ := h
    rfl
  obtain ⟨r, c, rfl, hR, q⟩ := h
  have hll : (LOW.map sgV).length = 26 := by rw [List.length_map]; decide +kernel
  refine ⟨_, (pss_cons (ps_set (i := 1) sc__law_labels.nd rfl (Or.inr rfl) (pe_callTy (call_list_sg rfl) (by rfl) B.list (by decide +kernel) (pa_cons pe_str pa_nil)))
 (pss_cons (ps_set (i := 2) sc__law_labels.nd rfl (Or.inr rfl) (pe_join pe_str (pe_lc (own := [("_law_k", 4)]) (g := gName 4) (tt := tYes) (by rfl) sc__law_labels.nd (pi_range1 (by rfl) B.range (pa_cons (pe_call G__law_draw (hr.mono (by decide)) rfl d__law_draw.m d__law_draw.F.kp d__law_draw.b .nil pass0 (pa_cons (pv 0) (pa_cons pe_int pa_nil))) pa_nil)) (blkOk_by (own := [("_law_k", 4)]) (N := ["_law_rng", "_law_letters", "_law_head", "_law_ahead", "_law_k"]) (sc := defScope s__law_labels) (by decide +kernel)) (fun _ _ _ _ _ => (pg_name (i := 4) sc__law_labels.nd rfl (Or.inl rfl))) (fun _ _ _ _ _ => pts_nil) (fun _ _ _ _ _ => (pe_call G__law_pick (hr.mono (by decide)) rfl d__law_pick.m d__law_pick.F.kp d__law_pick.b .nil pass0 (pa_cons (pv 0) (pa_cons (pv 1) pa_nil)))))))
 (pss_cons (ps_set (i := 3) sc__law_labels.nd rfl (Or.inr rfl) (pe_cmpR op_eq (pe_call G__law_draw (hr.mono (by decide)) rfl d__law_draw.m d__law_draw.F.kp d__law_draw.b .nil pass0 (pa_cons (pv 0) (pa_cons pe_int pa_nil))) pe_int (nomark _)))
 (pss_one (ps_ret (pe_lc (own := [("_law_k", 4)]) (g := gName 4) (tt := tYes) (by rfl) sc__law_labels.nd (pi_range1 (by rfl) B.range (pa_cons pe_int pa_nil)) (blkOk_by (own := [("_law_k", 4)]) (N := ["_law_rng", "_law_letters", "_law_head", "_law_ahead", "_law_k"]) (sc := defScope s__law_labels) (by decide +kernel)) (fun _ _ _ _ _ => (pg_name (i := 4) sc__law_labels.nd rfl (Or.inl rfl))) (fun _ _ _ _ _ => pts_nil) (fun _ _ _ _ _ => (pe_ifExp (show PT _ _ (fun σ H Q => tVar 3 σ H fun x H' => ∃ k, TruV K x H' k ∧ Q k H') from pt_truth (pv 3) (by intro _; rfl)) (pe_op op_add_str (pv 2) (pe_ix (r := rIxL K) ix_list (pv 1) (pv 4) (fun _ _ => rfl))) (pe_op op_add_str (pe_ix (r := rIxL K) ix_list (pv 1) (pv 4) (fun _ _ => rfl)) (pv 2)))))))))), ?_⟩
  refine ⟨LOW, rfl, (by decide +kernel), fun l nl => ?_⟩
  have R1 := hR.same (Same.new nl (.lst (LOW.map sgV)))
  have b1 : But r H (upd H l (.lst (LOW.map sgV))) := But.same (Same.new nl _)
  have hl1 : (upd H l (.lst (LOW.map sgV))) l = some (.lst (LOW.map sgV)) := upd_same
  have nlr := (hR.ne nl).1
  have sf1 : Same H (upd H l (.lst (LOW.map sgV))) := Same.new nl _
  generalize (upd H l (.lst (LOW.map sgV))) = H1 at *
  refine ⟨⟨_, rfl⟩, _, rfl, r, 7, c, rfl, R1, by decide, by decide, fun n H2 n0 n1 R2 b2 => ⟨n, rfl, by omega, by omega, fun D nD => ?_⟩⟩
  have nDr := R2.ne nD
  have hl2 := b2 _ _ nlr hl1
  have nDl : D ≠ l := fun z => by rw [z, hl2] at nD; cases nD
  refine lc_range (lo := 0) (n := n.toNat) (fun i G => RngC G r c ∧ But r H2 G ∧ G l = some (.lst (LOW.map sgV)) ∧ ∃ hs : List Nat, G D = some (.lst (hs.map sgV)) ∧ hs.length = i ∧ ∀ x ∈ hs, x ∈ LOW) ⟨R2.same (Same.new nD _), But.same (Same.new nD _), (Same.new nD _) _ _ hl2, [], upd_same, rfl, fun _ h => nomatch h⟩ ?_ ?_
  · rintro i G hi ⟨RG, bG, hlG, hs, hD, hlen, hL⟩
    refine ⟨rfl, ?_⟩
    refine ⟨_, rfl, _, rfl, r, l, c, _, rfl, RG, .inl (SqL.here hlG), (by rw [hll]; decide), (by rw [hll]; decide), nlr, fun v G2 hv R3 b3 => ?_⟩
    obtain ⟨x, hx, rfl⟩ := List.mem_map.mp hv
    have hD3 := b3 _ _ nDr.1 hD
    refine ⟨_, hD3, by rw [List.length_map, hlen]; exact small1000 (by omega), R3.set nDr, fun b o nb z => ?_, ?_, hs ++ [x], by rw [upd_same, List.map_append]; rfl, by rw [List.length_append, hlen]; rfl, fun y hy => ?_⟩
    · rw [upd_ne (ne_of_none z nD)]
      exact b3 _ _ nb (bG _ _ nb z)
    · rw [upd_ne nDl.symm]
      exact b3 _ _ nlr hlG
    · rcases List.mem_append.mp hy with hy | hy
      · exact hL y hy
      · rw [List.mem_singleton.mp hy]
        exact hx
  · rintro G ⟨RG, bG, hlG, hs, hD, hlen, hL⟩
    have hb : ((hs.map fun x => sL [x]).map (·.length)).sum = hs.length := by
      clear hL hlen hD
      induction hs with
      | nil => rfl
      | cons x hs ih =>
        rw [List.map_cons, List.map_cons, List.sum_cons, ih, List.length_cons]
        show 1 + hs.length = _
        omega
    refine ⟨_, D, hs.map fun x => sL [x], rfl, rfl, .inl (SqL.here (by rw [List.map_map]; exact hD)), ?_, ?_⟩
    · rw [List.length_map, hb, show (Str.ofString "").length = 0 by decide +kernel]
      exact Nat.le_trans (show _ ≤ 1000 by omega) (by decide)
    rw [join_sg]
    refine ⟨_, rfl, r, 2, c, rfl, RG, by decide, by decide, fun k G3 k0 k1 R3 b3 => ⟨rfl, _, rfl, ?_⟩⟩
    have hl3 := b3 _ _ nlr hlG
    have bb : But r H G3 := (b1.trans b2).trans (bG.trans b3)
    refine ⟨by decide, by decide, fun D2 nD2 => ?_⟩
    have n2r := R3.ne nD2
    have key : ∀ i, i < 14 → ∃ x, LOW[i]? = some x ∧ x ∈ LOW ∧ (LOW.map sgV)[i]? = some (sgV x) := fun i hi => by
      have h26 : LOW.length = 26 := by decide +kernel
      have e : LOW[i]? = some LOW[i] := List.getElem?_eq_getElem (by omega)
      exact ⟨_, e, List.mem_of_getElem? e, by rw [List.getElem?_map, e]; rfl⟩
    have hlb : ∀ x ∈ LOW, ∀ a b : List Nat, a ++ b = hs → isLb (a ++ [x] ++ b) = true := fun x hx a b e => by
      have hal : (a ++ b).length ≤ 6 := by rw [e]; omega
      rw [List.length_append] at hal
      unfold isLb
      rw [decide_eq_true (by rw [List.length_append, List.length_append, List.length_singleton]; omega), decide_eq_true (by rw [List.length_append, List.length_append, List.length_singleton]; omega), Bool.true_and, Bool.true_and]
      refine List.all_eq_true.mpr fun y hy => decide_eq_true ?_
      have hy2 : y = x ∨ y ∈ a ++ b := by
        rcases List.mem_append.mp hy with hy | hy
        · rcases List.mem_append.mp hy with hy | hy
          · exact .inr (List.mem_append_left _ hy)
          · exact .inl (List.mem_singleton.mp hy)
        · exact .inr (List.mem_append_right _ hy)
      rcases hy2 with rfl | hy2
      · exact hx
      · rw [e] at hy2
        exact hL y hy2
    refine lc_range (lo := 0) (n := 14) (fun i G => RngC G r c ∧ But r G3 G ∧ G l = some (.lst (LOW.map sgV)) ∧ ∃ ls : List (List Nat), G D2 = some (.lst (ls.map nmV)) ∧ ls.length = i ∧ ∀ z ∈ ls, isLb z = true ∧ LbN z) ⟨R3.same (Same.new nD2 _), But.same (Same.new nD2 _), (Same.new nD2 _) _ _ hl3, [], upd_same, rfl, fun _ h => nomatch h⟩ ?_ ?_
    · rintro i G hi ⟨RG, bG, hlG, ls, hD2, hlen2, hL2⟩
      obtain ⟨x, e1, hx, e2⟩ := key i hi
      have fin : ∀ z : List Nat, isLb z = true → LbN z → RngC (upd G D2 (.lst (ls.map nmV ++ [nmV z]))) r c ∧ But r G3 (upd G D2 (.lst (ls.map nmV ++ [nmV z]))) ∧ (upd G D2 (.lst (ls.map nmV ++ [nmV z]))) l = some (.lst (LOW.map sgV)) ∧ ∃ ls' : List (List Nat), (upd G D2 (.lst (ls.map nmV ++ [nmV z]))) D2 = some (.lst (ls'.map nmV)) ∧ ls'.length = i + 1 ∧ ∀ z ∈ ls', isLb z = true ∧ LbN z := fun z hz hz2 => by
        refine ⟨RG.set n2r, fun b o nb y => ?_, ?_, ls ++ [z], by rw [upd_same, List.map_append]; rfl, by rw [List.length_append, hlen2]; rfl, fun y hy => ?_⟩
        · rw [upd_ne (ne_of_none y nD2)]
          exact bG _ _ nb y
        · rw [upd_ne (fun z => by rw [← z, hl3] at nD2; cases nD2)]
          exact hlG
        · rcases List.mem_append.mp hy with hy | hy
          · exact hL2 y hy
          · rw [List.mem_singleton.mp hy]
            exact ⟨hz, hz2⟩
      have hx110 : x ≤ 110 := by
        have h14 : (LOW.take 14).all (fun c => decide (c ≤ 110)) = true := by decide +kernel
        have hm : x ∈ LOW.take 14 := List.mem_of_getElem? (i := i) (by rw [List.getElem?_take, if_pos hi]; exact e1)
        exact of_decide_eq_true (List.all_eq_true.mp h14 x hm)
      have hsz : (sL hs).length ≤ 1000 := by show hs.length ≤ 1000; omega
      have hs1 : (sL hs).length + (sL [x]).length ≤ sizeLine := Nat.le_trans (show hs.length + 1 ≤ 1000 by omega) (by decide)
      have hs2 : (sL [x]).length + (sL hs).length ≤ sizeLine := Nat.le_trans (show 1 + hs.length ≤ 1000 by omega) (by decide)
      refine ⟨rfl, ?_⟩
      refine ⟨_, rfl, decide (V.int k = V.int 0), rfl, ?_⟩
      have hix : atI (LOW.map sgV) (0 + (i : Int)) = some (sgV x) := by rw [Int.zero_add]; exact atI_nat e2
      generalize decide (V.int k = V.int 0) = bb
      cases bb with
      | true =>
        refine iteT ⟨_, rfl, _, rfl, _, rfl, l, _, _, _, rfl, rfl, SqL.here hlG, hix, _, _, rfl, rfl, hs1, _, hD2, (by rw [List.length_map, hlen2]; exact small1000 (by omega)), ?_⟩
        rw [sL_app]
        exact fin (hs ++ [x]) (by have := hlb x hx hs [] (List.append_nil _); rwa [List.append_nil] at this) ⟨x, hs, hx110, .inl rfl⟩
      | false =>
        refine iteF ⟨_, rfl, _, rfl, l, _, _, _, rfl, rfl, SqL.here hlG, hix, _, rfl, _, _, rfl, rfl, hs2, _, hD2, (by rw [List.length_map, hlen2]; exact small1000 (by omega)), ?_⟩
        rw [sL_app]
        exact fin ([x] ++ hs) (by have := hlb x hx [] hs rfl; rwa [List.nil_append] at this) ⟨x, hs, hx110, .inr rfl⟩
    · rintro G ⟨RG, bG, hlG, ls, hD2, hlen2, hL2⟩
      exact q D2 ls G hlen2 (fun z hz => (hL2 z hz).1) (fun z hz => (hL2 z hz).2) (by
        cases e : H D2 with
        | none => rfl
        | some o =>
          by_cases z : D2 = r
          · exact absurd z n2r.1
          · rw [bb _ _ z e] at nD2; cases nD2) hD2 RG (bb.trans bG)

abbrev s__law_is_label : Stmt := top 79
theorem sc__law_is_label : FnScope ["_law_label", "_law_sign"] ["_law_label"] (defScope s__law_is_label) := ⟨rfl, rfl, rfl, by decide +kernel, rfl, by decide +kernel, by decide +kernel⟩
theorem ok__law_is_label (d : D K mg "_law_is_label" s__law_is_label ["_law_label"] f fd) (B : Blt mg) : FnOk P w K mg base CX0 1 f fd ["_law_label"] spLIsL := by
  refine d.F.ok sc__law_is_label (fun vs H Q E h => ?_) (fun cdv A outer s H vs Q E hr h => ?_)
  · obtain ⟨_, rfl, _⟩ := h
    rfl
  obtain ⟨z, rfl, hz, q⟩ := h
  have hzl : (sL z).length ≤ sizeLine := Nat.le_trans (show z.length ≤ 100 from hz) (by decide)
  refine ⟨_, (pss_one (ps_ret (pe_and (pe_chain op_lt op_lt pe_int (pe_callB call_len_str (by rfl) B.len PySem.boot_len (pa_cons (pv 0) pa_nil)) pe_int) (pe_one (pe_callB (cr_all rfl) (by rfl) B.all (by decide +kernel) (pa_cons (pe_lc (own := [("_law_sign", 1)]) (g := gName 1) (tt := tYes) (by rfl) sc__law_is_label.nd (pi_str (pv 0)) (blkOk_by (own := [("_law_sign", 1)]) (N := ["_law_label", "_law_sign"]) (sc := defScope s__law_is_label) (by decide +kernel)) (fun _ _ _ _ _ => (pg_name (i := 1) sc__law_is_label.nd rfl (Or.inl rfl))) (fun _ _ _ _ _ => pts_nil) (fun _ _ _ _ _ => (pe_cmpR op_in_sign (pv 1) pe_str (by with_unfolding_all rfl)))) pa_nil)))))), ?_⟩
  refine ⟨_, rfl, _, rfl, hzl, _, _, rfl, rfl, _, rfl, ?_⟩
  unfold isLb at q
  by_cases c1 : 1 ≤ z.length
  · rw [decide_eq_true c1, Bool.true_and] at q
    refine ite_yes (decide_eq_true (by show (0 : Int) < (z.length : Int); omega)) ⟨_, _, rfl, rfl, _, rfl, ?_⟩
    by_cases c2 : z.length ≤ 8
    · rw [decide_eq_true c2, Bool.true_and] at q
      refine ite_yes (decide_eq_true (by show (z.length : Int) < 9; omega)) ?_
      refine ⟨_, rfl, _, rfl, fun D nD => lc_it walk_str (fun i G => Same H G ∧ G D = some (.lst ((z.take i).map fun c => V.bl (decide (c ∈ LOW))))) ⟨Same.new nD _, upd_same⟩ (fun i G _ _ => trivial) ?_ ?_⟩
      · rintro i v G1 G2 hi ⟨sG, hD⟩ ⟨rfl, c, hc, rfl⟩
        have hc : z[i]? = some c := by
          have : (sL z).cps.toList[i]? = some c := by rw [Array.getElem?_toList]; exact hc
          exact this
        refine ⟨rfl, ?_⟩
        refine ⟨_, rfl, c, _, rfl, rfl, _, hD, (by rw [List.length_map, List.length_take]; exact small1000 (by omega)), fun b o e => ?_, ?_⟩
        · rw [upd_ne (ne_of_none e nD)]
          exact sG _ _ e
        · rw [upd_same, List.take_add_one, hc, List.map_append]
          rfl
      · rintro G ⟨sG, hD⟩
        have hf : z.take (sL z).cps.size = z := List.take_of_length_le (Nat.le_refl _)
        rw [hf] at hD
        refine ⟨D, z.map fun c => decide (c ∈ LOW), rfl, SqL.here (by rw [List.map_map]; exact hD), ?_⟩
        rw [List.all_map]
        exact q G sG
    · rw [decide_eq_false c2, Bool.false_and] at q
      exact ite_no (decide_eq_false (by show ¬ (z.length : Int) < 9; omega)) (q _ (Same.refl _))
  · rw [decide_eq_false c1, Bool.false_and] at q
    exact ite_no (decide_eq_false (by show ¬ (0 : Int) < (z.length : Int); omega)) ⟨_, rfl, iteF (q _ (Same.refl _))⟩

abbrev s__law_is_tree : Stmt := top 89
theorem sc__law_is_tree : FnScope ["_law_term_here"] ["_law_term_here"] (defScope s__law_is_tree) := ⟨rfl, rfl, rfl, by decide +kernel, rfl, by decide +kernel, by decide +kernel⟩
theorem ok__law_is_tree (d__law_is_tree : D K mg "_law_is_tree" s__law_is_tree ["_law_term_here"] f fd) (B : Blt mg) : ∀ n : Nat, FnOk P w K mg base CX0 (n + 1) f fd ["_law_term_here"] (spTree K (fun _ => .bl true) n)
  | 0 => fn_none fun vs H Q E h => by
    obtain ⟨_, _, _, _, h, _⟩ := h
    omega
  | n + 1 => by
    have G__law_is_tree := ok__law_is_tree d__law_is_tree B n
    refine d__law_is_tree.F.ok sc__law_is_tree (fun vs H Q E h => ?_) (fun cdv A outer s H vs Q E hr h => ?_)
    · obtain ⟨_, _, rfl, _⟩ := h
      rfl
    obtain ⟨v, t, rfl, ht, hd, hn, q⟩ := h
    refine ⟨_, (pss_one (ps_ret (pe_or (pe_cmpR (op_eqD hr.units) (pv 0) (pe_tup pa_nil) (nomark _)) (pe_one (pe_and (pe_cmpR op_eq (pe_callB call_len_seq (by rfl) B.len PySem.boot_len (pa_cons (pv 0) pa_nil)) pe_int (nomark _)) (pe_and (pe_call G__law_is_tree hr rfl d__law_is_tree.m d__law_is_tree.F.kp d__law_is_tree.b .nil pass0 (pa_cons (pe_ix ix_tup (pv 0) pe_int (fun _ _ => rfl)) pa_nil)) (pe_one (pe_call G__law_is_tree hr rfl d__law_is_tree.m d__law_is_tree.F.kp d__law_is_tree.b .nil pass0 (pa_cons (pe_ix ix_tup (pv 0) pe_int (fun _ _ => rfl)) pa_nil))))))))), ?_⟩
    refine ⟨_, rfl, zero_le', fun p np => ?_⟩
    have s1 := Same.new np (.tup [])
    have ht1 := ta_mono (Tp.same s1) ht
    have hp : SqT K (upd H p (.tup [])) p [] := SqT.here upd_same
    generalize upd H p (.tup []) = H1 at *
    refine ⟨t.d, .tuple [], ht1, Dp.tup hp .nil, Tree.shaped (by omega), shapedE, ?_⟩
    rw [Tree.eqvL]
    cases t with
    | L => exact ⟨_, rfl, iteT (q _ s1)⟩
    | N a b =>
      obtain ⟨q0, x, y, rfl, hq0, hx, hy⟩ := ta_invN ht1
      have hd : max a.dp b.dp + 1 < n + 1 := hd
      refine ⟨_, rfl, iteF ⟨_, rfl, q0, _, rfl, .inr hq0, rfl, _, rfl, iteT ?_⟩⟩
      refine ⟨_, rfl, q0, _, 0, _, rfl, rfl, hq0, rfl, x, a, rfl, hx, by omega, by omega, fun H2 s2 => ⟨_, rfl, iteT ?_⟩⟩
      exact ⟨_, rfl, q0, _, 1, _, rfl, rfl, (Tp.same s2).sqT hq0, rfl, y, b, rfl, ta_mono (Tp.same s2) hy, by omega, by omega, fun H3 s3 => q _ ((s1.trans s2).trans s3)⟩

abbrev s__law_command : Stmt := top 80
theorem sc__law_command : FnScope ["_law_rng", "_law_pool", "_law_current", "_law_way", "_law_label", "_law_one", "_law_target", "_law_some", "_law_spot", "_law_onward"] ["_law_rng", "_law_pool", "_law_current"] (defScope s__law_command) := ⟨rfl, rfl, rfl, by decide +kernel, rfl, by decide +kernel, by decide +kernel⟩
theorem ok__law_command {f1 f2 f3 f4 f5 f6 f7 f8 f9 f10 f11 f12 : Addr} {e1 e2 e3 e4 e5 e6 e7 e8 e9 e10 e11 e12 : FuncData} (d__law_command : D K mg "_law_command" s__law_command ["_law_rng", "_law_pool", "_law_current"] f fd) (B : Blt mg) (d__law_draw : D K mg "_law_draw" s__law_draw ["_law_rng", "_law_amount"] f1 e1) (d__law_pick : D K mg "_law_pick" s__law_pick ["_law_rng", "_law_terms"] f2 e2) (d__law_comb : D K mg "_law_comb" s__law_comb ["_law_many", "_law_onleft"] f3 e3) (d__law_term : D K mg "_law_term" s__law_term ["_law_rng", "_law_many", "_law_cap"] f4 e4) (d__law_any_term : D K mg "_law_any_term" s__law_any_term ["_law_rng", "_law_top"] f5 e5) (d__law_paths : D K mg "_law_paths" s__law_paths ["_law_term_here", "_law_spot"] f6 e6) (d__law_rewrite : D K mg "_law_rewrite" s__law_rewrite ["_law_term_here", "_law_spot", "_law_onward"] f7 e7) (d__law_subterm : D K mg "_law_subterm" s__law_subterm ["_law_term_here", "_law_spot"] f8 e8) (d__law_expanded : D K mg "_law_expanded" s__law_expanded ["_law_some"] f9 e9) (d__law_replace : D K mg "_law_replace" s__law_replace ["_law_term_here", "_law_spot", "_law_new"] f10 e10) (d__law_contracted : D K mg "_law_contracted" s__law_contracted ["_law_some"] f11 e11) (d__law_steps : D K mg "_law_steps" s__law_steps ["_law_term_here"] f12 e12) : FnOk P w K mg base CX0 14 f fd ["_law_rng", "_law_pool", "_law_current"] (spCmdL K) := by
  have G__law_draw : FnOk P w K mg base CX0 1 f1 e1 ["_law_rng", "_law_amount"] spDrawC := ok__law_drawC d__law_draw B
  have G__law_pick : FnOk P w K mg base CX0 2 f2 e2 ["_law_rng", "_law_terms"] (spPickC K) := ok__law_pickC d__law_pick B d__law_draw
  have G__law_any_term : FnOk P w K mg base CX0 9 f5 e5 ["_law_rng", "_law_top"] (spAnyC K) := ok__law_any_termC d__law_any_term B d__law_draw d__law_comb d__law_term
  have G__law_steps : FnOk P w K mg base CX0 12 f12 e12 ["_law_term_here"] (spStps K) := ok__law_steps d__law_steps d__law_paths d__law_rewrite d__law_subterm d__law_expanded d__law_replace d__law_contracted
  refine d__law_command.F.ok sc__law_command (fun vs H Q E h => ?_) (fun cdv A outer s H vs Q E hr h => ?_)
  · obtain ⟨_, _, _, _, _, _, rfl, _⟩ := h
    rfl
  obtain ⟨r, c, lp, d, ls, cs, rfl, hR, hlp, nlr, nlc, h0, h100, hls, hd, hok, q⟩ := h
  refine ⟨_, (pss_cons (ps_par3 (i := 3) (j := 4) (l := 5) (by rfl) sc__law_command.nd rfl rfl rfl (by decide) (by decide) (by decide) rfl rfl rfl (pa_cons (pe_call G__law_draw (hr.mono (by decide)) rfl d__law_draw.m d__law_draw.F.kp d__law_draw.b .nil pass0 (pa_cons (pv 0) (pa_cons pe_int pa_nil))) (pa_cons (pe_call G__law_pick (hr.mono (by decide)) rfl d__law_pick.m d__law_pick.F.kp d__law_pick.b .nil pass0 (pa_cons (pv 0) (pa_cons (pv 1) pa_nil))) (pa_cons (pe_call G__law_pick (hr.mono (by decide)) rfl d__law_pick.m d__law_pick.F.kp d__law_pick.b .nil pass0 (pa_cons (pv 0) (pa_cons (pv 1) pa_nil))) pa_nil))) (by rfl))
 (pss_cons (ps_set (i := 6) sc__law_command.nd rfl (Or.inl rfl) (pe_callB (call_sortedD (by rfl)) (by rfl) B.sorted (by decide +kernel) (pa_cons (pv 2) pa_nil)))
 (C8.pss_cut (ps_if (PW.pt (pw_and (pt_cmpR op_gt (pe_callB call_len_seq (by rfl) B.len PySem.boot_len (pa_cons (pv 6) pa_nil)) pe_int (nomark _)) (pw_and1 (pt_cmpR op_gt (pe_call G__law_draw (hr.mono (by decide)) rfl d__law_draw.m d__law_draw.F.kp d__law_draw.b .nil pass0 (pa_cons (pv 0) (pa_cons pe_int pa_nil))) pe_int (nomark _))))) (pss_one (ps_set (i := 5) sc__law_command.nd rfl (Or.inl rfl) (pe_call G__law_pick (hr.mono (by decide)) rfl d__law_pick.m d__law_pick.F.kp d__law_pick.b .nil pass0 (pa_cons (pv 0) (pa_cons (pv 6) pa_nil))))) pss_nil)
 (pss_cons (ps_if (pt_cmpR op_lt (pv 3) pe_int (nomark _)) (pss_one (ps_ret (pe_tup (pa_cons pe_str (pa_cons (pv 4) (pa_cons (pe_call G__law_any_term (hr.mono (by decide)) rfl d__law_any_term.m d__law_any_term.F.kp d__law_any_term.b .nil pass0 (pa_cons (pv 0) (pa_cons pe_int pa_nil))) pa_nil)))))) pss_nil)
 (pss_cons (ps_if (pt_cmpR op_lt (pv 3) pe_int (nomark _)) (pss_one (ps_ret (pe_tup (pa_cons pe_str (pa_cons (pv 4) (pa_cons (pv 5) (pa_cons (pe_call G__law_pick (hr.mono (by decide)) rfl d__law_pick.m d__law_pick.F.kp d__law_pick.b .nil pass0 (pa_cons (pv 0) (pa_cons (pe_op op_cat (pv 6) (pe_lst (pa_cons (pv 5) pa_nil))) pa_nil))) pa_nil))))))) pss_nil)
 (pss_cons (ps_if (pt_cmpR op_eq (pv 3) pe_int (nomark _)) (pss_one (ps_ret (pe_tup (pa_cons pe_str (pa_cons (pv 4) (pa_cons (pv 5) (pa_cons (pe_cmpR op_eq (pe_call G__law_draw (hr.mono (by decide)) rfl d__law_draw.m d__law_draw.F.kp d__law_draw.b .nil pass0 (pa_cons (pv 0) (pa_cons pe_int pa_nil))) pe_int (nomark _)) pa_nil))))))) pss_nil)
 (pss_cons (ps_if (pt_cmpR op_eq (pv 3) pe_int (nomark _)) (pss_one (ps_ret (pe_tup (pa_cons pe_str (pa_cons (pv 5) pa_nil))))) pss_nil)
 (C8.pss_cut (ps_set (i := 7) sc__law_command.nd rfl (Or.inl rfl) (pe_ifExp (pt_cmp (pc_din (hu_of hr) (pv 5) (pv 2)) (by with_unfolding_all rfl)) (pe_call G__law_steps (hr.mono (by decide)) rfl d__law_steps.m d__law_steps.F.kp d__law_steps.b .nil pass0 (pa_cons (pe_dget (hu_of hr) (pv 2) (pv 5) (fun _ _ => rfl)) pa_nil)) (pe_lst pa_nil)))
 (pss_cons (ps_if (PW.pt (pw_and (pt_cmpR op_gt (pe_callB call_len_seq (by rfl) B.len PySem.boot_len (pa_cons (pv 7) pa_nil)) pe_int (nomark _)) (pw_and1 (pt_cmpR op_gt (pe_call G__law_draw (hr.mono (by decide)) rfl d__law_draw.m d__law_draw.F.kp d__law_draw.b .nil pass0 (pa_cons (pv 0) (pa_cons pe_int pa_nil))) pe_int (nomark _))))) (pss_cons (ps_asg (pe_call G__law_pick (hr.mono (by decide)) rfl d__law_pick.m d__law_pick.F.kp d__law_pick.b .nil pass0 (pa_cons (pv 0) (pa_cons (pv 7) pa_nil))) (pg_tup (by rfl) (pgs_cons (pg_name (i := 8) sc__law_command.nd rfl (Or.inl rfl)) (pgs_cons (pg_name (i := 9) sc__law_command.nd rfl (Or.inl rfl)) pgs_nil))))
 (pss_one (ps_ret (pe_tup (pa_cons pe_str (pa_cons (pv 5) (pa_cons (pv 8) (pa_cons (pe_not (pv 9)) pa_nil)))))))) pss_nil)
 (pss_one (ps_ret (pe_tup (pa_cons pe_str (pa_cons (pv 5) (pa_cons (pe_call G__law_pick (hr.mono (by decide)) rfl d__law_pick.m d__law_pick.F.kp d__law_pick.b .nil pass0 (pa_cons (pv 0) (pa_cons (pe_lst (pa_cons pe_str (pa_cons pe_str (pa_cons pe_str (pa_cons pe_str pa_nil))))) pa_nil))) (pa_cons (pe_cmpR op_eq (pe_call G__law_draw (hr.mono (by decide)) rfl d__law_draw.m d__law_draw.F.kp d__law_draw.b .nil pass0 (pa_cons (pv 0) (pa_cons pe_int pa_nil))) pe_int (nomark _)) pa_nil)))))))))))))))), ?_⟩
  obtain ⟨kvs, hk, hK⟩ := id hd
  have ndr : d ≠ r := fun e => by
    subst e
    obtain ⟨ys, hy⟩ := hR.lst
    rw [hy] at hk
    cases hk
  have hkeys : kvs.map (·.1) = (cs.map fun e => sL e.1).map Sum.inr := by
    rw [hK.keys, List.map_map]
    rfl
  have hlen64 : (cs.map fun e => sL e.1).length < 64 := by
    rw [List.length_map]
    have := hok.len
    omega
  have l8 : ∀ {z : List Nat}, isLb z = true → z.length ≤ 100 := fun {z} h => by
    unfold isLb at h
    simp only [Bool.and_eq_true, decide_eq_true_eq] at h
    omega
  have fin : ∀ {cm : Cmd} {G : Hp} {xs : List V}, RngC G r c → But r H G → CmdF cm → CmdN cm → CmdS cm → CmdP cm → (∀ z, mkC cm = some z → z ∈ ls) → (∀ p, G p = none → SqT K (upd G p (.tup xs)) p xs → Tp G (upd G p (.tup xs)) → CmdT K (upd G p (.tup xs)) p cm) → ∀ p, G p = none → Q (.ref p) (upd G p (.tup xs)) := fun {cm G xs} RG bG hF hN hSh hPP hM hT p np => q p cm _ (hT p np (SqT.here upd_same) (Tp.same (Same.new np _))) hF hN hSh hPP hM (RG.same (Same.new np _)) (bG.trans (But.same (Same.new np _)))
  have hll : (ls.map nmV).length = ls.length := List.length_map _
  have sq : ∀ {G : Hp}, But r H G → SqL K G lp (ls.map nmV) := fun {G} b => SqL.here (b _ _ nlr hlp)
  have pk : ∀ {v : V}, v ∈ ls.map nmV → ∃ z, v = nmV z ∧ isLb z = true ∧ z ∈ ls := fun {v} hv => by
    obtain ⟨z, hz, rfl⟩ := List.mem_map.mp hv
    exact ⟨z, rfl, hls z hz, hz⟩
  refine ⟨_, rfl, r, 10, c, rfl, hR, by decide, by decide, fun w0 H1 _ _ R1 b1 => ?_⟩
  refine ⟨_, rfl, _, rfl, r, lp, c, _, rfl, R1, .inl (sq b1), by rw [hll]; exact h0, by rw [hll]; omega, nlr, fun v4 H2 hv4 R2 b2 => ?_⟩
  obtain ⟨z, rfl, hz, hzm⟩ := pk hv4
  refine ⟨_, rfl, _, rfl, r, lp, c, _, rfl, R2, .inl (sq (b1.trans b2)), by rw [hll]; exact h0, by rw [hll]; omega, nlr, fun v5 H3 hv5 R3 b3 => ?_⟩
  obtain ⟨one0, rfl, hone0, _⟩ := pk hv5
  have bA := (b1.trans b2).trans b3
  refine ⟨_, _, _, rfl, _, rfl, d, kvs, _, rfl, .inl (bA _ _ ndr hk), hkeys, hlen64, fun ys t6 hpe hso n6 => ?_⟩
  obtain ⟨ms, rfl, hms⟩ : ∃ ls : List (List Nat), ys = ls.map sL ∧ SrtL ls (cs.map (·.1)) := by
    have e : (cs.map fun e => sL e.1) = (cs.map (·.1)).map sL := by rw [List.map_map]; rfl
    rw [e] at hpe
    obtain ⟨ls, rfl, hls⟩ := map_sL_of hpe
    exact ⟨ls, rfl, hls, hso⟩
  have n6r := (R3.ne n6).1
  have s6 := Same.new n6 (.lst ((ms.map sL).map V.str))
  have R4 := R3.same s6
  have b4 := bA.trans (But.same (r := r) s6)
  have h6 : (upd H3 t6 (.lst ((ms.map sL).map V.str))) t6 = some (.lst (ms.map nmV)) := by
    rw [upd_same, List.map_map]
    rfl
  generalize (upd H3 t6 (.lst ((ms.map sL).map V.str))) = H4 at *
  have hmb : ∀ y ∈ ms, isLb y = true := fun y hy => by
    obtain ⟨e, he, rfl⟩ := List.mem_map.mp (hms.1.mem_iff.mp hy)
    exact hok.lb e he
  have hml : ms.length ≤ 12 := by
    have := hms.1.length_eq
    rw [List.length_map] at this
    have := hok.len
    omega
  have pm : ∀ {v : V}, v ∈ ms.map nmV → ∃ z, v = nmV z ∧ isLb z = true := fun {v} hv => by
    obtain ⟨z, hz, rfl⟩ := List.mem_map.mp hv
    exact ⟨z, rfl, hmb z hz⟩
  have hmm : (ms.map nmV).length = ms.length := List.length_map _
  refine ⟨fun σ G => ∃ one : List Nat, σ = [some (.ref r), some (.ref lp), some (.ref d), some (.int w0), some (nmV z), some (nmV one), some (.ref t6), none, none, none] ∧ RngC G r c ∧ But r H4 G ∧ isLb one = true, ?_, ?_⟩
  · refine ⟨_, rfl, t6, _, rfl, .inl (SqL.here h6), _, _, rfl, rfl, _, rfl, ?_⟩
    by_cases c0 : 0 < ms.length
    · refine ite_yes (decide_eq_true (by rw [hmm]; omega)) ⟨_, rfl, r, 5, c, rfl, R4, by decide, by decide, fun v G v0 _ RG bG => ⟨_, _, rfl, rfl, _, rfl, ?_⟩⟩
      by_cases c1 : 0 < v
      · refine ite_yes (decide_eq_true c1) ⟨_, rfl, _, rfl, r, t6, c, _, rfl, RG, .inl (SqL.here (bG _ _ n6r h6)), by rw [hmm]; exact c0, by rw [hmm]; omega, n6r, fun v G2 hv R2 b2 => ?_⟩
        obtain ⟨y, rfl, hy⟩ := pm hv
        exact ⟨y, rfl, R2, bG.trans b2, hy⟩
      · exact ite_no (decide_eq_false c1) ⟨one0, rfl, RG, bG, hone0⟩
    · exact ite_no (decide_eq_false (by rw [hmm]; omega)) (iteF ⟨one0, rfl, R4, fun _ _ _ h => h, hone0⟩)
  rintro σ G ⟨one, rfl, RG, bG, hone⟩
  have bH := b4.trans bG
  refine ⟨_, rfl, _, _, rfl, rfl, _, rfl, ?_⟩
  by_cases c3 : w0 < 3
  · refine ite_yes (decide_eq_true c3) ⟨_, rfl, _, rfl, r, 5, c, rfl, by decide, by decide, RG, fun v t G2 hv hs hd6 R2 b2 => ⟨by show 3 ≤ sizeLine; decide, fin (cm := .add z (some t)) R2 (bH.trans b2) ⟨l8 hz, t, rfl, by omega, hd6⟩ (isLb_asc hz) trivial trivial (fun y hy => by cases hy; exact hzm) fun p np hq tp => ?_⟩⟩
    exact ⟨v, hq, t.d, NT.of (ta_mono tp hv) (by omega), (by rw [tree_nd]; have := tree_nodes t; omega), .inr ⟨t, rfl, rfl, by omega, hd6⟩⟩
  refine ite_no (decide_eq_false c3) ⟨_, rfl, _, _, rfl, rfl, _, rfl, ?_⟩
  by_cases c5 : w0 < 5
  · refine ite_yes (decide_eq_true c5) ⟨_, rfl, _, rfl, _, rfl, _, rfl, _, rfl, (by show 1 ≤ sizeLine; decide), fun p1 np1 => ?_⟩
    have s1 := Same.new np1 (.lst [nmV one])
    have n1r := (RG.ne np1).1
    have h61 := s1 _ _ (bG _ _ n6r h6)
    have hp1 : (upd G p1 (.lst [nmV one])) p1 = some (.lst [nmV one]) := upd_same
    have R1 := RG.same s1
    have bB := bH.trans (But.same (r := r) s1)
    generalize (upd G p1 (.lst [nmV one])) = G1 at *
    refine ⟨t6, p1, _, _, rfl, rfl, h61, hp1, (by show (ms.map nmV).length + 1 ≤ sizeLine; rw [hmm]; exact Nat.le_trans (show ms.length + 1 ≤ 100 by omega) (by decide)), fun p2 np2 => ?_⟩
    have s2 := Same.new np2 (.lst (ms.map nmV ++ [nmV one]))
    have n2r := (R1.ne np2).1
    have hp2 : (upd G1 p2 (.lst (ms.map nmV ++ [nmV one]))) p2 = some (.lst (ms.map nmV ++ [nmV one])) := upd_same
    have R2 := R1.same s2
    have bC := bB.trans (But.same (r := r) s2)
    generalize (upd G1 p2 (.lst (ms.map nmV ++ [nmV one]))) = G2 at *
    refine ⟨r, p2, c, _, rfl, R2, .inl (SqL.here hp2), by rw [List.length_append]; exact Nat.succ_pos _, by rw [List.length_append, hmm]; show ms.length + 1 ≤ 10000; omega, n2r, fun v G3 hv R3 b3 => ?_⟩
    obtain ⟨y, rfl, hy⟩ : ∃ y, v = nmV y ∧ isLb y = true := by
      rcases List.mem_append.mp hv with hv | hv
      · exact pm hv
      · exact ⟨one, List.mem_singleton.mp hv, hone⟩
    exact ⟨by show 4 ≤ sizeLine; decide, fin (cm := .combine z one y) R3 (bC.trans b3) ⟨l8 hz, l8 hone, l8 hy⟩ ⟨isLb_asc hz, isLb_asc hone, isLb_asc hy⟩ trivial trivial (fun y hy => by cases hy; exact hzm) fun p np hq tp => hq⟩
  refine ite_no (decide_eq_false c5) ⟨_, rfl, rfl, _, rfl, ?_⟩
  by_cases c6 : V.int w0 = V.int 5
  · refine ite_yes (decide_eq_true c6) ⟨_, rfl, _, rfl, _, rfl, r, 2, c, rfl, RG, by decide, by decide, fun v G2 _ _ R2 b2 => ⟨rfl, by show 4 ≤ sizeLine; decide, fin (cm := .extract z one (decide (V.int v = V.int 0))) R2 (bH.trans b2) ⟨l8 hz, l8 hone⟩ ⟨isLb_asc hz, isLb_asc hone⟩ trivial trivial (fun y hy => by cases hy; exact hzm) fun p np hq tp => hq⟩⟩
  refine ite_no (decide_eq_false c6) ⟨_, rfl, rfl, _, rfl, ?_⟩
  by_cases c7 : V.int w0 = V.int 6
  · exact ite_yes (decide_eq_true c7) ⟨_, rfl, two_le, fin (cm := .delete one) RG bH (l8 hone) (isLb_asc hone) trivial trivial (fun y hy => nomatch hy) fun p np hq tp => hq⟩
  refine ite_no (decide_eq_false c7) ⟨fun σ G' => ∃ (t7 : Addr) (xs : List V), σ = [some (.ref r), some (.ref lp), some (.ref d), some (.int w0), some (nmV z), some (nmV one), some (.ref t6), some (.ref t7), none, none] ∧ RngC G' r c ∧ But r H G' ∧ t7 ≠ r ∧ G' t7 = some (.lst xs) ∧ xs.length ≤ 1000 ∧ ∀ x ∈ xs, ∃ (q0 : Addr) (p : List Bool) (on : Bool), x = .ref q0 ∧ SqT K G' q0 [.str (ptx p), .bl on] ∧ p.length ≤ 6, ?_, ?_⟩
  · have hkG := bH _ _ ndr hk
    have tG := hR.tp bH
    refine ⟨_, rfl, _, rfl, d, _, rfl, DGet.k (k := nmK one) hkG, _, rfl, ?_⟩
    rcases hK.val one with ⟨h1, h2⟩ | ⟨t, v, h1, h2, ht⟩
    · rw [h2]
      refine iteF ⟨zero_le', fun p np => ⟨p, [], rfl, RG.same (Same.new np _), bH.trans (But.same (Same.new np _)), (RG.ne np).1, upd_same, Nat.zero_le _, fun _ h => nomatch h⟩⟩
    · rw [h2]
      have g1 := DGet.k (k := nmK one) hkG
      rw [h2] at g1
      have hfa := hok.fit _ (lk_mem h1)
      have hfa1 : t.sz ≤ 12 := hfa.1
      have hfa2 : t.dp ≤ 6 := hfa.2
      refine iteT ⟨_, rfl, _, rfl, d, _, rfl, g1, v, t, rfl, ta_mono tG ht, by omega, (by have := tree_nodes t; omega), fun l xs G2 s2 nl hl hlen hx => ?_⟩
      refine ⟨l, xs, rfl, RG.same s2, bH.trans (But.same s2), (RG.ne nl).1, hl, hlen, fun x hxm => ?_⟩
      obtain ⟨q0, p, on, t', e1, e2, e3⟩ := hx x hxm
      exact ⟨q0, p, on, e1, e2, by have := Tree.rwt_len e3; omega⟩
  rintro σ G' ⟨t7, xs, rfl, R7, b7, n7r, h7, hl7, hx7⟩
  have w4 : ∀ {v : V}, v ∈ [V.str "", V.str "0", V.str "1", V.str "10"] → ∃ p : List Bool, v = .str (ptx p) ∧ p.length ≤ 2 := fun {v} hv => by
    have e0 : ("" : Str) = ptx [] := by decide +kernel
    have e1 : ("0" : Str) = ptx [false] := by decide +kernel
    have e2 : ("1" : Str) = ptx [true] := by decide +kernel
    have e3 : ("10" : Str) = ptx [true, false] := by decide +kernel
    rcases List.mem_cons.mp hv with rfl | hv
    · exact ⟨_, congrArg V.str e0, by decide⟩
    rcases List.mem_cons.mp hv with rfl | hv
    · exact ⟨_, congrArg V.str e1, by decide⟩
    rcases List.mem_cons.mp hv with rfl | hv
    · exact ⟨_, congrArg V.str e2, by decide⟩
    rcases List.mem_cons.mp hv with rfl | hv
    · exact ⟨_, congrArg V.str e3, by decide⟩
    cases hv
  refine ⟨_, rfl, t7, xs, rfl, .inl (SqL.here h7), _, _, rfl, rfl, _, rfl, ?_⟩
  by_cases c8 : 0 < xs.length
  · refine ite_yes (decide_eq_true (by omega)) ⟨_, rfl, r, 4, c, rfl, R7, by decide, by decide, fun v8 G8 _ _ R8 b8 => ⟨_, _, rfl, rfl, _, rfl, ?_⟩⟩
    by_cases c9 : 0 < v8
    · refine ite_yes (decide_eq_true c9) ⟨_, rfl, _, rfl, r, t7, c, xs, rfl, R8, .inl (SqL.here (b8 _ _ n7r h7)), c8, by omega, n7r, fun v9 G9 hv R9 b9 => ?_⟩
      obtain ⟨q0, p, on, rfl, hq0, hpl⟩ := hx7 _ hv
      have hq9 := (R7.tp (b8.trans b9)).sqT hq0
      refine ⟨q0, _, rfl, hq9, rfl, _, _, rfl, _, _, rfl, rfl, _, rfl, _, rfl, _, rfl, on, rfl, by show 4 ≤ sizeLine; decide, fin (cm := .rewrite one (some p) (!on)) R9 ((b7.trans b8).trans b9) (l8 hone) (isLb_asc hone) (fun p' e => by cases e; omega) rfl (fun y hy => nomatch hy) fun p5 np5 hq tp => ⟨ptx p, hq, by rw [ptx_len]; omega, .inr ⟨p, rfl, rfl, by omega⟩⟩⟩
    · refine ite_no (decide_eq_false c9) ⟨_, rfl, _, rfl, (by show 4 ≤ sizeLine; decide), fun p1 np1 => ?_⟩
      have np1r := (R8.ne np1).1
      have s1 := Same.new np1 (.lst [V.str "", V.str "0", V.str "1", V.str "10"])
      have hp1 : (upd G8 p1 (.lst [V.str "", V.str "0", V.str "1", V.str "10"])) p1 = some (.lst [V.str "", V.str "0", V.str "1", V.str "10"]) := upd_same
      have R1 := R8.same s1
      have bB := (b7.trans b8).trans (But.same (r := r) s1)
      refine ⟨r, p1, c, _, rfl, R1, .inl (SqL.here hp1), (by show 0 < 4; decide), (by show 4 ≤ 10000; decide), np1r, fun v G3 hv R3 b3 => ?_⟩
      obtain ⟨p, rfl, hpl⟩ := w4 hv
      exact ⟨_, rfl, r, 2, c, rfl, R3, by decide, by decide, fun v2 G4 _ _ R4 b4 => ⟨rfl, by show 4 ≤ sizeLine; decide, fin (cm := .rewrite one (some p) (decide (V.int v2 = V.int 0))) R4 ((bB.trans b3).trans b4) (l8 hone) (isLb_asc hone) (fun p' e => by cases e; omega) rfl (fun y hy => nomatch hy) fun p5 np5 hq tp => ⟨ptx p, hq, by rw [ptx_len]; omega, .inr ⟨p, rfl, rfl, by omega⟩⟩⟩⟩
  · refine ite_no (decide_eq_false (by omega)) (iteF ⟨_, rfl, _, rfl, (by show 4 ≤ sizeLine; decide), fun p1 np1 => ?_⟩)
    have np1r := (R7.ne np1).1
    have s1 := Same.new np1 (.lst [V.str "", V.str "0", V.str "1", V.str "10"])
    have hp1 : (upd G' p1 (.lst [V.str "", V.str "0", V.str "1", V.str "10"])) p1 = some (.lst [V.str "", V.str "0", V.str "1", V.str "10"]) := upd_same
    have R1 := R7.same s1
    have bB := b7.trans (But.same (r := r) s1)
    refine ⟨r, p1, c, _, rfl, R1, .inl (SqL.here hp1), (by show 0 < 4; decide), (by show 4 ≤ 10000; decide), np1r, fun v G3 hv R3 b3 => ?_⟩
    obtain ⟨p, rfl, hpl⟩ := w4 hv
    exact ⟨_, rfl, r, 2, c, rfl, R3, by decide, by decide, fun v2 G4 _ _ R4 b4 => ⟨rfl, by show 4 ≤ sizeLine; decide, fin (cm := .rewrite one (some p) (decide (V.int v2 = V.int 0))) R4 ((bB.trans b3).trans b4) (l8 hone) (isLb_asc hone) (fun p' e => by cases e; omega) rfl (fun y hy => nomatch hy) fun p5 np5 hq tp => ⟨ptx p, hq, by rw [ptx_len]; omega, .inr ⟨p, rfl, rfl, by omega⟩⟩⟩⟩

abbrev s__law_computed : Stmt := top 81
theorem sc__law_computed : FnScope ["_law_current", "_law_command_here", "_law_good", "_law_name", "_law_term_here"] ["_law_current", "_law_command_here"] (defScope s__law_computed) := ⟨rfl, rfl, rfl, by decide +kernel, rfl, by decide +kernel, by decide +kernel⟩
theorem ok__law_computed {f1 f2 f3 f4 : Addr} {e1 e2 e3 e4 : FuncData} (d__law_computed : D K mg "_law_computed" s__law_computed ["_law_current", "_law_command_here"] f fd) (B : Blt mg) (d__law_is_tree : D K mg "_law_is_tree" s__law_is_tree ["_law_term_here"] f1 e1) (d__law_size : D K mg "_law_size" s__law_size ["_law_term_here"] f2 e2) (d__law_depth : D K mg "_law_depth" s__law_depth ["_law_term_here"] f3 e3) (d__law_fits : D K mg "_law_fits" s__law_fits ["_law_term_here", "_law_top"] f4 e4) : FnOk P w K mg base CX0 42 f fd ["_law_current", "_law_command_here"] (spCmp K) := by
  have G__law_is_tree : FnOk P w K mg base CX0 11 f1 e1 ["_law_term_here"] (spTree K (fun _ => .bl true) 10) := ok__law_is_tree d__law_is_tree B 10
  have G__law_size : FnOk P w K mg base CX0 40 f2 e2 ["_law_term_here"] (spTree K (fun t => .int t.sz) 40) := ok__law_size d__law_size 40
  have G__law_fits : FnOk P w K mg base CX0 41 f4 e4 ["_law_term_here", "_law_top"] (spFitsX K) := ok__law_fits d__law_fits B d__law_size d__law_depth
  refine d__law_computed.F.ok sc__law_computed (fun vs H Q E h => ?_) (fun cdv A outer s H vs Q E hr h => ?_)
  · obtain ⟨_, _, _, _, rfl, _⟩ := h
    rfl
  obtain ⟨d, q, cs, c, rfl, hd, hok, hc, hF, hmk, qR⟩ := h
  have fitE : ∀ t : Tree, (decide ((t.sz : Int) ≤ 12) && decide (t.dp < 7)) = fitsT t := fun t => by
    unfold fitsT
    congr 1
    · exact decide_eq_decide.mpr (by omega)
    · exact decide_eq_decide.mpr (by omega)
  have fin : ∀ {w0 : Str} {v0 : V} {G : Hp}, Same H G → (∀ G', Same G G' → CmpV K G' (cmpC cs c) w0 v0) → ∀ p, G p = none → Q (.ref p) (upd G p (.tup [.str w0, v0])) := fun {w0 v0 G} sG hv p np => qR p w0 v0 _ (sG.trans (Same.new np _)) (SqT.here upd_same) (hv _ (Same.new np _))
  refine ⟨_, (pss_cons (ps_if (pt_cmpR op_eq (pe_ix ix_tup (pv 1) pe_int (fun _ _ => rfl)) pe_str (nomark _)) (pss_cons (ps_set (i := 2) sc__law_computed.nd rfl (Or.inl rfl) (pe_and (pe_call G__law_is_tree (hr.mono (by decide)) rfl d__law_is_tree.m d__law_is_tree.F.kp d__law_is_tree.b .nil pass0 (pa_cons (pe_ix ix_tup (pv 1) pe_int (fun _ _ => rfl)) pa_nil)) (pe_one (pe_call G__law_fits (hr.mono (by decide)) rfl d__law_fits.m d__law_fits.F.kp d__law_fits.b .nil pass0 (pa_cons (pe_ix ix_tup (pv 1) pe_int (fun _ _ => rfl)) (pa_cons pe_int pa_nil))))))
 (pss_one (ps_ret (pe_ifExp (pt_truth (pv 2) (by intro _; rfl)) (pe_tup (pa_cons pe_str (pa_cons (pe_ix ix_tup (pv 1) pe_int (fun _ _ => rfl)) pa_nil))) (pe_tup (pa_cons pe_str (pa_cons pe_non pa_nil))))))) pss_nil)
 (C8.pss_cut (ps_for PassesOwn.never rfl (pi_anyE (pe_ifExp (pt_cmpR op_eq (pe_ix ix_tup (pv 1) pe_int (fun _ _ => rfl)) pe_str (nomark _)) (pe_lst (pa_cons (pe_ix ix_tup (pv 1) pe_int (fun _ _ => rfl)) pa_nil)) (pe_slice sl_tup (pv 1) (po_some pe_int) po_none))) (pg_name (i := 3) sc__law_computed.nd rfl (Or.inl rfl))
  (pss_one (ps_if (pt_cmp (pc_dnotin (hu_of hr) (pv 3) (pv 0)) (by with_unfolding_all rfl)) (pss_one (ps_ret (pe_tup (pa_cons pe_str (pa_cons (pv 3) pa_nil))))) pss_nil)))
 (pss_cons (ps_if (pt_cmpR op_eq (pe_ix ix_tup (pv 1) pe_int (fun _ _ => rfl)) pe_str (nomark _)) (pss_cons (ps_set (i := 4) sc__law_computed.nd rfl (Or.inl rfl) (pe_dget (hu_of hr) (pv 0) (pe_ix ix_tup (pv 1) pe_int (fun _ _ => rfl)) (fun _ _ => rfl)))
 (pss_one (ps_ret (pe_ifExp (pt_cmpR (op_eqD hr.units) (pv 4) (pe_tup pa_nil) (nomark _)) (pe_tup (pa_cons pe_str (pa_cons pe_non pa_nil))) (pe_tup (pa_cons pe_str (pa_cons (pe_ifExp (pt_truth (pe_ix ix_tup (pv 1) pe_int (fun _ _ => rfl)) (by intro _; rfl)) (pe_ix ix_tup (pv 4) pe_int (fun _ _ => rfl)) (pe_ix ix_tup (pv 4) pe_int (fun _ _ => rfl))) pa_nil))))))) pss_nil)
 (pss_cons (ps_set (i := 4) sc__law_computed.nd rfl (Or.inl rfl) (pe_tup (pa_cons (pe_dget (hu_of hr) (pv 0) (pe_ix ix_tup (pv 1) pe_int (fun _ _ => rfl)) (fun _ _ => rfl)) (pa_cons (pe_dget (hu_of hr) (pv 0) (pe_ix ix_tup (pv 1) pe_int (fun _ _ => rfl)) (fun _ _ => rfl)) pa_nil))))
 (pss_one (ps_ret (pe_ifExp (pt_val (pe_call G__law_fits (hr.mono (by decide)) rfl d__law_fits.m d__law_fits.F.kp d__law_fits.b .nil pass0 (pa_cons (pv 4) (pa_cons pe_int pa_nil)))) (pe_tup (pa_cons pe_str (pa_cons (pv 4) pa_nil))) (pe_tup (pa_cons pe_str (pa_cons (pe_call G__law_size (hr.mono (by decide)) rfl d__law_size.m d__law_size.F.kp d__law_size.b .nil pass0 (pa_cons (pv 4) pa_nil)) pa_nil)))))))))), ?_⟩
  cases c with
  | add z ot =>
    obtain ⟨v, hq, hO⟩ := hc
    obtain ⟨hz, t, rfl, hs, hdp⟩ := hF
    have ht : TA K H v t := by
      obtain ⟨dd, hN, _, ho⟩ := hO
      rcases ho with ⟨_, h⟩ | ⟨t', rfl, h, _⟩
      · cases h
      · cases h
        exact hN.1
    refine ⟨_, rfl, q, _, 0, _, rfl, rfl, hq, rfl, rfl, _, rfl, ite_yes (by decide +kernel) ?_⟩
    refine ⟨_, rfl, q, _, 2, _, rfl, rfl, hq, rfl, v, t, rfl, ht, by omega, by decide, fun H1 s1 => ⟨_, rfl, iteT ⟨_, rfl, q, _, 2, _, rfl, rfl, (Tp.same s1).sqT hq, rfl, v, t, 12, rfl, ta_mono (Tp.same s1) ht, by omega, fun H2 s2 => ?_⟩⟩⟩
    rw [fitE, fitsT_iff.mpr ⟨hs, hdp⟩]
    have sm := s1.trans s2
    refine ⟨_, rfl, _, rfl, iteT ⟨_, rfl, q, _, 2, _, rfl, rfl, (Tp.same sm).sqT hq, rfl, two_le, fin (w0 := "") (v0 := v) sm fun G' s' => ?_⟩⟩
    exact ⟨rfl, ta_mono (Tp.same (sm.trans s')) ht, hs, hdp⟩
  | combine z l r =>
    have hq : SqT K H q _ := hc
    obtain ⟨hz, hzl, hzr⟩ := hF
    refine ⟨_, rfl, q, _, 0, _, rfl, rfl, hq, rfl, rfl, _, rfl, ite_no (by decide +kernel) ⟨fun σ G => ∃ x3 : Option V, σ = [some (.ref d), some (.ref q), none, x3, none] ∧ Same H G ∧ (∃ t, lkC cs l = some t) ∧ ∃ t, lkC cs r = some t, ?_, ?_⟩⟩
    · refine ⟨_, rfl, q, _, 0, _, rfl, rfl, hq, rfl, rfl, _, rfl, ite_no (by decide +kernel) ⟨_, rfl, 2, rfl, ?_⟩⟩
      unfold tNoPart
      refine ⟨q, _, rfl, hq, (fun h => absurd (show (2 : Nat) = 0 from h.1) (by decide)), fun p np => ?_⟩
      have s0 := Same.new np (.tup [nmV l, nmV r])
      have hp0 : (upd H p (.tup [nmV l, nmV r])) p = some (.tup [nmV l, nmV r]) := upd_same
      show ∃ a, _
      generalize hG0 : (upd H p (.tup [nmV l, nmV r])) = G0 at *
      have hG1 : (upd H p (.tup (cutV [V.str "combine", nmV z, nmV l, nmV r] (some 2) none))) = G0 := hG0
      rw [hG1]
      refine ⟨p, rfl, .inr ⟨_, SqT.here hp0, for_tup (xs := [nmV l, nmV r]) (fun i σ G => ∃ x3 : Option V, σ = [some (.ref d), some (.ref q), none, x3, none] ∧ Same H G ∧ G p = some (.tup [nmV l, nmV r]) ∧ ∀ j z, j < i → ([l, r] : List (List Nat))[j]? = some z → ∃ t, lkC cs z = some t) ⟨none, rfl, s0, hp0, fun j z hj => absurd hj (Nat.not_lt_zero _)⟩ (fun i σ G _ h => by obtain ⟨_, _, _, h, _⟩ := h; exact SqT.here h) ?_ ?_⟩⟩
      · rintro i x σ G hx ⟨x3, rfl, sG, hpG, hall⟩
        have hx : (([l, r] : List (List Nat)).map nmV)[i]? = some x := hx
        rw [List.getElem?_map] at hx
        obtain ⟨y, hy, rfl⟩ := Option.map_eq_some_iff.mp hx
        obtain ⟨kvs, hk, hK⟩ := hd.same sG
        refine ⟨_, rfl, _, rfl, d, _, rfl, DGet.k (k := nmK y) hk, _, rfl, ?_⟩
        rcases hK.val y with ⟨h1, h2⟩ | ⟨t, v, h1, h2, _⟩
        · rw [h2]
          refine iteT ⟨_, rfl, two_le, fin (w0 := "UnknownName") (v0 := nmV y) sG fun G' s' => ?_⟩
          have he : cmpC cs (.combine z l r) = .error (.unk y) := by
            dsimp only [cmpC]
            match i, hy with
            | 0, hy =>
              cases hy
              rw [h1]
            | 1, hy =>
              cases hy
              obtain ⟨tl, hl⟩ := hall 0 l (by decide) rfl
              rw [hl]
              dsimp only
              rw [h1]
            | i + 2, hy => simp at hy
          rw [he]
          exact ⟨by show ("UnknownName" : Str) = en 15; decide +kernel, rfl⟩
        · rw [h2]
          refine iteF ⟨_, rfl, sG, hpG, fun j z hj hz => ?_⟩
          rcases Nat.lt_or_ge j i with hlt | hge
          · exact hall j z hlt hz
          · have e : j = i := by omega
            subst e
            rw [hy] at hz
            cases hz
            exact ⟨t, h1⟩
      · rintro σ G ⟨x3, rfl, sG, hpG, hall⟩
        exact ⟨x3, rfl, sG, hall 0 l (by show 0 < 2; decide) rfl, hall 1 r (by show 1 < 2; decide) rfl⟩
    · rintro σ G ⟨x3, rfl, sG, ⟨ta, ea⟩, tb, eb⟩
      have hq1 := (Tp.same sG).sqT hq
      refine ⟨_, rfl, q, _, 0, _, rfl, rfl, hq1, rfl, rfl, _, rfl, ite_no (by decide +kernel) ?_⟩
      have hfa1 : ta.sz ≤ 12 ∧ ta.dp ≤ 6 := hok.fit _ (lk_mem ea)
      have hfb1 : tb.sz ≤ 12 ∧ tb.dp ≤ 6 := hok.fit _ (lk_mem eb)
      obtain ⟨kvs, hk, hK⟩ := hd.same sG
      rcases hK.val l with ⟨h1, h2⟩ | ⟨t1, va, h1, h2, hta⟩
      · rw [ea] at h1; cases h1
      rw [ea] at h1
      cases h1
      rcases hK.val r with ⟨h1, h3⟩ | ⟨t1, vb, h1, h3, htb⟩
      · rw [eb] at h1; cases h1
      rw [eb] at h1
      cases h1
      have g1 := DGet.k (k := nmK l) hk
      have g2 := DGet.k (k := nmK r) hk
      rw [h2] at g1
      rw [h3] at g2
      refine ⟨_, rfl, _, rfl, q, _, 2, _, rfl, rfl, hq1, rfl, d, _, rfl, g1, _, rfl, _, rfl, q, _, 3, _, rfl, rfl, hq1, rfl, d, _, rfl, g2, two_le, fun p np => ?_⟩
      have s1 := Same.new np (.tup [va, vb])
      have htN : TA K (upd G p (.tup [va, vb])) (.ref p) (.N ta tb) := ta_node (SqT.here upd_same) (ta_mono (Tp.same s1) hta) (ta_mono (Tp.same s1) htb)
      have sH := sG.trans s1
      generalize upd G p (.tup [va, vb]) = G1 at *
      have hdN : (Tree.N ta tb).dp < 40 := by show max ta.dp tb.dp + 1 < 40; omega
      refine ⟨_, rfl, .ref p, .N ta tb, 12, rfl, htN, hdN, fun G2 s2 => ?_⟩
      rw [fitE]
      have he : cmpC cs (.combine z l r) = if fitsT (.N ta tb) = true then .ok (.N ta tb) else .error (.big (Tree.N ta tb).sz) := by
        dsimp only [cmpC]
        rw [ea, eb]
      cases ef : fitsT (.N ta tb) with
      | true =>
        rw [if_pos ef] at he
        refine ⟨_, rfl, iteT ⟨_, rfl, two_le, fin (w0 := "") (v0 := .ref p) (sH.trans s2) fun G' s' => ?_⟩⟩
        rw [he]
        exact ⟨rfl, ta_mono (Tp.same (s2.trans s')) htN, fitsT_iff.mp ef⟩
      | false =>
        rw [if_neg (by rw [ef]; decide)] at he
        refine ⟨_, rfl, iteF ⟨_, rfl, .ref p, .N ta tb, rfl, ta_mono (Tp.same s2) htN, hdN, by decide, fun G3 s3 => ⟨two_le, fin (w0 := "TooLarge") (v0 := .int ((Tree.N ta tb).sz : Nat)) ((sH.trans s2).trans s3) fun G' s' => ?_⟩⟩⟩
        rw [he]
        exact ⟨by show ("TooLarge" : Str) = en 5; decide +kernel, rfl⟩
  | extract z s0' rt =>
    have hq : SqT K H q _ := hc
    obtain ⟨hz, hzs⟩ := hF
    refine ⟨_, rfl, q, _, 0, _, rfl, rfl, hq, rfl, rfl, _, rfl, ite_no (by decide +kernel) ⟨fun σ G => ∃ x3 : Option V, σ = [some (.ref d), some (.ref q), none, x3, none] ∧ Same H G ∧ ∃ t, lkC cs s0' = some t, ?_, ?_⟩⟩
    · refine ⟨_, rfl, q, _, 0, _, rfl, rfl, hq, rfl, rfl, _, rfl, ite_yes (by decide +kernel) ⟨_, rfl, q, _, 2, _, rfl, rfl, hq, rfl, (by show 1 ≤ sizeLine; decide), fun p np => ?_⟩⟩
      have s0 := Same.new np (.lst [nmV s0'])
      have hp0 : (upd H p (.lst [nmV s0'])) p = some (.lst [nmV s0']) := upd_same
      show ∃ a, _
      generalize (upd H p (.lst [nmV s0'])) = G0 at *
      refine ⟨p, rfl, .inl ⟨_, SqL.here hp0, for_list (xs := [nmV s0']) (fun i σ G => ∃ x3 : Option V, σ = [some (.ref d), some (.ref q), none, x3, none] ∧ Same H G ∧ G p = some (.lst [nmV s0']) ∧ ∀ j z, j < i → ([s0'] : List (List Nat))[j]? = some z → ∃ t, lkC cs z = some t) ⟨none, rfl, s0, hp0, fun j z hj => absurd hj (Nat.not_lt_zero _)⟩ (fun i σ G _ h => by obtain ⟨_, _, _, h, _⟩ := h; exact SqL.here h) ?_ ?_⟩⟩
      · rintro i x σ G hx ⟨x3, rfl, sG, hpG, hall⟩
        have hx : (([s0'] : List (List Nat)).map nmV)[i]? = some x := hx
        rw [List.getElem?_map] at hx
        obtain ⟨y, hy, rfl⟩ := Option.map_eq_some_iff.mp hx
        obtain ⟨kvs, hk, hK⟩ := hd.same sG
        refine ⟨_, rfl, _, rfl, d, _, rfl, DGet.k (k := nmK y) hk, _, rfl, ?_⟩
        rcases hK.val y with ⟨h1, h2⟩ | ⟨t, v, h1, h2, _⟩
        · rw [h2]
          refine iteT ⟨_, rfl, two_le, fin (w0 := "UnknownName") (v0 := nmV y) sG fun G' s' => ?_⟩
          have he : cmpC cs (.extract z s0' rt) = .error (.unk y) := by
            dsimp only [cmpC]
            match i, hy with
            | 0, hy =>
              cases hy
              rw [h1]
            | i + 1, hy => simp at hy
          rw [he]
          exact ⟨by show ("UnknownName" : Str) = en 15; decide +kernel, rfl⟩
        · rw [h2]
          refine iteF ⟨_, rfl, sG, hpG, fun j z hj hz => ?_⟩
          rcases Nat.lt_or_ge j i with hlt | hge
          · exact hall j z hlt hz
          · have e : j = i := by omega
            subst e
            rw [hy] at hz
            cases hz
            exact ⟨t, h1⟩
      · rintro σ G ⟨x3, rfl, sG, hpG, hall⟩
        exact ⟨x3, rfl, sG, hall 0 s0' (by show 0 < 1; decide) rfl⟩
    · rintro σ G ⟨x3, rfl, sG, ta, ea⟩
      have hq1 := (Tp.same sG).sqT hq
      have hfa1 : ta.sz ≤ 12 ∧ ta.dp ≤ 6 := hok.fit _ (lk_mem ea)
      obtain ⟨kvs, hk, hK⟩ := hd.same sG
      rcases hK.val s0' with ⟨h1, h2⟩ | ⟨t1, va, h1, h2, hta⟩
      · rw [ea] at h1; cases h1
      rw [ea] at h1
      cases h1
      have g1 := DGet.k (k := nmK s0') hk
      rw [h2] at g1
      refine ⟨_, rfl, q, _, 0, _, rfl, rfl, hq1, rfl, rfl, _, rfl, ite_yes (by decide +kernel) ⟨_, rfl, _, rfl, q, _, 2, _, rfl, rfl, hq1, rfl, d, _, rfl, g1, ?_⟩⟩
      refine ⟨_, rfl, zero_le', fun p np => ?_⟩
      have s1 := Same.new np (.tup [])
      have ht1 := ta_mono (Tp.same s1) hta
      have hq2 := (Tp.same s1).sqT hq1
      have hp : SqT K (upd G p (.tup [])) p [] := SqT.here upd_same
      have sH := sG.trans s1
      generalize upd G p (.tup []) = G1 at *
      refine ⟨ta.d, .tuple [], ht1, Dp.tup hp .nil, Tree.shaped (by omega), shapedE, _, rfl, ite_eq (Tree.eqvL ta) ?_⟩
      cases ta with
      | L =>
        have he : cmpC cs (.extract z s0' rt) = .error .pnf := by
          dsimp only [cmpC]
          rw [ea]
        refine iteT ⟨two_le, fin (w0 := "PathNotFound") (v0 := .non) sH fun G' s' => ?_⟩
        rw [he]
        exact ⟨by show ("PathNotFound" : Str) = en 3; decide +kernel, rfl⟩
      | N a b =>
        obtain ⟨q0, x, y, rfl, hq0, hx, hy⟩ := ta_invN ht1
        have he : cmpC cs (.extract z s0' rt) = .ok (if rt = true then b else a) := by
          dsimp only [cmpC]
          rw [ea]
        have e1 : (Tree.N a b).sz = a.sz + b.sz := rfl
        have e2 : (Tree.N a b).dp = max a.dp b.dp + 1 := rfl
        rw [e1, e2] at hfa1
        refine iteF ⟨_, rfl, q, _, 3, _, rfl, rfl, hq2, rfl, rt, rfl, ?_⟩
        cases rt with
        | true =>
          refine iteT ⟨_, rfl, q0, _, 1, _, rfl, rfl, hq0, rfl, two_le, fin (w0 := "") (v0 := y) sH fun G' s' => ?_⟩
          rw [he]
          exact ⟨rfl, ta_mono (Tp.same s') hy, by show b.sz ≤ 12; omega, by show b.dp ≤ 6; omega⟩
        | false =>
          refine iteF ⟨_, rfl, q0, _, 0, _, rfl, rfl, hq0, rfl, two_le, fin (w0 := "") (v0 := x) sH fun G' s' => ?_⟩
          rw [he]
          exact ⟨rfl, ta_mono (Tp.same s') hx, by show a.sz ≤ 12; omega, by show a.dp ≤ 6; omega⟩
  | rewrite z op con => cases hmk
  | delete z => cases hmk

abbrev s__law_rewrite_result : Stmt := top 82
theorem sc__law_rewrite_result : FnScope ["_law_current", "_law_command_here", "_law_term_here", "_law_later", "_law_sign"] ["_law_current", "_law_command_here"] (defScope s__law_rewrite_result) := ⟨rfl, rfl, rfl, by decide +kernel, rfl, by decide +kernel, by decide +kernel⟩
theorem ok__law_rewrite_result {f1 f2 f3 f4 f5 f6 f7 f8 : Addr} {e1 e2 e3 e4 e5 e6 e7 e8 : FuncData} (d__law_rewrite_result : D K mg "_law_rewrite_result" s__law_rewrite_result ["_law_current", "_law_command_here"] f fd) (B : Blt mg) (d__law_subterm : D K mg "_law_subterm" s__law_subterm ["_law_term_here", "_law_spot"] f1 e1) (d__law_expanded : D K mg "_law_expanded" s__law_expanded ["_law_some"] f2 e2) (d__law_replace : D K mg "_law_replace" s__law_replace ["_law_term_here", "_law_spot", "_law_new"] f3 e3) (d__law_contracted : D K mg "_law_contracted" s__law_contracted ["_law_some"] f4 e4) (d__law_rewrite : D K mg "_law_rewrite" s__law_rewrite ["_law_term_here", "_law_spot", "_law_onward"] f5 e5) (d__law_size : D K mg "_law_size" s__law_size ["_law_term_here"] f6 e6) (d__law_depth : D K mg "_law_depth" s__law_depth ["_law_term_here"] f7 e7) (d__law_fits : D K mg "_law_fits" s__law_fits ["_law_term_here", "_law_top"] f8 e8) : FnOk P w K mg base CX0 43 f fd ["_law_current", "_law_command_here"] (spRwr K) := by
  have G__law_subterm : FnOk P w K mg base CX0 1 f1 e1 ["_law_term_here", "_law_spot"] (spStN K) := ok__law_subterm d__law_subterm
  have G__law_rewrite : FnOk P w K mg base CX0 12 f5 e5 ["_law_term_here", "_law_spot", "_law_onward"] (spRwN K 10) := ok__law_rewrite d__law_rewrite d__law_subterm d__law_expanded d__law_replace d__law_contracted 10
  have G__law_size : FnOk P w K mg base CX0 40 f6 e6 ["_law_term_here"] (spTree K (fun t => .int t.sz) 40) := ok__law_size d__law_size 40
  have G__law_fits : FnOk P w K mg base CX0 41 f8 e8 ["_law_term_here", "_law_top"] (spFitsX K) := ok__law_fits d__law_fits B d__law_size d__law_depth
  refine d__law_rewrite_result.F.ok sc__law_rewrite_result (fun vs H Q E h => ?_) (fun cdv A outer s H vs Q E hr h => ?_)
  · obtain ⟨_, _, _, _, _, _, rfl, _⟩ := h
    rfl
  obtain ⟨d, q, cs, z, op, con, rfl, hd, hok, hc, hsh, qR⟩ := h
  have fitE : ∀ t : Tree, (decide ((t.sz : Int) ≤ 12) && decide (t.dp < 7)) = fitsT t := fun t => by
    unfold fitsT
    congr 1
    · exact decide_eq_decide.mpr (by omega)
    · exact decide_eq_decide.mpr (by omega)
  have fin : ∀ {w0 : Str} {v0 : V} {G : Hp}, Same H G → (∀ G', Same G G' → CmpV K G' (cmpC cs (.rewrite z op con)) w0 v0) → ∀ p, G p = none → Q (.ref p) (upd G p (.tup [.str w0, v0])) := fun {w0 v0 G} sG hv p np => qR p w0 v0 _ (sG.trans (Same.new np _)) (SqT.here upd_same) (hv _ (Same.new np _))
  obtain ⟨pt, hq, hpt⟩ := hc
  obtain ⟨kvs, hk, hK⟩ := hd
  refine ⟨_, (pss_cons (ps_if (pt_cmp (pc_dnotin (hu_of hr) (pe_ix ix_tup (pv 1) pe_int (fun _ _ => rfl)) (pv 0)) (by with_unfolding_all rfl)) (pss_one (ps_ret (pe_tup (pa_cons pe_str (pa_cons (pe_ix ix_tup (pv 1) pe_int (fun _ _ => rfl)) pa_nil))))) pss_nil)
 (pss_cons (ps_if (PW.pt (pw_or (pt_cmpR op_gt (pe_callB call_len_str (by rfl) B.len PySem.boot_len (pa_cons (pe_ix ix_tup (pv 1) pe_int (fun _ _ => rfl)) pa_nil)) pe_int (nomark _)) (pw_or1 (pt_not (pt_val (pe_callB (cr_all rfl) (by rfl) B.all (by decide +kernel) (pa_cons (pe_lc (own := [("_law_sign", 4)]) (g := gName 4) (tt := tYes) (by rfl) sc__law_rewrite_result.nd (pi_str (pe_ix ix_tup (pv 1) pe_int (fun _ _ => rfl))) (blkOk_by (own := [("_law_sign", 4)]) (N := ["_law_current", "_law_command_here", "_law_term_here", "_law_later", "_law_sign"]) (sc := defScope s__law_rewrite_result) (by decide +kernel)) (fun _ _ _ _ _ => (pg_name (i := 4) sc__law_rewrite_result.nd rfl (Or.inl rfl))) (fun _ _ _ _ _ => pts_nil) (fun _ _ _ _ _ => (pe_cmpR op_in_sign (pv 4) pe_str (by with_unfolding_all rfl)))) pa_nil))))))) (pss_one (ps_ret (pe_tup (pa_cons pe_str (pa_cons pe_non pa_nil))))) pss_nil)
 (pss_cons (ps_set (i := 2) sc__law_rewrite_result.nd rfl (Or.inl rfl) (pe_dget (hu_of hr) (pv 0) (pe_ix ix_tup (pv 1) pe_int (fun _ _ => rfl)) (fun _ _ => rfl)))
 (pss_cons (ps_if (pt_cmpR op_isN (pe_call G__law_subterm (hr.mono (by decide)) rfl d__law_subterm.m d__law_subterm.F.kp d__law_subterm.b .nil pass0 (pa_cons (pv 2) (pa_cons (pe_ix ix_tup (pv 1) pe_int (fun _ _ => rfl)) pa_nil))) pe_non (nomark _)) (pss_one (ps_ret (pe_tup (pa_cons pe_str (pa_cons pe_non pa_nil))))) pss_nil)
 (pss_cons (ps_set (i := 3) sc__law_rewrite_result.nd rfl (Or.inl rfl) (pe_call G__law_rewrite (hr.mono (by decide)) rfl d__law_rewrite.m d__law_rewrite.F.kp d__law_rewrite.b .nil pass0 (pa_cons (pv 2) (pa_cons (pe_ix ix_tup (pv 1) pe_int (fun _ _ => rfl)) (pa_cons (pe_not (pe_ix ix_tup (pv 1) pe_int (fun _ _ => rfl))) pa_nil)))))
 (pss_cons (ps_if (pt_cmpR op_isN (pv 3) pe_non (nomark _)) (pss_one (ps_ret (pe_tup (pa_cons pe_str (pa_cons pe_non pa_nil))))) pss_nil)
 (pss_one (ps_ret (pe_ifExp (pt_val (pe_call G__law_fits (hr.mono (by decide)) rfl d__law_fits.m d__law_fits.F.kp d__law_fits.b .nil pass0 (pa_cons (pv 3) (pa_cons pe_int pa_nil)))) (pe_tup (pa_cons pe_str (pa_cons (pv 3) pa_nil))) (pe_tup (pa_cons pe_str (pa_cons (pe_call G__law_size (hr.mono (by decide)) rfl d__law_size.m d__law_size.F.kp d__law_size.b .nil pass0 (pa_cons (pv 3) pa_nil)) pa_nil)))))))))))), ?_⟩
  refine ⟨_, rfl, q, _, 1, _, rfl, rfl, hq, rfl, _, rfl, d, _, rfl, DGet.k (k := nmK z) hk, _, rfl, ?_⟩
  rcases hK.val z with ⟨h1, h2⟩ | ⟨t, v, h1, h2, ht⟩
  · rw [h2]
    refine iteT ⟨_, rfl, q, _, 1, _, rfl, rfl, hq, rfl, two_le, fin (w0 := "UnknownName") (v0 := nmV z) (Same.refl _) fun G' s' => ?_⟩
    have he : cmpC cs (.rewrite z op con) = .error (.unk z) := by
      dsimp only [cmpC]
      rw [h1]
    rw [he]
    exact ⟨by show ("UnknownName" : Str) = en 15; decide +kernel, rfl⟩
  rw [h2]
  refine iteF ?_
  have ebad : op = none → ∀ G' : Hp, CmpV K G' (cmpC cs (.rewrite z op con)) "InvalidPath" .non := fun e G' => by
    have he : cmpC cs (.rewrite z op con) = .error .path := by
      dsimp only [cmpC]
      rw [h1, e]
    rw [he]
    exact ⟨by show ("InvalidPath" : Str) = en 2; decide +kernel, rfl⟩
  have hk60 : okp pt = false → op = none := fun e => by
    rcases hpt.2 with ⟨h, _⟩ | ⟨p, rfl, rfl, hp⟩
    · exact h
    · rw [okp_ptx hp] at e
      cases e
  have hzl : pt.length ≤ sizeLine := Nat.le_trans hpt.1 (by decide)
  have hpe : pt = sL pt.cps.toList := (sL_eta pt).symm
  have hka := okp_all pt.cps.toList
  rw [← hpe] at hka
  have hpl : pt.cps.toList.length = pt.length := rfl
  refine ⟨_, rfl, q, _, 2, _, rfl, rfl, hq, rfl, _, rfl, hzl, _, _, rfl, rfl, _, rfl, ?_⟩
  by_cases c1 : 60 < pt.length
  · refine ite_yes (decide_eq_true (by show (60 : Int) < (pt.length : Int); omega)) (iteT ⟨two_le, fin (w0 := "InvalidPath") (v0 := .non) (Same.refl _) fun G' s' => ebad (hk60 ?_) G'⟩)
    rw [hka, decide_eq_false (by omega), Bool.false_and]
  rw [decide_eq_true (by omega : pt.cps.toList.length ≤ 60), Bool.true_and] at hka
  refine ite_no (decide_eq_false (by show ¬ (60 : Int) < (pt.length : Int); omega)) ?_
  refine ⟨_, rfl, q, _, 2, _, rfl, rfl, hq, rfl, _, rfl, fun D nD => lc_it walk_str (fun i G => Same H G ∧ G D = some (.lst ((pt.cps.toList.take i).map fun c => V.bl (decide (c ∈ S01))))) ⟨Same.new nD _, upd_same⟩ (fun i G _ _ => trivial) ?_ ?_⟩
  · rintro i v1 G1 G2 hi ⟨sG, hD⟩ ⟨rfl, c, hc, rfl⟩
    have hc : pt.cps.toList[i]? = some c := by
      rw [Array.getElem?_toList]
      exact hc
    refine ⟨rfl, ?_⟩
    refine ⟨_, rfl, c, _, rfl, rfl, _, hD, (by rw [List.length_map, List.length_take]; exact small1000 (by omega)), fun b o e => ?_, ?_⟩
    · rw [upd_ne (ne_of_none e nD)]
      exact sG _ _ e
    · rw [upd_same, List.take_add_one, hc, List.map_append]
      rfl
  · rintro G ⟨sG, hD⟩
    have hf : pt.cps.toList.take pt.cps.size = pt.cps.toList := List.take_of_length_le (Nat.le_refl _)
    rw [hf] at hD
    have hq := (Tp.same sG).sqT hq
    have ht := ta_mono (Tp.same sG) ht
    have hk := sG _ _ hk
    refine ⟨D, pt.cps.toList.map fun c => decide (c ∈ S01), rfl, SqL.here (by rw [List.map_map]; exact hD), ?_⟩
    refine ⟨okp pt, congrArg V.bl (by rw [List.all_map]; exact hka.symm), ?_⟩
    rcases hpt.2 with ⟨e1, e2⟩ | ⟨p, rfl, rfl, hp⟩
    · rw [e2]
      exact iteT ⟨two_le, fin (w0 := "InvalidPath") (v0 := .non) sG fun G' s' => ebad e1 G'⟩
    rw [okp_ptx hp]
    refine iteF ?_
    have g1 := DGet.k (k := nmK z) hk
    rw [h2] at g1
    have hf1 : t.sz ≤ 12 ∧ t.dp ≤ 6 := hok.fit _ (lk_mem h1)
    refine ⟨_, rfl, _, rfl, q, _, 1, _, rfl, rfl, hq, rfl, d, _, rfl, g1, _, rfl, _, rfl, q, _, 2, _, rfl, rfl, hq, rfl, v, t, p, rfl, ht, by omega, fun e G1 s1 => ?_, fun u e x G1 hx s1 => ?_⟩
    · refine ⟨rfl, _, rfl, iteT ⟨two_le, fin (w0 := "PathNotFound") (v0 := .non) (sG.trans s1) fun G' s' => ?_⟩⟩
      have he : cmpC cs (.rewrite z (some p) con) = .error .pnf := by
        dsimp only [cmpC]
        rw [h1]
        dsimp only
        rw [e]
      rw [he]
      exact ⟨by show ("PathNotFound" : Str) = en 3; decide +kernel, rfl⟩
    · have hxn : decide (x = V.non) = false := by
        obtain ⟨_, _, rfl, _⟩ := ta_inv hx
        exact decide_eq_false fun z => by cases z
      refine ⟨rfl, _, rfl, ite_no hxn ?_⟩
      have hq1 := (Tp.same s1).sqT hq
      have he0 : cmpC cs (.rewrite z (some p) con) = match t.rwt (!con) p with
          | none => .error .nrw
          | some t' => if fitsT t' = true then .ok t' else .error (.big t'.sz) := by
        dsimp only [cmpC]
        rw [h1]
        dsimp only
        rw [e] <;> rfl
      refine ⟨_, rfl, _, rfl, q, _, 2, _, rfl, rfl, hq1, rfl, ?_⟩
      refine ⟨_, rfl, q, _, 3, _, rfl, rfl, hq1, rfl, con, rfl, v, t, p, !con, rfl, ta_mono (Tp.same s1) ht, by omega, by have := hsh p rfl; omega, by decide, fun en0 G2 s2 => ?_, fun t' et x2 G2 hx2 s2 => ?_⟩
      · refine ⟨_, rfl, rfl, _, rfl, iteT ⟨two_le, fin (w0 := "NotRewritable") (v0 := .non) ((sG.trans s1).trans s2) fun G' s' => ?_⟩⟩
        rw [he0, en0]
        exact ⟨by show ("NotRewritable" : Str) = en 4; decide +kernel, rfl⟩
      · have hxn2 : decide (x2 = V.non) = false := by
          obtain ⟨_, _, rfl, _⟩ := ta_inv hx2
          exact decide_eq_false fun z => by cases z
        rw [et] at he0
        have he0 : cmpC cs (.rewrite z (some p) con) = if fitsT t' = true then .ok t' else .error (.big t'.sz) := he0
        have hdp : t'.dp < 40 := by have := Tree.rwt_dp et; omega
        refine ⟨_, rfl, rfl, _, rfl, ite_no hxn2 ⟨_, rfl, x2, t', 12, rfl, hx2, hdp, fun G3 s3 => ?_⟩⟩
        rw [fitE]
        have sH := ((sG.trans s1).trans s2).trans s3
        cases ef : fitsT t' with
        | true =>
          rw [if_pos ef] at he0
          refine ⟨_, rfl, iteT ⟨_, rfl, two_le, fin (w0 := "") (v0 := x2) sH fun G' s' => ?_⟩⟩
          rw [he0]
          exact ⟨rfl, ta_mono (Tp.same (s3.trans s')) hx2, fitsT_iff.mp ef⟩
        | false =>
          rw [if_neg (by rw [ef]; decide)] at he0
          refine ⟨_, rfl, iteF ⟨_, rfl, x2, t', rfl, ta_mono (Tp.same s3) hx2, hdp, by decide, fun G4 s4 => ⟨two_le, fin (w0 := "TooLarge") (v0 := .int (t'.sz : Nat)) (sH.trans s4) fun G' s' => ?_⟩⟩⟩
          rw [he0]
          exact ⟨by show ("TooLarge" : Str) = en 5; decide +kernel, rfl⟩

abbrev s__law_result : Stmt := top 83
theorem sc__law_result : FnScope ["_law_current", "_law_command_here", "_law_later", "_law_result_here", "_law_word", "_law_term_here"] ["_law_current", "_law_command_here"] (defScope s__law_result) := ⟨rfl, rfl, rfl, by decide +kernel, rfl, by decide +kernel, by decide +kernel⟩
theorem ok__law_result {f1 f2 f3 f4 f5 f6 f7 f8 f9 f10 f11 f12 : Addr} {e1 e2 e3 e4 e5 e6 e7 e8 e9 e10 e11 e12 : FuncData} (d__law_result : D K mg "_law_result" s__law_result ["_law_current", "_law_command_here"] f fd) (B : Blt mg) (d__law_subterm : D K mg "_law_subterm" s__law_subterm ["_law_term_here", "_law_spot"] f1 e1) (d__law_expanded : D K mg "_law_expanded" s__law_expanded ["_law_some"] f2 e2) (d__law_replace : D K mg "_law_replace" s__law_replace ["_law_term_here", "_law_spot", "_law_new"] f3 e3) (d__law_contracted : D K mg "_law_contracted" s__law_contracted ["_law_some"] f4 e4) (d__law_rewrite : D K mg "_law_rewrite" s__law_rewrite ["_law_term_here", "_law_spot", "_law_onward"] f5 e5) (d__law_size : D K mg "_law_size" s__law_size ["_law_term_here"] f6 e6) (d__law_depth : D K mg "_law_depth" s__law_depth ["_law_term_here"] f7 e7) (d__law_fits : D K mg "_law_fits" s__law_fits ["_law_term_here", "_law_top"] f8 e8) (d__law_rewrite_result : D K mg "_law_rewrite_result" s__law_rewrite_result ["_law_current", "_law_command_here"] f9 e9) (d__law_computed : D K mg "_law_computed" s__law_computed ["_law_current", "_law_command_here"] f10 e10) (d__law_is_label : D K mg "_law_is_label" s__law_is_label ["_law_label"] f11 e11) (d__law_is_tree : D K mg "_law_is_tree" s__law_is_tree ["_law_term_here"] f12 e12) : FnOk P w K mg base CX0 44 f fd ["_law_current", "_law_command_here"] (spRes K) := by
  have G__law_rewrite_result : FnOk P w K mg base CX0 43 f9 e9 ["_law_current", "_law_command_here"] (spRwr K) := ok__law_rewrite_result d__law_rewrite_result B d__law_subterm d__law_expanded d__law_replace d__law_contracted d__law_rewrite d__law_size d__law_depth d__law_fits
  have G__law_computed : FnOk P w K mg base CX0 42 f10 e10 ["_law_current", "_law_command_here"] (spCmp K) := ok__law_computed d__law_computed B d__law_is_tree d__law_size d__law_depth d__law_fits
  have G__law_is_label : FnOk P w K mg base CX0 1 f11 e11 ["_law_label"] spLIsL := ok__law_is_label d__law_is_label B
  refine d__law_result.F.ok sc__law_result (fun vs H Q E h => ?_) (fun cdv A outer s H vs Q E hr h => ?_)
  · obtain ⟨_, _, _, _, rfl, _⟩ := h
    rfl
  obtain ⟨d, q, cs, c, rfl, hd, hok, hc, hF, hSh, qR⟩ := h
  refine ⟨_, (pss_cons (ps_set (i := 2) sc__law_result.nd rfl (Or.inl rfl) (pe_callTy call_dictD (by rfl) B.dict (by decide +kernel) (pa_cons (pv 0) pa_nil)))
 (pss_cons (ps_if (pt_cmpR op_eq (pe_ix ix_tup (pv 1) pe_int (fun _ _ => rfl)) pe_str (nomark _)) (pss_cons (ps_if (pt_cmp (pc_dnotin (hu_of hr) (pe_ix ix_tup (pv 1) pe_int (fun _ _ => rfl)) (pv 0)) (by with_unfolding_all rfl)) (pss_one (ps_ret (pe_tup (pa_cons (pe_tup (pa_cons pe_str (pa_cons (pe_ix ix_tup (pv 1) pe_int (fun _ _ => rfl)) pa_nil))) (pa_cons (pv 0) pa_nil))))) pss_nil)
 (pss_cons (ps_set (i := 3) sc__law_result.nd rfl (Or.inl rfl) (pe_dpop1 (pv 2) (pe_ix ix_tup (pv 1) pe_int (fun _ _ => rfl)) ⟨rfl, rfl, rfl, rfl⟩))
 (pss_one (ps_ret (pe_tup (pa_cons (pe_tup (pa_cons pe_str (pa_cons (pv 3) pa_nil))) (pa_cons (pv 2) pa_nil))))))) pss_nil)
 (C8.pss_cut (ps_if (pt_cmpR op_eq (pe_ix ix_tup (pv 1) pe_int (fun _ _ => rfl)) pe_str (nomark _)) (pss_one (ps_asg (pe_call G__law_rewrite_result (hr.mono (by decide)) rfl d__law_rewrite_result.m d__law_rewrite_result.F.kp d__law_rewrite_result.b .nil pass0 (pa_cons (pv 0) (pa_cons (pv 1) pa_nil))) (pg_tup (by rfl) (pgs_cons (pg_name (i := 4) sc__law_result.nd rfl (Or.inl rfl)) (pgs_cons (pg_name (i := 5) sc__law_result.nd rfl (Or.inl rfl)) pgs_nil))))) (pss_cons (ps_if (pt_not (pt_val (pe_call G__law_is_label (hr.mono (by decide)) rfl d__law_is_label.m d__law_is_label.F.kp d__law_is_label.b .nil pass0 (pa_cons (pe_ix ix_tup (pv 1) pe_int (fun _ _ => rfl)) pa_nil)))) (pss_one (ps_ret (pe_tup (pa_cons (pe_tup (pa_cons pe_str (pa_cons pe_non pa_nil))) (pa_cons (pv 0) pa_nil))))) pss_nil)
 (pss_cons (ps_if (pt_cmp (pc_din (hu_of hr) (pe_ix ix_tup (pv 1) pe_int (fun _ _ => rfl)) (pv 0)) (by with_unfolding_all rfl)) (pss_one (ps_ret (pe_tup (pa_cons (pe_tup (pa_cons pe_str (pa_cons (pe_ix ix_tup (pv 1) pe_int (fun _ _ => rfl)) pa_nil))) (pa_cons (pv 0) pa_nil))))) pss_nil)
 (pss_cons (ps_asg (pe_call G__law_computed (hr.mono (by decide)) rfl d__law_computed.m d__law_computed.F.kp d__law_computed.b .nil pass0 (pa_cons (pv 0) (pa_cons (pv 1) pa_nil))) (pg_tup (by rfl) (pgs_cons (pg_name (i := 4) sc__law_result.nd rfl (Or.inl rfl)) (pgs_cons (pg_name (i := 5) sc__law_result.nd rfl (Or.inl rfl)) pgs_nil))))
 (pss_one (ps_if (PW.pt (pw_and (pt_cmpR op_eq (pv 4) pe_str (nomark _)) (pw_and1 (pt_cmpR op_gt (pe_callB call_lenD (by rfl) B.len PySem.boot_len (pa_cons (pv 0) pa_nil)) pe_int (nomark _))))) (pss_one (ps_ret (pe_tup (pa_cons (pe_tup (pa_cons pe_str (pa_cons pe_non pa_nil))) (pa_cons (pv 0) pa_nil))))) pss_nil))))))
 (pss_cons (ps_if (pt_cmpR op_ne (pv 4) pe_str (nomark _)) (pss_one (ps_ret (pe_tup (pa_cons (pe_tup (pa_cons (pv 4) (pa_cons (pv 5) pa_nil))) (pa_cons (pv 0) pa_nil))))) pss_nil)
 (pss_cons (ps_dput (Nat.lt_of_le_of_lt (Nat.add_le_add_left (by decide) _) hr.units) (pv 2) (pe_ix ix_tup (pv 1) pe_int (fun _ _ => rfl)) (pv 5) (by rfl))
 (pss_one (ps_ret (pe_tup (pa_cons (pe_tup (pa_cons pe_str (pa_cons pe_non pa_nil))) (pa_cons (pv 2) pa_nil)))))))))), ?_⟩
  obtain ⟨kvs, hk, hK⟩ := id hd
  have hkl : kvs.length ≤ 1000 := by have := hK.len; have := hok.len; omega
  have en_ne : ∀ j, j < 20 → ¬ en j = "" := by decide +kernel
  have seW_ne : ∀ e : SE, ¬ seW e = "" := fun e => by cases e <;> exact en_ne _ (by decide)
  have finE : ∀ (e : SE), appC cs c = .error e → ∀ {G : Hp}, Same H G → ∀ {w0 : Str} {v0 : V}, w0 = seW e → v0 = seV e → ∀ p0, G p0 = none → ∀ p, (upd G p0 (.tup [.str w0, v0])) p = none → Q (.ref p) (upd (upd G p0 (.tup [.str w0, v0])) p (.tup [.ref p0, .ref d])) := by
    intro e he G sG w0 v0 ew ev p0 np0 p np
    have s1 := Same.new np0 (.tup [.str w0, v0])
    have s2 := Same.new np (.tup [.ref p0, .ref d])
    have hp0 : SqT K (upd (upd G p0 (.tup [.str w0, v0])) p (.tup [.ref p0, .ref d])) p0 [.str w0, v0] := (Tp.same s2).sqT (SqT.here upd_same)
    refine qR p p0 d _ (sG.trans (s1.trans s2)) (SqT.here upd_same) ?_ ⟨v0, ?_⟩ ?_
    · unfold outR
      rw [he]
      rw [ew, ev] at hp0
      exact Dp.tup (by rw [ew, ev]; exact hp0) (.cons (.str _) (.cons (se_dp e) .nil))
    · rw [show okC cs c = false by unfold okC; rw [he], if_neg Bool.false_ne_true, he]
      show SqT K _ p0 [V.str (seW e), v0]
      rw [← ew]
      exact hp0
    · rw [show nxC cs c = cs by unfold nxC; rw [he]]
      exact hd.same (sG.trans (s1.trans s2))
  have finO : ∀ cs', appC cs c = .ok cs' → ∀ {G : Hp}, Same H G → ∀ {v0 : V} {D : Addr}, (∀ G', Same G G' → Dp K G' v0 (cmR cs c)) → CtA K G D cs' → ∀ p0, G p0 = none → ∀ p, (upd G p0 (.tup [.str "value", v0])) p = none → Q (.ref p) (upd (upd G p0 (.tup [.str "value", v0])) p (.tup [.ref p0, .ref D])) := by
    intro cs' he G sG v0 D hv hDc p0 np0 p np
    have s1 := Same.new np0 (.tup [.str "value", v0])
    have s2 := Same.new np (.tup [.ref p0, .ref D])
    have hp0 : SqT K (upd (upd G p0 (.tup [.str "value", v0])) p (.tup [.ref p0, .ref D])) p0 [.str "value", v0] := (Tp.same s2).sqT (SqT.here upd_same)
    refine qR p p0 D _ (sG.trans (s1.trans s2)) (SqT.here upd_same) ?_ ⟨v0, ?_⟩ ?_
    · unfold outR
      rw [he]
      exact Dp.tup hp0 (.cons (.str _) (.cons (hv _ (s1.trans s2)) .nil))
    · rw [show okC cs c = true by unfold okC; rw [he], if_pos rfl]
      exact hp0
    · rw [show nxC cs c = cs' by unfold nxC; rw [he]]
      exact hDc.same (s1.trans s2)
  refine ⟨_, rfl, d, kvs, rfl, .inl hk, fun D nD => ?_⟩
  have s01 : Same H (upd H D (.dK kvs)) := Same.new nD _
  have hD1 : (upd H D (.dK kvs)) D = some (.dK kvs) := upd_same
  have hk1 := s01 _ _ hk
  have hd1 := hd.same s01
  generalize hH1 : (upd H D (.dK kvs)) = H1 at *
  cases c with
  | delete z =>
    have hq : SqT K H q _ := hc
    have hq1 := (Tp.same s01).sqT hq
    have hD1' := hD1
    refine ⟨_, rfl, q, _, 0, _, rfl, rfl, hq1, rfl, rfl, _, rfl, ite_yes (by decide +kernel) ⟨_, rfl, q, _, 1, _, rfl, rfl, hq1, rfl, _, rfl, d, _, rfl, DGet.k (k := nmK z) hk1, _, rfl, ?_⟩⟩
    rcases hK.val z with ⟨h1, h2⟩ | ⟨t, v, h1, h2, ht⟩
    · rw [h2]
      have he : appC cs (.delete z) = .error (.unk z) := by
        show opDel cs z = _
        unfold opDel
        rw [h1]
      refine iteT ⟨_, rfl, q, _, 1, _, rfl, rfl, hq1, rfl, two_le, fun p0 np0 => ⟨_, rfl, two_le, fun p np => finE (.unk z) he s01 (by show ("UnknownName" : Str) = en 15; decide +kernel) rfl p0 np0 p np⟩⟩
    · rw [h2]
      have he : appC cs (.delete z) = .ok (dropC cs z) := by
        show opDel cs z = _
        unfold opDel
        rw [h1]
      refine iteF ⟨_, rfl, D, rfl, .inl ⟨_, .inl hD1⟩, _, rfl, q, _, 1, _, rfl, rfl, hq1, rfl, kvs, nmK z, v, hD1, rfl, h2, ?_⟩
      have sE : Same H (upd H1 D (.dK (dropK kvs (nmK z)))) := fun b o e => by
        rw [upd_ne (ne_of_none e nD)]
        exact s01 _ _ e
      refine ⟨_, rfl, two_le, fun p0 np0 => ⟨_, rfl, two_le, fun p np => finO (dropC cs z) he sE (fun G' s' => ?_) ⟨_, upd_same, (hK.tp (Tp.same sE)).drop⟩ p0 np0 p np⟩⟩
      show Dp K G' v (cmR cs (.delete z))
      rw [show cmR cs (.delete z) = t.d by show (match lkC cs z with | some t => t.d | none => .none) = _; rw [h1]]
      exact ta_mono (Tp.same (sE.trans s')) ht
  | rewrite z op con =>
    have hc0 := hc
    obtain ⟨pt, hq, hpt⟩ := hc
    have hq1 := (Tp.same s01).sqT hq
    refine ⟨_, rfl, q, _, 0, _, rfl, rfl, hq1, rfl, rfl, _, rfl, ite_no (by decide +kernel) ⟨fun σ G => ∃ (w : Str) (v : V) (r : Except SE Tree), σ = [some (.ref d), some (.ref q), some (.ref D), none, some (.str w), some v] ∧ Same H1 G ∧ CmpV K G r w v ∧ appC cs (.rewrite z op con) = match r with | .error e => .error e | .ok t => .ok (putC cs z t), ?_, ?_⟩⟩
    · refine ⟨_, rfl, q, _, 0, _, rfl, rfl, hq1, rfl, rfl, _, rfl, ite_yes (by decide +kernel) ⟨_, rfl, _, rfl, d, q, cs, z, op, con, rfl, hd1, hok, hc0.tp (Tp.same s01) hF, hSh, fun p w v G s1 hp hC => ?_⟩⟩
      exact ⟨p, _, rfl, hp, rfl, V.str w, [v], rfl, v, [], rfl, rfl, w, v, cmpC cs (.rewrite z op con), rfl, s1, hC, app_rw⟩
    · rintro σ G ⟨w, v, r, rfl, s1, hC, hA⟩
      have sG := s01.trans s1
      have hqG := (Tp.same sG).sqT hq
      cases r with
      | error e =>
        obtain ⟨rfl, rfl⟩ := hC
        refine ⟨_, rfl, rfl, _, rfl, ite_yes (by rw [decide_eq_false (fun h => seW_ne e (V.str.inj h))]; rfl) ?_⟩
        exact ⟨_, rfl, _, rfl, two_le, fun p0 np0 => ⟨_, rfl, two_le, fun p np => finE e hA sG rfl rfl p0 np0 p np⟩⟩
      | ok t =>
        obtain ⟨rfl, htv, _, _⟩ := hC
        refine ⟨_, rfl, rfl, _, rfl, ite_no rfl ?_⟩
        have hDG := s1 _ _ hD1
        have sE : Same H (upd G D (.dK (putK kvs (nmK z) v))) := fun b o e => by
          rw [upd_ne (ne_of_none e nD)]
          exact sG _ _ e
        have sEG : Tp G (upd G D (.dK (putK kvs (nmK z) v))) := fun b xs h => by
          rcases h with h | ⟨o, h⟩
          · exact .inl (by rw [upd_ne (fun e => by subst e; rw [hDG] at h; cases h)]; exact h)
          · exact .inr ⟨o, by rw [upd_ne (fun e => by subst e; rw [hDG] at h; cases h)]; exact h⟩
        refine ⟨_, rfl, _, rfl, _, rfl, q, _, 1, _, rfl, rfl, hqG, rfl, D, _, rfl, DPut.k (k := nmK z) hDG (small1000 hkl), ?_⟩
        refine ⟨two_le, fun p0 np0 => ⟨_, rfl, two_le, fun p np => finO (putC cs z t) hA sE (fun G' s' => .non) ⟨_, upd_same, CtAll.put (hK.tp (Tp.same sE)) (ta_mono sEG htv)⟩ p0 np0 p np⟩⟩

  | add z ot =>
    have hc0 := hc
    obtain ⟨v0, hq, hO⟩ := hc
    have hq1 := (Tp.same s01).sqT hq
    refine ⟨_, rfl, q, _, 0, _, rfl, rfl, hq1, rfl, rfl, _, rfl, ite_no (by decide +kernel) ⟨fun σ G => ∃ (w : Str) (v : V) (r : Except SE Tree), σ = [some (.ref d), some (.ref q), some (.ref D), none, some (.str w), some v] ∧ Same H1 G ∧ CmpV K G r w v ∧ appC cs (.add z ot) = match r with | .error e => .error e | .ok t => .ok (putC cs z t), ?_, ?_⟩⟩
    · have hap : appC cs (.add z ot) = _ := app_mk (z := z) rfl
      refine ⟨_, rfl, q, _, 0, _, rfl, rfl, hq1, rfl, rfl, _, rfl, ite_no (by decide +kernel) ⟨_, rfl, q, _, 1, _, rfl, rfl, hq1, rfl, z, rfl, hF.1, fun G1 s1 => ⟨_, rfl, ?_⟩⟩⟩
      have sG1 := s01.trans s1
      have hq2 := (Tp.same s1).sqT hq1
      cases hl : isLb z with
      | false =>
        have he : appC cs (.add z ot) = .error .lab := by
          rw [hap]
          unfold chkL
          rw [if_pos hl]
        exact iteT ⟨two_le, fun p0 np0 => ⟨_, rfl, two_le, fun p np => finE .lab he sG1 (by show ("InvalidLabel" : Str) = en 13; decide +kernel) rfl p0 np0 p np⟩⟩
      | true =>
        have hk2 := s1 _ _ hk1
        refine iteF ⟨_, rfl, q, _, 1, _, rfl, rfl, hq2, rfl, _, rfl, d, _, rfl, DGet.k (k := nmK z) hk2, _, rfl, ?_⟩
        rcases hK.val z with ⟨h1, h2⟩ | ⟨t, v, h1, h2, ht⟩
        · rw [h2]
          have hch : chkL cs z = none := by
            unfold chkL
            rw [if_neg (by rw [hl]; decide), lk_has, h1]
            rfl
          rw [hch] at hap
          have hap : appC cs (.add z ot) = match cmpC cs (.add z ot) with
              | .error e => .error e
              | .ok t => withN cs z t := hap
          refine iteF ⟨_, rfl, _, rfl, d, q, cs, .add z ot, rfl, hd1.same s1, hok, hc0.tp (Tp.same sG1) hF, hF, rfl, fun p w v G s2 hp hC => ?_⟩
          refine ⟨p, _, rfl, hp, rfl, V.str w, [v], rfl, v, [], rfl, rfl, ?_⟩
          refine ⟨_, rfl, rfl, _, rfl, ?_⟩
          cases hcm : cmpC cs (.add z ot) with
          | error e =>
            rw [hcm] at hC hap
            obtain ⟨rfl, rfl⟩ := hC
            exact ite_no (decide_eq_false (fun h => seW_ne e (V.str.inj h))) (iteF ⟨_, _, .error e, rfl, s1.trans s2, ⟨rfl, rfl⟩, hap⟩)
          | ok t =>
            rw [hcm] at hC hap
            obtain ⟨rfl, htv, hts, htd⟩ := hC
            refine ite_yes rfl ⟨_, rfl, d, kvs, rfl, s2 _ _ hk2, _, _, rfl, rfl, _, rfl, ?_⟩
            have hap : appC cs (.add z ot) = withN cs z t := hap
            unfold withN at hap
            by_cases c12 : 12 ≤ cs.length
            · rw [if_pos c12] at hap
              exact ite_yes (decide_eq_true (by show (11 : Int) < (kvs.length : Int); have := hK.len; omega)) ⟨two_le, fun p0 np0 => ⟨_, rfl, two_le, fun p np => finE .lim hap (sG1.trans s2) (by show ("LimitReached" : Str) = en 16; decide +kernel) rfl p0 np0 p np⟩⟩
            · rw [if_neg c12] at hap
              exact ite_no (decide_eq_false (by show ¬ (11 : Int) < (kvs.length : Int); have := hK.len; omega)) ⟨_, _, .ok t, rfl, s1.trans s2, ⟨rfl, htv, hts, htd⟩, hap⟩
        · rw [h2]
          have he : appC cs (.add z ot) = .error (.dup z) := by
            rw [hap]
            unfold chkL
            rw [if_neg (by rw [hl]; decide), if_pos (by rw [lk_has, h1]; rfl)]
          exact iteT ⟨_, rfl, q, _, 1, _, rfl, rfl, hq2, rfl, two_le, fun p0 np0 => ⟨_, rfl, two_le, fun p np => finE (.dup z) he sG1 (by show ("DuplicateName" : Str) = en 14; decide +kernel) rfl p0 np0 p np⟩⟩
    · rintro σ G ⟨w, v, r, rfl, s1, hC, hA⟩
      have sG := s01.trans s1
      have hqG := (Tp.same sG).sqT hq
      cases r with
      | error e =>
        obtain ⟨rfl, rfl⟩ := hC
        refine ⟨_, rfl, rfl, _, rfl, ite_yes (by rw [decide_eq_false (fun h => seW_ne e (V.str.inj h))]; rfl) ?_⟩
        exact ⟨_, rfl, _, rfl, two_le, fun p0 np0 => ⟨_, rfl, two_le, fun p np => finE e hA sG rfl rfl p0 np0 p np⟩⟩
      | ok t =>
        obtain ⟨rfl, htv, _, _⟩ := hC
        refine ⟨_, rfl, rfl, _, rfl, ite_no rfl ?_⟩
        have hDG := s1 _ _ hD1
        have sE : Same H (upd G D (.dK (putK kvs (nmK z) v))) := fun b o e => by
          rw [upd_ne (ne_of_none e nD)]
          exact sG _ _ e
        have sEG : Tp G (upd G D (.dK (putK kvs (nmK z) v))) := fun b xs h => by
          rcases h with h | ⟨o, h⟩
          · exact .inl (by rw [upd_ne (fun e => by subst e; rw [hDG] at h; cases h)]; exact h)
          · exact .inr ⟨o, by rw [upd_ne (fun e => by subst e; rw [hDG] at h; cases h)]; exact h⟩
        refine ⟨_, rfl, _, rfl, _, rfl, q, _, 1, _, rfl, rfl, hqG, rfl, D, _, rfl, DPut.k (k := nmK z) hDG (small1000 hkl), ?_⟩
        refine ⟨two_le, fun p0 np0 => ⟨_, rfl, two_le, fun p np => finO (putC cs z t) hA sE (fun G' s' => .non) ⟨_, upd_same, CtAll.put (hK.tp (Tp.same sE)) (ta_mono sEG htv)⟩ p0 np0 p np⟩⟩

  | combine z l r2 =>
    have hc0 := hc
    have hq : SqT K H q _ := hc
    have hq1 := (Tp.same s01).sqT hq
    refine ⟨_, rfl, q, _, 0, _, rfl, rfl, hq1, rfl, rfl, _, rfl, ite_no (by decide +kernel) ⟨fun σ G => ∃ (w : Str) (v : V) (r : Except SE Tree), σ = [some (.ref d), some (.ref q), some (.ref D), none, some (.str w), some v] ∧ Same H1 G ∧ CmpV K G r w v ∧ appC cs (.combine z l r2) = match r with | .error e => .error e | .ok t => .ok (putC cs z t), ?_, ?_⟩⟩
    · have hap : appC cs (.combine z l r2) = _ := app_mk (z := z) rfl
      refine ⟨_, rfl, q, _, 0, _, rfl, rfl, hq1, rfl, rfl, _, rfl, ite_no (by decide +kernel) ⟨_, rfl, q, _, 1, _, rfl, rfl, hq1, rfl, z, rfl, hF.1, fun G1 s1 => ⟨_, rfl, ?_⟩⟩⟩
      have sG1 := s01.trans s1
      have hq2 := (Tp.same s1).sqT hq1
      cases hl : isLb z with
      | false =>
        have he : appC cs (.combine z l r2) = .error .lab := by
          rw [hap]
          unfold chkL
          rw [if_pos hl]
        exact iteT ⟨two_le, fun p0 np0 => ⟨_, rfl, two_le, fun p np => finE .lab he sG1 (by show ("InvalidLabel" : Str) = en 13; decide +kernel) rfl p0 np0 p np⟩⟩
      | true =>
        have hk2 := s1 _ _ hk1
        refine iteF ⟨_, rfl, q, _, 1, _, rfl, rfl, hq2, rfl, _, rfl, d, _, rfl, DGet.k (k := nmK z) hk2, _, rfl, ?_⟩
        rcases hK.val z with ⟨h1, h2⟩ | ⟨t, v, h1, h2, ht⟩
        · rw [h2]
          have hch : chkL cs z = none := by
            unfold chkL
            rw [if_neg (by rw [hl]; decide), lk_has, h1]
            rfl
          rw [hch] at hap
          have hap : appC cs (.combine z l r2) = match cmpC cs (.combine z l r2) with
              | .error e => .error e
              | .ok t => withN cs z t := hap
          refine iteF ⟨_, rfl, _, rfl, d, q, cs, .combine z l r2, rfl, hd1.same s1, hok, hc0.tp (Tp.same sG1) hF, hF, rfl, fun p w v G s2 hp hC => ?_⟩
          refine ⟨p, _, rfl, hp, rfl, V.str w, [v], rfl, v, [], rfl, rfl, ?_⟩
          refine ⟨_, rfl, rfl, _, rfl, ?_⟩
          cases hcm : cmpC cs (.combine z l r2) with
          | error e =>
            rw [hcm] at hC hap
            obtain ⟨rfl, rfl⟩ := hC
            exact ite_no (decide_eq_false (fun h => seW_ne e (V.str.inj h))) (iteF ⟨_, _, .error e, rfl, s1.trans s2, ⟨rfl, rfl⟩, hap⟩)
          | ok t =>
            rw [hcm] at hC hap
            obtain ⟨rfl, htv, hts, htd⟩ := hC
            refine ite_yes rfl ⟨_, rfl, d, kvs, rfl, s2 _ _ hk2, _, _, rfl, rfl, _, rfl, ?_⟩
            have hap : appC cs (.combine z l r2) = withN cs z t := hap
            unfold withN at hap
            by_cases c12 : 12 ≤ cs.length
            · rw [if_pos c12] at hap
              exact ite_yes (decide_eq_true (by show (11 : Int) < (kvs.length : Int); have := hK.len; omega)) ⟨two_le, fun p0 np0 => ⟨_, rfl, two_le, fun p np => finE .lim hap (sG1.trans s2) (by show ("LimitReached" : Str) = en 16; decide +kernel) rfl p0 np0 p np⟩⟩
            · rw [if_neg c12] at hap
              exact ite_no (decide_eq_false (by show ¬ (11 : Int) < (kvs.length : Int); have := hK.len; omega)) ⟨_, _, .ok t, rfl, s1.trans s2, ⟨rfl, htv, hts, htd⟩, hap⟩
        · rw [h2]
          have he : appC cs (.combine z l r2) = .error (.dup z) := by
            rw [hap]
            unfold chkL
            rw [if_neg (by rw [hl]; decide), if_pos (by rw [lk_has, h1]; rfl)]
          exact iteT ⟨_, rfl, q, _, 1, _, rfl, rfl, hq2, rfl, two_le, fun p0 np0 => ⟨_, rfl, two_le, fun p np => finE (.dup z) he sG1 (by show ("DuplicateName" : Str) = en 14; decide +kernel) rfl p0 np0 p np⟩⟩
    · rintro σ G ⟨w, v, r, rfl, s1, hC, hA⟩
      have sG := s01.trans s1
      have hqG := (Tp.same sG).sqT hq
      cases r with
      | error e =>
        obtain ⟨rfl, rfl⟩ := hC
        refine ⟨_, rfl, rfl, _, rfl, ite_yes (by rw [decide_eq_false (fun h => seW_ne e (V.str.inj h))]; rfl) ?_⟩
        exact ⟨_, rfl, _, rfl, two_le, fun p0 np0 => ⟨_, rfl, two_le, fun p np => finE e hA sG rfl rfl p0 np0 p np⟩⟩
      | ok t =>
        obtain ⟨rfl, htv, _, _⟩ := hC
        refine ⟨_, rfl, rfl, _, rfl, ite_no rfl ?_⟩
        have hDG := s1 _ _ hD1
        have sE : Same H (upd G D (.dK (putK kvs (nmK z) v))) := fun b o e => by
          rw [upd_ne (ne_of_none e nD)]
          exact sG _ _ e
        have sEG : Tp G (upd G D (.dK (putK kvs (nmK z) v))) := fun b xs h => by
          rcases h with h | ⟨o, h⟩
          · exact .inl (by rw [upd_ne (fun e => by subst e; rw [hDG] at h; cases h)]; exact h)
          · exact .inr ⟨o, by rw [upd_ne (fun e => by subst e; rw [hDG] at h; cases h)]; exact h⟩
        refine ⟨_, rfl, _, rfl, _, rfl, q, _, 1, _, rfl, rfl, hqG, rfl, D, _, rfl, DPut.k (k := nmK z) hDG (small1000 hkl), ?_⟩
        refine ⟨two_le, fun p0 np0 => ⟨_, rfl, two_le, fun p np => finO (putC cs z t) hA sE (fun G' s' => .non) ⟨_, upd_same, CtAll.put (hK.tp (Tp.same sE)) (ta_mono sEG htv)⟩ p0 np0 p np⟩⟩

  | extract z s0' rt =>
    have hc0 := hc
    have hq : SqT K H q _ := hc
    have hq1 := (Tp.same s01).sqT hq
    refine ⟨_, rfl, q, _, 0, _, rfl, rfl, hq1, rfl, rfl, _, rfl, ite_no (by decide +kernel) ⟨fun σ G => ∃ (w : Str) (v : V) (r : Except SE Tree), σ = [some (.ref d), some (.ref q), some (.ref D), none, some (.str w), some v] ∧ Same H1 G ∧ CmpV K G r w v ∧ appC cs (.extract z s0' rt) = match r with | .error e => .error e | .ok t => .ok (putC cs z t), ?_, ?_⟩⟩
    · have hap : appC cs (.extract z s0' rt) = _ := app_mk (z := z) rfl
      refine ⟨_, rfl, q, _, 0, _, rfl, rfl, hq1, rfl, rfl, _, rfl, ite_no (by decide +kernel) ⟨_, rfl, q, _, 1, _, rfl, rfl, hq1, rfl, z, rfl, hF.1, fun G1 s1 => ⟨_, rfl, ?_⟩⟩⟩
      have sG1 := s01.trans s1
      have hq2 := (Tp.same s1).sqT hq1
      cases hl : isLb z with
      | false =>
        have he : appC cs (.extract z s0' rt) = .error .lab := by
          rw [hap]
          unfold chkL
          rw [if_pos hl]
        exact iteT ⟨two_le, fun p0 np0 => ⟨_, rfl, two_le, fun p np => finE .lab he sG1 (by show ("InvalidLabel" : Str) = en 13; decide +kernel) rfl p0 np0 p np⟩⟩
      | true =>
        have hk2 := s1 _ _ hk1
        refine iteF ⟨_, rfl, q, _, 1, _, rfl, rfl, hq2, rfl, _, rfl, d, _, rfl, DGet.k (k := nmK z) hk2, _, rfl, ?_⟩
        rcases hK.val z with ⟨h1, h2⟩ | ⟨t, v, h1, h2, ht⟩
        · rw [h2]
          have hch : chkL cs z = none := by
            unfold chkL
            rw [if_neg (by rw [hl]; decide), lk_has, h1]
            rfl
          rw [hch] at hap
          have hap : appC cs (.extract z s0' rt) = match cmpC cs (.extract z s0' rt) with
              | .error e => .error e
              | .ok t => withN cs z t := hap
          refine iteF ⟨_, rfl, _, rfl, d, q, cs, .extract z s0' rt, rfl, hd1.same s1, hok, hc0.tp (Tp.same sG1) hF, hF, rfl, fun p w v G s2 hp hC => ?_⟩
          refine ⟨p, _, rfl, hp, rfl, V.str w, [v], rfl, v, [], rfl, rfl, ?_⟩
          refine ⟨_, rfl, rfl, _, rfl, ?_⟩
          cases hcm : cmpC cs (.extract z s0' rt) with
          | error e =>
            rw [hcm] at hC hap
            obtain ⟨rfl, rfl⟩ := hC
            exact ite_no (decide_eq_false (fun h => seW_ne e (V.str.inj h))) (iteF ⟨_, _, .error e, rfl, s1.trans s2, ⟨rfl, rfl⟩, hap⟩)
          | ok t =>
            rw [hcm] at hC hap
            obtain ⟨rfl, htv, hts, htd⟩ := hC
            refine ite_yes rfl ⟨_, rfl, d, kvs, rfl, s2 _ _ hk2, _, _, rfl, rfl, _, rfl, ?_⟩
            have hap : appC cs (.extract z s0' rt) = withN cs z t := hap
            unfold withN at hap
            by_cases c12 : 12 ≤ cs.length
            · rw [if_pos c12] at hap
              exact ite_yes (decide_eq_true (by show (11 : Int) < (kvs.length : Int); have := hK.len; omega)) ⟨two_le, fun p0 np0 => ⟨_, rfl, two_le, fun p np => finE .lim hap (sG1.trans s2) (by show ("LimitReached" : Str) = en 16; decide +kernel) rfl p0 np0 p np⟩⟩
            · rw [if_neg c12] at hap
              exact ite_no (decide_eq_false (by show ¬ (11 : Int) < (kvs.length : Int); have := hK.len; omega)) ⟨_, _, .ok t, rfl, s1.trans s2, ⟨rfl, htv, hts, htd⟩, hap⟩
        · rw [h2]
          have he : appC cs (.extract z s0' rt) = .error (.dup z) := by
            rw [hap]
            unfold chkL
            rw [if_neg (by rw [hl]; decide), if_pos (by rw [lk_has, h1]; rfl)]
          exact iteT ⟨_, rfl, q, _, 1, _, rfl, rfl, hq2, rfl, two_le, fun p0 np0 => ⟨_, rfl, two_le, fun p np => finE (.dup z) he sG1 (by show ("DuplicateName" : Str) = en 14; decide +kernel) rfl p0 np0 p np⟩⟩
    · rintro σ G ⟨w, v, r, rfl, s1, hC, hA⟩
      have sG := s01.trans s1
      have hqG := (Tp.same sG).sqT hq
      cases r with
      | error e =>
        obtain ⟨rfl, rfl⟩ := hC
        refine ⟨_, rfl, rfl, _, rfl, ite_yes (by rw [decide_eq_false (fun h => seW_ne e (V.str.inj h))]; rfl) ?_⟩
        exact ⟨_, rfl, _, rfl, two_le, fun p0 np0 => ⟨_, rfl, two_le, fun p np => finE e hA sG rfl rfl p0 np0 p np⟩⟩
      | ok t =>
        obtain ⟨rfl, htv, _, _⟩ := hC
        refine ⟨_, rfl, rfl, _, rfl, ite_no rfl ?_⟩
        have hDG := s1 _ _ hD1
        have sE : Same H (upd G D (.dK (putK kvs (nmK z) v))) := fun b o e => by
          rw [upd_ne (ne_of_none e nD)]
          exact sG _ _ e
        have sEG : Tp G (upd G D (.dK (putK kvs (nmK z) v))) := fun b xs h => by
          rcases h with h | ⟨o, h⟩
          · exact .inl (by rw [upd_ne (fun e => by subst e; rw [hDG] at h; cases h)]; exact h)
          · exact .inr ⟨o, by rw [upd_ne (fun e => by subst e; rw [hDG] at h; cases h)]; exact h⟩
        refine ⟨_, rfl, _, rfl, _, rfl, q, _, 1, _, rfl, rfl, hqG, rfl, D, _, rfl, DPut.k (k := nmK z) hDG (small1000 hkl), ?_⟩
        refine ⟨two_le, fun p0 np0 => ⟨_, rfl, two_le, fun p np => finO (putC cs z t) hA sE (fun G' s' => .non) ⟨_, upd_same, CtAll.put (hK.tp (Tp.same sE)) (ta_mono sEG htv)⟩ p0 np0 p np⟩⟩


abbrev s__law_run : Stmt := top 84
theorem sc__law_run : FnScope ["_law_store", "_law_command_here"] ["_law_store", "_law_command_here"] (defScope s__law_run) := ⟨rfl, rfl, rfl, by decide +kernel, rfl, by decide +kernel, by decide +kernel⟩
theorem ok__law_run {C_Store u0 u1 u2 u3 u4 : Addr} {v0 v1 v2 v3 v4 : FuncData} {A0 : EAd} (d__law_run : D K mg "_law_run" s__law_run ["_law_store", "_law_command_here"] f fd) (T_Store : StT K mg C_Store)
    (d_Store_add : Mt K C_Store "add" "Store.add" s_Store_add ["self", "label", "term"] u0 v0) (d_Store_combine : Mt K C_Store "combine" "Store.combine" s_Store_combine ["self", "label", "left", "right"] u1 v1) (d_Store_delete : Mt K C_Store "delete" "Store.delete" s_Store_delete ["self", "label"] u4 v4)
    (mE : Meth K C_Store "extract" u2) (kbE : KBn K v2 ["self", "label", "source", "right"] 3 ["right"] (fun us ws => us ++ ws) (fun vs zs => vs ++ zs)) (mR : Meth K C_Store "rewrite" u3) (kbR : KBn K v3 ["self", "label", "path", "contract"] 3 ["contract"] (fun us ws => us ++ ws) (fun vs zs => vs ++ zs))
    (G_Store_add : FnOk P w K mg base (L2N.CX P w) 5 u0 v0 ["self", "label", "term"] (spSAdd K C_Store A0)) (G_Store_combine : FnOk P w K mg base (L2N.CX P w) 14 u1 v1 ["self", "label", "left", "right"] (spSCmb K C_Store A0)) (GEx : FnOk P w K mg base (L2N.CX P w) 5 u2 v2 ["self", "label", "source", "right"] (spSExt K C_Store A0))
    (GRw : FnOk P w K mg base (L2N.CX P w) 14 u3 v3 ["self", "label", "path", "contract"] (spSRwr K C_Store A0)) (G_Store_delete : FnOk P w K mg base (L2N.CX P w) 5 u4 v4 ["self", "label"] (spSDel K C_Store A0)) : FnOk P w K mg base (L2N.CX P w) 16 f fd ["_law_store", "_law_command_here"] (spRun K C_Store A0) := by
  have T := T_Store
  have n0 : ∀ {m : Str}, ¬ m = "contents" → ¬ m = "past" → ¬ m = "future" → ∀ c p f, (stf c p f).lookup m = none := fun h1 h2 h3 _ _ _ => stf_no _ _ _ h1 h2 h3
  have nAdd := n0 (m := "add") (by decide +kernel) (by decide +kernel) (by decide +kernel)
  have nCmb := n0 (m := "combine") (by decide +kernel) (by decide +kernel) (by decide +kernel)
  have nExt := n0 (m := "extract") (by decide +kernel) (by decide +kernel) (by decide +kernel)
  have nRwr := n0 (m := "rewrite") (by decide +kernel) (by decide +kernel) (by decide +kernel)
  have nDel := n0 (m := "delete") (by decide +kernel) (by decide +kernel) (by decide +kernel)
  refine Fun.okN d__law_run.F sc__law_run (fun vs H Q E h => ?_) (fun cdv A outer s H vs Q E hr h => ?_)
  · obtain ⟨_, _, _, _, rfl, _⟩ := h
    rfl
  obtain ⟨a, S, q, c, rfl, hSH, hc, hF, qE, qV⟩ := h
  obtain ⟨hS, hok, hl⟩ := hSH
  obtain ⟨dx, cc, ps, fs, hx, hC, hp, hP, hf, hFu, hpf⟩ := id hS
  refine ⟨_, (pss_cons (ps_if (pt_cmpR op_eq (pe_ix ix_tup (pv 1) pe_int (fun _ _ => rfl)) pe_str (nomark _)) (pss_one (ps_ret (pe_meth (pv 0) T_Store.cl d_Store_add.m G_Store_add (hr.mono (by decide)) d_Store_add.b .nil passD (pa_cons (pe_ix ix_tup (pv 1) pe_int (fun _ _ => rfl)) (pa_cons (pe_ix ix_tup (pv 1) pe_int (fun _ _ => rfl)) pa_nil))))) pss_nil)
 (pss_cons (ps_if (pt_cmpR op_eq (pe_ix ix_tup (pv 1) pe_int (fun _ _ => rfl)) pe_str (nomark _)) (pss_one (ps_ret (pe_meth (pv 0) T_Store.cl d_Store_combine.m G_Store_combine (hr.mono (by decide)) d_Store_combine.b .nil passD (pa_cons (pe_ix ix_tup (pv 1) pe_int (fun _ _ => rfl)) (pa_cons (pe_ix ix_tup (pv 1) pe_int (fun _ _ => rfl)) (pa_cons (pe_ix ix_tup (pv 1) pe_int (fun _ _ => rfl)) pa_nil)))))) pss_nil)
 (pss_cons (ps_if (pt_cmpR op_eq (pe_ix ix_tup (pv 1) pe_int (fun _ _ => rfl)) pe_str (nomark _)) (pss_one (ps_ret (pe_methN (ks := ["right"]) (n := 3) (pv 0) T.cl mE GEx (hr.mono (by decide)) kbE passD (pa_cons (pe_ix ix_tup (pv 1) pe_int (fun _ _ => rfl)) (pa_cons (pe_ix ix_tup (pv 1) pe_int (fun _ _ => rfl)) pa_nil)) (pk_cons (pe_ix ix_tup (pv 1) pe_int (fun _ _ => rfl)) pk_nil)))) pss_nil)
 (pss_cons (ps_if (pt_cmpR op_eq (pe_ix ix_tup (pv 1) pe_int (fun _ _ => rfl)) pe_str (nomark _)) (pss_one (ps_ret (pe_methN (ks := ["contract"]) (n := 3) (pv 0) T.cl mR GRw (hr.mono (by decide)) kbR passD (pa_cons (pe_ix ix_tup (pv 1) pe_int (fun _ _ => rfl)) (pa_cons (pe_ix ix_tup (pv 1) pe_int (fun _ _ => rfl)) pa_nil)) (pk_cons (pe_ix ix_tup (pv 1) pe_int (fun _ _ => rfl)) pk_nil)))) pss_nil)
 (pss_one (ps_ret (pe_meth (pv 0) T_Store.cl d_Store_delete.m G_Store_delete (hr.mono (by decide)) d_Store_delete.b .nil passD (pa_cons (pe_ix ix_tup (pv 1) pe_int (fun _ _ => rfl)) pa_nil)))))))), ?_⟩
  cases c with
  | add z ot =>
    obtain ⟨v, hq, hO⟩ := hc
    obtain ⟨hz, _⟩ := hF
    refine ⟨_, rfl, q, _, 0, _, rfl, rfl, hq, rfl, rfl, _, rfl, ite_yes (by decide +kernel) ?_⟩
    refine ⟨_, rfl, a.x, dx, _, rfl, hx, nAdd _ _ _, _, rfl, q, _, 1, _, rfl, rfl, hq, rfl, _, rfl, q, _, 2, _, rfl, rfl, hq, rfl, a, S, z, v, ot, rfl, ⟨hS, hok, hl⟩, hz, hO, fun e he => qE e he, fun cs' he f' H' nf S' fr => qV cs' he .non f' H' rfl nf S' fr⟩
  | combine z l r =>
    have hq : SqT K H q _ := hc
    obtain ⟨hz, hzl, hzr⟩ := hF
    refine ⟨_, rfl, q, _, 0, _, rfl, rfl, hq, rfl, rfl, _, rfl, ite_no (by decide +kernel) ⟨_, rfl, q, _, 0, _, rfl, rfl, hq, rfl, rfl, _, rfl, ite_yes (by decide +kernel) ?_⟩⟩
    refine ⟨_, rfl, a.x, dx, _, rfl, hx, nCmb _ _ _, _, rfl, q, _, 1, _, rfl, rfl, hq, rfl, _, rfl, q, _, 2, _, rfl, rfl, hq, rfl, _, rfl, q, _, 3, _, rfl, rfl, hq, rfl, a, S, z, l, r, rfl, ⟨hS, hok, hl⟩, hz, hzl, hzr, fun e he => qE e he, fun cs' he f' H' nf S' fr => qV cs' he .non f' H' rfl nf S' fr⟩
  | extract z s0 rt =>
    have hq : SqT K H q _ := hc
    obtain ⟨hz, hzs⟩ := hF
    refine ⟨_, rfl, q, _, 0, _, rfl, rfl, hq, rfl, rfl, _, rfl, ite_no (by decide +kernel) ⟨_, rfl, q, _, 0, _, rfl, rfl, hq, rfl, rfl, _, rfl, ite_no (by decide +kernel) ⟨_, rfl, q, _, 0, _, rfl, rfl, hq, rfl, rfl, _, rfl, ite_yes (by decide +kernel) ?_⟩⟩⟩
    refine ⟨_, rfl, a.x, dx, _, rfl, hx, nExt _ _ _, _, rfl, q, _, 1, _, rfl, rfl, hq, rfl, _, rfl, q, _, 2, _, rfl, rfl, hq, rfl, _, rfl, q, _, 3, _, rfl, rfl, hq, rfl, rfl, rfl, a, S, z, s0, rt, rfl, ⟨hS, hok, hl⟩, hz, hzs, fun e he => qE e he, fun cs' he f' H' nf S' fr => qV cs' he .non f' H' rfl nf S' fr⟩
  | rewrite z op con =>
    obtain ⟨pt, hq, hpt⟩ := hc
    have hz : z.length ≤ 100 := hF
    refine ⟨_, rfl, q, _, 0, _, rfl, rfl, hq, rfl, rfl, _, rfl, ite_no (by decide +kernel) ⟨_, rfl, q, _, 0, _, rfl, rfl, hq, rfl, rfl, _, rfl, ite_no (by decide +kernel) ⟨_, rfl, q, _, 0, _, rfl, rfl, hq, rfl, rfl, _, rfl, ite_no (by decide +kernel) ⟨_, rfl, q, _, 0, _, rfl, rfl, hq, rfl, rfl, _, rfl, ite_yes (by decide +kernel) ?_⟩⟩⟩⟩
    refine ⟨_, rfl, a.x, dx, _, rfl, hx, nRwr _ _ _, _, rfl, q, _, 1, _, rfl, rfl, hq, rfl, _, rfl, q, _, 2, _, rfl, rfl, hq, rfl, _, rfl, q, _, 3, _, rfl, rfl, hq, rfl, rfl, rfl, a, S, z, pt, op, con, rfl, ⟨hS, hok, hl⟩, hz, hpt, fun e he => qE e he, fun cs' he f' H' nf S' fr => qV cs' he .non f' H' rfl nf S' fr⟩
  | delete z =>
    have hq : SqT K H q _ := hc
    have hz : z.length ≤ 100 := hF
    refine ⟨_, rfl, q, _, 0, _, rfl, rfl, hq, rfl, rfl, _, rfl, ite_no (by decide +kernel) ⟨_, rfl, q, _, 0, _, rfl, rfl, hq, rfl, rfl, _, rfl, ite_no (by decide +kernel) ⟨_, rfl, q, _, 0, _, rfl, rfl, hq, rfl, rfl, _, rfl, ite_no (by decide +kernel) ⟨_, rfl, q, _, 0, _, rfl, rfl, hq, rfl, rfl, _, rfl, ite_no (by decide +kernel) ?_⟩⟩⟩⟩
    refine ⟨_, rfl, a.x, dx, _, rfl, hx, nDel _ _ _, _, rfl, q, _, 1, _, rfl, rfl, hq, rfl, a, S, z, rfl, ⟨hS, hok, hl⟩, hz, fun e => qE _ (by show opDel S.cur z = _; unfold opDel; rw [e]), fun t e v f' H' hv nf S' fr => qV _ (by show opDel S.cur z = _; unfold opDel; rw [e]) v f' H' ⟨t, e, hv⟩ nf S' fr⟩

abbrev s__law_matches : Stmt := top 85
theorem sc__law_matches : FnScope ["_law_store", "_law_current", "_law_label"] ["_law_store", "_law_current"] (defScope s__law_matches) := ⟨rfl, rfl, rfl, by decide +kernel, rfl, by decide +kernel, by decide +kernel⟩
section OPN
open PySem PySem.Spec PyProof.Rows
/-! ### len(o) by an own __len__ -/
def rLenO (C : Addr) (sp : Sp) (E : XK) : List V → Hp → VK → Prop := fun xs H Q => ∃ (a dx : Addr) (fs : List (Str × V)), xs = [V.ref a] ∧ H a = some (.ins C dx fs) ∧ sp [.ref a] H (fun z H' => ∃ i : Int, z = .int i ∧ 0 ≤ i ∧ i < 2 ^ 63 ∧ Q (.int i) H') E
theorem call_lenO {X : Cx} {CX : CXT} {C g : Addr} {n : Nat} {fd : FuncData} {ps : List Str} {sp : Sp} {E : XK} (hs : PySem.W.findIn X.K (.ref C) "__len__" = some (some (.ref g))) (hf : PySem.W.isFn X.K (.ref g) = true) (F : FnOk X.prog X.w X.K X.mg X.base CX n g fd ps sp) (hr : Room (n + 1) X.A) (hb : Binds X.K fd ps []) (hx : Passes CX X E) : CallR X (.builtin "len") (rLenO C sp E) := by
  intro pins s σ H xs us Q I r h
  obtain ⟨a, dx, fs, rfl, e, q⟩ := h
  obtain ⟨u, rfl, ru⟩ := r.one
  cases (show u = Value.ref a from ru)
  obtain ⟨mA, O, _, _, _, _⟩ := ins_get I.hok e
  obtain ⟨od, J, _⟩ := O.look
  have r2 : Vals [V.ref a] [Value.ref a] := .cons rfl .nil
  have hl : ([Value.ref a] ++ []).length = ps.length := by
    have z := F.len _ _ _ _ q
    rw [List.append_nil]
    exact z
  refine Calls.call_function_entry PySem.kind_len PySem.plain_len PySem.entry_len (PySem.args_len1 _) ?_
  unfold Builtin.«len»
  refine wpAny_bind (m := oneArg "len" _) (wpAny_pure ?_)
  refine wpAny_bind (m := callSpecial? (.ref a) (Str.ofString "__len__")) (PySem.W.special_fn I.kIn J hs (beq_iff_eq.mp hf) (wpAny_mono (Q := EP X pins σ fun z H' => ∃ i : Int, z = .int i ∧ 0 ≤ i ∧ i < 2 ^ 63 ∧ Q (.int i) H') (E := X.xe) (wpAny_call (codeAny_mono (F.run X.A.in1 X.stack s H ⟨[.ref a], []⟩ [.ref a] [.ref a] _ E hr.in1 I.env0.in1 (by have z := hb s [.ref a] I.kIn hl; rw [List.append_nil] at z; exact z) r2 q) fun r s' hq => ?_)) (fun v s' hv => ?_) fun _ _ y => y))
  · cases r with
    | error e => exact hx pins σ H s e s' I hq
    | ok fl =>
      cases fl with
      | ret u => exact I.after hq
      | next => exact False.elim hq
      | brk => exact False.elim hq
      | cont => exact False.elim hq
  · obtain ⟨z, H', I', rz, i, rfl, h0, h1, qz⟩ := hv
    obtain ⟨t, rfl⟩ := (show ∃ t, v = Value.int i t from rz)
    refine wpAny_bind (wpAny_holding (wpAny_pure ?_))
    refine wpAny_bind (wpAny_letGo ?_)
    show wpAny _ _ (if i < 0 then _ else _) _ _ _
    rw [if_neg (by omega)]
    show wpAny _ _ (if i ≥ 2 ^ 63 then _ else _) _ _ _
    rw [if_neg (by omega)]
    exact wpAny_bind (wpAny_mkInt (wpAny_pure ⟨_, rfl, V.int i, H', I'.tok _, ⟨_, rfl⟩, qz⟩))
end OPN
/-- the store and a dict of the same contents -/
def spMatP (K : PySem.W.Frag) (C : Addr) : Sp := fun vs H Q _ => ∃ (a : SAd) (S : Sto) (d : Addr) (cs : Cts), vs = [.ref a.x, .ref d] ∧ StH K C a S H ∧ CtA K H d cs ∧ cs.Perm S.cur ∧ ∀ H', Same H H' → Q (.bl true) H'
theorem ok__law_matches {C_Store u0 u1 u2 f1 f2 fU : Addr} {v0 v1 v2 e1 e2 fdU : FuncData} {A0 : EAd} (d__law_matches : D K mg "_law_matches" s__law_matches ["_law_store", "_law_current"] f fd) (B : Blt mg) (d__law_same : D K mg "_law_same" s__law_same ["_law_result_here", "_law_expected"] f1 e1)
    (T_Store : StT K mg C_Store) (d_Store_labels : Mt K C_Store "labels" "Store.labels" s_Store_labels ["self"] u0 v0) (d_Store_term : Mt K C_Store "term" "Store.term" s_Store_term ["self", "label"] u1 v1) (FLU : FunS P K mg "UnknownName" "UnknownName.__init__" s_UNInit ["self", "name"] A0.unk fU fdU) (nLU : PySem.W.findIn K (.ref A0.unk) "name" = some none) (d_known_term : D K mg "known_term" s_known_term ["contents", "label"] f2 e2)
    (hsL : PySem.W.findIn K (.ref C_Store) "__len__" = some (some (.ref u2))) (hfL : PySem.W.isFn K (.ref u2) = true) (FL : Fun K "__len__" "Store.__len__" s_Store___len__ u2 v2) (bL : Binds K v2 ["self"] []) : FnOk P w K mg base CX0 21 f fd ["_law_store", "_law_current"] (spMatP K C_Store) := by
  have T := T_Store
  have G_Store_labels : FnOk P w K mg base CX0 1 u0 v0 ["self"] (spSLabs K C_Store) := ok_Store_labels d_Store_labels.F T_Store B
  have G_Store_term : FnOk P w K mg base (L2N.CX P w) 4 u1 v1 ["self", "label"] (spSTerm K C_Store A0) := ok_Store_term d_Store_term.F T_Store FLU nLU d_known_term
  have GL : FnOk P w K mg base CX0 1 u2 v2 ["self"] (spSLen K C_Store) := ok_Store___len__ FL T_Store B
  have G__law_same : FnOk P w K mg base CX0 20 f1 e1 ["_law_result_here", "_law_expected"] (spSame K 20) := ok__law_same d__law_same B 20
  have n0 : ∀ {m : Str}, ¬ m = "contents" → ¬ m = "past" → ¬ m = "future" → ∀ c p f, (stf c p f).lookup m = none := fun h1 h2 h3 _ _ _ => stf_no _ _ _ h1 h2 h3
  have nAdd := n0 (m := "labels") (by decide +kernel) (by decide +kernel) (by decide +kernel)
  have nCmb := n0 (m := "term") (by decide +kernel) (by decide +kernel) (by decide +kernel)
  have nExt := n0 (m := "extract") (by decide +kernel) (by decide +kernel) (by decide +kernel)
  have nRwr := n0 (m := "rewrite") (by decide +kernel) (by decide +kernel) (by decide +kernel)
  have nDel := n0 (m := "delete") (by decide +kernel) (by decide +kernel) (by decide +kernel)
  refine d__law_matches.F.ok sc__law_matches (fun vs H Q E h => ?_) (fun cdv A outer s H vs Q E hr h => ?_)
  · obtain ⟨_, _, _, _, rfl, _⟩ := h
    rfl
  obtain ⟨a, S, d, cs, rfl, hSH, hd, hpm, q⟩ := h
  obtain ⟨hS, hok, hl⟩ := hSH
  obtain ⟨dx, cc, ps, fs, hx, hC, hp, hP, hf, hFu, hpf⟩ := id hS
  refine ⟨_, (pss_cons (ps_if (PW.pt (pw_or (pt_not (pt_val (pe_call G__law_same (hr.mono (by decide)) rfl d__law_same.m d__law_same.F.kp d__law_same.b .nil pass0 (pa_cons (pe_meth0 (pv 0) T_Store.cl d_Store_labels.m G_Store_labels (hr.mono (by decide)) d_Store_labels.b .nil pass0) (pa_cons (pe_callB (call_sortedD (by rfl)) (by rfl) B.sorted (by decide +kernel) (pa_cons (pv 1) pa_nil)) pa_nil))))) (pw_or1 (pt_not (pt_val (pe_call G__law_same (hr.mono (by decide)) rfl d__law_same.m d__law_same.F.kp d__law_same.b .nil pass0 (pa_cons (pe_callB (call_lenO hsL hfL GL (hr.mono (by decide)) bL pass0) (by rfl) B.len PySem.boot_len (pa_cons (pv 0) pa_nil)) (pa_cons (pe_callB call_lenD (by rfl) B.len PySem.boot_len (pa_cons (pv 1) pa_nil)) pa_nil)))))))) (pss_one (ps_ret pe_bl)) pss_nil)
 (pss_one (ps_ret (pe_callB (cr_all rfl) (by rfl) B.all (by decide +kernel) (pa_cons (pe_lc (own := [("_law_label", 2)]) (g := gName 2) (tt := tYes) (by rfl) sc__law_matches.nd (pi_list (pe_callB (call_sortedD (by rfl)) (by rfl) B.sorted (by decide +kernel) (pa_cons (pv 1) pa_nil))) (blkOk_by (own := [("_law_label", 2)]) (N := ["_law_store", "_law_current", "_law_label"]) (sc := defScope s__law_matches) (by decide +kernel)) (fun _ _ _ _ _ => (pg_name (i := 2) sc__law_matches.nd rfl (Or.inl rfl))) (fun _ _ _ _ _ => pts_nil) (fun _ _ _ _ _ => (pe_call G__law_same (hr.mono (by decide)) rfl d__law_same.m d__law_same.F.kp d__law_same.b .nil pass0 (pa_cons (pe_meth (pv 0) T_Store.cl d_Store_term.m G_Store_term (hr.mono (by decide)) d_Store_term.b .nil passF (pa_cons (pv 2) pa_nil)) (pa_cons (pe_dget (hu_of hr) (pv 1) (pv 2) (fun _ _ => rfl)) pa_nil))))) pa_nil))))), ?_⟩
  obtain ⟨kvs, hk, hK⟩ := id hd
  have hkeys : kvs.map (·.1) = (cs.map fun e => sL e.1).map Sum.inr := by
    rw [hK.keys, List.map_map]
    rfl
  have hlen64 : (cs.map fun e => sL e.1).length < 64 := by
    rw [List.length_map, hpm.length_eq]
    have := hok.len
    omega
  have srt : ∀ ys : List Str, ys.Perm (cs.map fun e => sL e.1) → PyProof.Rows.sortedS ys = true → ∃ ls : List (List Nat), ys = ls.map sL ∧ SrtL ls (S.cur.map (·.1)) := by
    intro ys hp1 hs
    have e : (cs.map fun e => sL e.1) = (cs.map (·.1)).map sL := by rw [List.map_map]; rfl
    rw [e] at hp1
    obtain ⟨ls, rfl, hls⟩ := map_sL_of hp1
    exact ⟨ls, rfl, hls.trans (hpm.map _), hs⟩
  have hasc : ∀ z ∈ S.cur.map (·.1), isLb z = true := fun z hz => by
    obtain ⟨e, he, rfl⟩ := List.mem_map.mp hz
    exact hok.lb e he
  have hn : ∀ {ls : List (List Nat)}, SrtL ls (S.cur.map (·.1)) → (∀ z ∈ ls, Asc z) ∧ ls.length ≤ 12 := fun {ls} h => ⟨fun z hz => isLb_asc (hasc z (h.1.mem_iff.mp hz)), by
    have := h.1.length_eq
    rw [List.length_map] at this
    have := hok.len
    omega⟩
  refine ⟨_, rfl, a.x, dx, _, rfl, hx, nAdd _ _ _, a, S, rfl, hS, hok.len, fun ls p hsr np => ?_⟩
  have s1 := Same.new np (.lst (ls.map nmV))
  have hp1 : (upd H p (.lst (ls.map nmV))) p = some (.lst (ls.map nmV)) := upd_same
  generalize (upd H p (.lst (ls.map nmV))) = H1 at *
  refine ⟨_, rfl, d, kvs, _, rfl, .inl (s1 _ _ hk), hkeys, hlen64, fun ys p2 hpe hso np2 => ?_⟩
  obtain ⟨ms, rfl, hms⟩ := srt ys hpe hso
  have hml : ms = ls := hms.uniq hsr
  subst hml
  have s2 := Same.new np2 (.lst ((ms.map sL).map V.str))
  have hp2 : (upd H1 p2 (.lst ((ms.map sL).map V.str))) p2 = some (.lst (ms.map nmV)) := by
    rw [upd_same, List.map_map]
    rfl
  have hp1 := s2 _ _ hp1
  generalize (upd H1 p2 (.lst ((ms.map sL).map V.str))) = H2 at *
  obtain ⟨ha, h12⟩ := hn hms
  refine ⟨.ref p, .ref p2, strsD ms, rfl, strs_dp (SqL.here hp1), strs_dp (SqL.here hp2), strs_shaped ha, Nat.lt_of_le_of_lt (strs_depth ms) (by decide), strs_wide (by omega), fun H3 s3 => ?_⟩
  refine ⟨_, rfl, ite_no rfl ?_⟩
  have sA := (s1.trans s2).trans s3
  have hSA := hS.same sA
  have hxA := sA _ _ hx
  have hkA := sA _ _ hk
  have hdA := hd.same sA
  refine ⟨_, rfl, a.x, dx, _, rfl, hxA, a, S, rfl, hSA, ⟨_, rfl, Int.natCast_nonneg _, (by have := hok.len; show (S.cur.length : Int) < 2 ^ 63; omega), ?_⟩⟩
  refine ⟨_, rfl, d, kvs, rfl, hkA, ?_⟩
  refine ⟨_, _, .int (S.cur.length : Nat), rfl, .int _, (by rw [hK.len, hpm.length_eq]; exact .int _), rfl, (by show 0 < 20; decide), rfl, fun H4 s4 => ?_⟩
  refine ⟨_, rfl, iteF ?_⟩
  have sB := sA.trans s4
  refine ⟨_, rfl, d, kvs, _, rfl, .inl (sB _ _ hk), hkeys, hlen64, fun ys p3 hpe3 hso3 np3 => ?_⟩
  obtain ⟨ms3, rfl, hms3⟩ := srt ys hpe3 hso3
  have hml : ms3 = ms := hms3.uniq hms
  subst hml
  have s5 := Same.new np3 (.lst ((ms3.map sL).map V.str))
  have hp3 : (upd H4 p3 (.lst ((ms3.map sL).map V.str))) p3 = some (.lst (ms3.map nmV)) := by
    rw [upd_same, List.map_map]
    rfl
  generalize (upd H4 p3 (.lst ((ms3.map sL).map V.str))) = H5 at *
  have sC := sB.trans s5
  refine ⟨p3, rfl, ⟨_, SqL.here hp3⟩, fun D nD => lc_list (xs := ms3.map nmV) (fun i G => Same H5 G ∧ G D = some (.lst ((List.replicate i true).map V.bl))) ⟨Same.new nD _, upd_same⟩ (fun i G _ h => SqL.here (h.1 _ _ hp3)) ?_ ?_⟩
  · rintro i x G hx0 ⟨sG, hD⟩
    rw [List.getElem?_map] at hx0
    obtain ⟨y, hy, rfl⟩ := Option.map_eq_some_iff.mp hx0
    have hi : i < ms3.length := by
      rcases Nat.lt_or_ge i ms3.length with h | h
      · exact h
      · rw [List.getElem?_eq_none h] at hy
        cases hy
    have hym := hms.1.mem_iff.mp (List.mem_of_getElem? hy)
    have hyl : y.length ≤ 100 := by
      have := hasc y hym
      unfold isLb at this
      simp only [Bool.and_eq_true, decide_eq_true_eq] at this
      omega
    obtain ⟨t, h1⟩ : ∃ t, lkC S.cur y = some t := by
      have := has_mem.mpr hym
      rw [lk_has] at this
      exact Option.isSome_iff_exists.mp this
    have sD := sC.trans sG
    refine ⟨rfl, ?_⟩
    have h1c : lkC cs y = some t := by rw [lk_perm hpm (nd_perm hpm.symm hok.nd)]; exact h1
    rcases hK.val y with ⟨h3, _⟩ | ⟨t1, v2, h3, h2, ht⟩
    · rw [h1c] at h3
      cases h3
    rw [h1c] at h3
    cases h3
    have hfa := hok.fit _ (lk_mem h1)
    have hfa1 : t.dp ≤ 6 := hfa.2
    refine ⟨_, rfl, a.x, dx, _, rfl, sD _ _ hx, nCmb _ _ _, _, rfl, a, S, y, rfl, hS.same sD, hyl, fun e => absurd e (by rw [h1]; exact nofun), fun t1 e v hv => ?_⟩
    rw [h1] at e
    cases e
    have g1 := DGet.k (k := nmK y) (sD _ _ hk)
    rw [h2] at g1
    refine ⟨_, rfl, _, rfl, d, _, rfl, g1, v, v2, t.d, rfl, hv, ta_mono (Tp.same sD) ht, Tree.shaped (by omega), (by rw [Tree.d_depth]; omega), tree_wideS t, fun H6 s6 => ?_⟩
    refine ⟨_, s6 _ _ hD, (by rw [List.length_map, List.length_replicate]; exact small1000 (by omega)), fun b o e => ?_, ?_⟩
    · rw [upd_ne (ne_of_none e nD)]
      exact s6 _ _ (sG _ _ e)
    · rw [upd_same, List.replicate_succ', List.map_append]
      rfl
  · rintro G ⟨sG, hD⟩
    refine ⟨D, List.replicate (ms3.map nmV).length true, rfl, SqL.here hD, ?_⟩
    rw [show (List.replicate (ms3.map nmV).length true).all id = true by simp]
    exact q G (sC.trans sG)

abbrev s__law_any_store : Stmt := top 86
theorem sc__law_any_store : FnScope ["_law_rng", "_law_many", "_law_store", "_law_current", "_law_pool", "_law_done", "_law_turn", "_law_command_here", "_law_word", "_law_later"] ["_law_rng", "_law_many"] (defScope s__law_any_store) := ⟨rfl, rfl, rfl, by decide +kernel, rfl, by decide +kernel, by decide +kernel⟩
structure F63 (T : List (Addr × Str)) (K : PySem.W.Frag) (C r cc lp d : Addr) (ls : List (List Nat)) (a : SAd) (S : Sto) (G : Hp) : Prop where
  R : RngC G r cc
  tb : LamX.Tabs T G
  St : StH K C a S G
  D : CtA K G d S.cur
  L : G lp = some (.lst (ls.map nmV))
  lr : lp ≠ r
  lc : lp ≠ cc
  no : ¬ Own a r ∧ ¬ Own a cc ∧ ¬ Own a lp ∧ ¬ Own a d
theorem StA.but {C r : Addr} {a : SAd} {S : Sto} {H H' : Hp} (h : StA K C a S H) (hr : ∃ ys, H r = some (.lst ys)) (b : But r H H') (no : ¬ Own a r) : StA K C a S H' := by
  obtain ⟨dx, c, ps, fs, h1, h2, h3, h4, h5, h6, h7⟩ := h
  have k := Kp.but (.inl hr) b
  exact ⟨dx, c, ps, fs, b _ _ (fun e => no (.inl e.symm)) h1, h2.kp k, b _ _ (fun e => no (.inr (.inl e.symm))) h3, h4.kp k, b _ _ (fun e => no (.inr (.inr e.symm))) h5, h6.kp k, h7⟩
theorem F63.same {T : List (Addr × Str)} {C r cc lp d : Addr} {ls : List (List Nat)} {a : SAd} {S : Sto} {G G' : Hp} (F : F63 T K C r cc lp d ls a S G) (s : Same G G') : F63 T K C r cc lp d ls a S G' :=
  ⟨F.R.same s, tabs_same s F.tb, ⟨F.St.1.same s, F.St.2⟩, F.D.same s, s _ _ F.L, F.lr, F.lc, F.no⟩
theorem F63.but {T : List (Addr × Str)} {C r cc lp d : Addr} {ls : List (List Nat)} {a : SAd} {S : Sto} {G G' : Hp} (F : F63 T K C r cc lp d ls a S G) (R : RngC G' r cc) (b : But r G G') : F63 T K C r cc lp d ls a S G' :=
  ⟨R, F.R.tabs b F.tb, ⟨F.St.1.but F.R.lst b F.no.1, F.St.2⟩, F.D.kp (Kp.but (.inl F.R.lst) b), b _ _ F.lr F.L, F.lr, F.lc, F.no⟩
theorem F63.extN {T : List (Addr × Str)} {C r cc lp d : Addr} {ls : List (List Nat)} {a : SAd} {S : Sto} {G G' : Hp} (F : F63 T K C r cc lp d ls a S G) (e : LamX.ExtN G G') (t : LamX.Tabs T G') : F63 T K C r cc lp d ls a S G' := by
  have k : Kp G G' := ⟨Tp.extN e, fun b kvs h => e _ _ h (fun _ => nofun)⟩
  obtain ⟨⟨dx, c, ps, fs, h1, h2, h3, h4, h5, h6, h7⟩, hS⟩ := F.St
  exact ⟨F.R.extN e, t, ⟨⟨dx, c, ps, fs, e _ _ h1 (fun _ => nofun), h2.kp k, e _ _ h3 (fun _ => nofun), h4.kp k, e _ _ h5 (fun _ => nofun), h6.kp k, h7⟩, hS⟩, F.D.kp k, e _ _ F.L (fun _ => nofun), F.lr, F.lc, F.no⟩
theorem tabs_fr {T : List (Addr × Str)} {C : Addr} {a : SAd} {S : Sto} {H H' : Hp} (h : StA K C a S H) (f : FrS a H H') (t : LamX.Tabs T H) : LamX.Tabs T H' := by
  obtain ⟨dx, c, ps, fs, h1, h2, h3, h4, h5, h6, h7⟩ := h
  have ne : ∀ {b : Addr} {o : HO}, H b = some o → (∀ ys, o ≠ .lst ys) → (∀ C dx fs, o ≠ .ins C dx fs) → ¬ Own a b := fun {b o} e n1 n2 w => by
    rcases w with rfl | rfl | rfl
    · rw [h1] at e; cases e; exact n2 _ _ _ rfl
    · rw [h3] at e; cases e; exact n1 _ rfl
    · rw [h5] at e; cases e; exact n1 _ rfl
  intro p hp
  obtain ⟨ps, e1, e2, e3⟩ := t p hp
  refine ⟨ps, f _ _ e1 (ne e1 (fun _ => nofun) fun _ _ _ => nofun), e2, fun pos cv ec => ?_⟩
  obtain ⟨c, rfl, hc⟩ := e3 pos cv ec
  exact ⟨c, rfl, f _ _ hc (ne hc (fun _ => nofun) fun _ _ _ => nofun)⟩
theorem CtA.at {H : Hp} {d : Addr} {cs : Cts} (h : CtA K H d cs) : ∃ kvs, H d = some (.dK kvs) := h.elim fun kvs x => ⟨kvs, x.1⟩
/-- after a command that succeeds -/
theorem F63.run {T : List (Addr × Str)} {C r cc lp d d' : Addr} {ls : List (List Nat)} {a : SAd} {S : Sto} {G G' : Hp} {cs' : Cts} {f' : Addr} (F : F63 T K C r cc lp d ls a S G) (hd : CtA K G d' cs') (nd : ¬ Own a d') (ok : CtOk cs') (hl : S.past.length + 1 ≤ 10000)
    (nf : G f' = none) (hS : StA K C ⟨a.x, a.p, f'⟩ ⟨cs', S.past ++ [S.cur], []⟩ G') (fr : FrS a G G') : F63 T K C r cc lp d' ls ⟨a.x, a.p, f'⟩ ⟨cs', S.past ++ [S.cur], []⟩ G' := by
  have no : ∀ {b : Addr} {o : HO}, G b = some o → ¬ Own a b → ¬ Own ⟨a.x, a.p, f'⟩ b := fun {b o} e n w => by
    rcases w with w | w | w
    · exact n (.inl w)
    · exact n (.inr (.inl w))
    · rw [show b = f' from w, nf] at e
      cases e
  obtain ⟨n1, n2, n3, n4⟩ := F.no
  obtain ⟨ys, hr⟩ := F.R.lst
  obtain ⟨o2, hc⟩ : ∃ o, G cc = some o := by
    obtain ⟨_, _, _, _, _, h, _⟩ := F.R
    exact ⟨_, h⟩
  obtain ⟨kvs, hk⟩ := hd.at
  refine ⟨F.R.keep (fun o e => fr _ _ e n1) (fun o e => fr _ _ e n2), tabs_fr F.St.1 fr F.tb, ⟨hS, ok, by show (S.past ++ [S.cur]).length ≤ 10000; rw [List.length_append]; exact hl⟩, hd.kp (F.St.1.kp_of fr), fr _ _ F.L n3, F.lr, F.lc, no hr n1, no hc n2, no F.L n3, no hk nd⟩
theorem F63.setD {T : List (Addr × Str)} {C r cc lp d d' : Addr} {ls : List (List Nat)} {a : SAd} {S : Sto} {G : Hp} (F : F63 T K C r cc lp d ls a S G) (h : CtA K G d' S.cur) (n : ¬ Own a d') : F63 T K C r cc lp d' ls a S G :=
  ⟨F.R, F.tb, F.St, h, F.L, F.lr, F.lc, F.no.1, F.no.2.1, F.no.2.2.1, n⟩
theorem cta_own {C d : Addr} {a : SAd} {S : Sto} {H : Hp} {cs : Cts} (h : StA K C a S H) (hd : CtA K H d cs) : ¬ Own a d := fun z => by
  obtain ⟨kvs, hk, _⟩ := hd
  obtain ⟨_, _, _, _, h1, _, h3, _, h5, _, _⟩ := h
  rcases z with rfl | rfl | rfl
  · rw [hk] at h1; cases h1
  · rw [hk] at h3; cases h3
  · rw [hk] at h5; cases h5
theorem runV_dp {H : Hp} {cs : Cts} {c : Cmd} {v : V} (h : RunV K H cs c v) : Dp K H v (cmR cs c) := by
  cases c with
  | delete z =>
    obtain ⟨t, e, ht⟩ := h
    show Dp K H v (match lkC cs z with | some t => t.d | none => .none : PyData)
    rw [e]
    exact ht
  | add z ot => cases (show v = .non from h); exact .non
  | combine z l r => cases (show v = .non from h); exact .non
  | extract z s rt => cases (show v = .non from h); exact .non
  | rewrite z op con => cases (show v = .non from h); exact .non
theorem cmR_tp {H H' : Hp} {cs : Cts} {c : Cmd} {v : V} (tp : Tp H H') (h : RunV K H cs c v) : RunV K H' cs c v := by
  cases c with
  | delete z =>
    obtain ⟨t, e, ht⟩ := h
    exact ⟨t, e, ta_mono tp ht⟩
  | _ => exact h
theorem seW_val (e : SE) : ¬ seW e = "value" := by
  have h : ∀ j, j < 20 → ¬ en j = "value" := by decide +kernel
  cases e <;> exact h _ (by decide)
theorem ii_shaped (a b : Int) : SeqAt.shaped (.tuple [.int a, .int b]) = true := rfl
/-- a store after commands that succeed -/
def spAnySt (K : PySem.W.Frag) (C : Addr) : Sp := fun vs H Q _ => ∃ (r c : Addr) (many : Int), vs = [.ref r, .int many] ∧ RngC H r c ∧ 0 ≤ many ∧ many ≤ 100 ∧
  ∀ (p : Addr) (a : SAd) (d lp : Addr) (ls : List (List Nat)) (cs : Cts) (past : List Cts) (H' : Hp), SqT K H' p [.ref a.x, .ref d, .ref lp, .int (past.length : Nat)] → F63 [] K C r c lp d ls a ⟨cs, past, []⟩ H' → But r H H' → H a.x = none → H a.p = none → ls.length = 14 → (∀ z ∈ ls, isLb z = true) → (past.length : Int) ≤ many → (∀ c ∈ past, CtOk c) → (∀ z ∈ ls, LbN z) → (∀ e ∈ cs, e.1 ∈ ls) → (∀ c ∈ past, ∀ e ∈ c, e.1 ∈ ls) → Q (.ref p) H'
theorem ok__law_any_store {C_Store fI f1 f2 f3 f4 f5 : Addr} {fdI e1 e2 e3 e4 e5 : FuncData} {A0 : EAd} (d__law_any_store : D K mg "_law_any_store" s__law_any_store ["_law_rng", "_law_many"] f fd) (B : Blt mg) (T_Store : StT K mg C_Store) (MKS : L2.Mk K C_Store fI) (FI : Fun K "__init__" "Store.__init__" s_Store___init__ fI fdI) (bI : Binds K fdI ["self"] [])
    (d__law_draw : D K mg "_law_draw" s__law_draw ["_law_rng", "_law_amount"] f1 e1) (d__law_labels : D K mg "_law_labels" s__law_labels ["_law_rng"] f2 e2) (d__law_command : D K mg "_law_command" s__law_command ["_law_rng", "_law_pool", "_law_current"] f3 e3) (d__law_result : D K mg "_law_result" s__law_result ["_law_current", "_law_command_here"] f4 e4) (d__law_run : D K mg "_law_run" s__law_run ["_law_store", "_law_command_here"] f5 e5)
    (G__law_labels : FnOk P w K mg base CX0 3 f2 e2 ["_law_rng"] (spLabs K)) (G__law_command : FnOk P w K mg base CX0 14 f3 e3 ["_law_rng", "_law_pool", "_law_current"] (spCmdL K)) (G__law_result : FnOk P w K mg base CX0 44 f4 e4 ["_law_current", "_law_command_here"] (spRes K)) (G__law_run : FnOk P w K mg base (L2N.CX P w) 16 f5 e5 ["_law_store", "_law_command_here"] (spRun K C_Store A0)) :
    FnOk P w K mg base CX0 45 f fd ["_law_rng", "_law_many"] (spAnySt K C_Store) := by
  have T := T_Store
  have GI : FnOk P w K mg base CX0 1 fI fdI ["self"] (spSInit K C_Store) := ok_Store___init__ FI T_Store
  refine d__law_any_store.F.ok sc__law_any_store (fun vs H Q E h => ?_) (fun cdv A outer s H vs Q E hr h => ?_)
  · obtain ⟨_, _, _, rfl, _⟩ := h
    rfl
  obtain ⟨r, cc, many, rfl, R1, hm0, hm1, q⟩ := h
  refine ⟨_, (pss_cons (ps_asg (pe_tup (pa_cons (pe_make0 MKS GI (hr.mono (by decide)) rfl T_Store.mgC bI .nil pass0) (pa_cons pe_dnewK (pa_cons (pe_call G__law_labels (hr.mono (by decide)) rfl d__law_labels.m d__law_labels.F.kp d__law_labels.b .nil pass0 (pa_cons (pv 0) pa_nil)) (pa_cons pe_int pa_nil))))) (pg_tup (by rfl) (pgs_cons (pg_name (i := 2) sc__law_any_store.nd rfl (Or.inl rfl)) (pgs_cons (pg_name (i := 3) sc__law_any_store.nd rfl (Or.inl rfl)) (pgs_cons (pg_name (i := 4) sc__law_any_store.nd rfl (Or.inl rfl)) (pgs_cons (pg_name (i := 5) sc__law_any_store.nd rfl (Or.inl rfl)) pgs_nil))))))
 (pss_cons (ps_for PassesOwn.never rfl (pi_range1 (by rfl) B.range (pa_cons (pv 1) pa_nil)) (pg_name (i := 6) sc__law_any_store.nd rfl (Or.inl rfl))
  (pss_cons (ps_set (i := 7) sc__law_any_store.nd rfl (Or.inl rfl) (pe_call G__law_command (hr.mono (by decide)) rfl d__law_command.m d__law_command.F.kp d__law_command.b .nil pass0 (pa_cons (pv 0) (pa_cons (pv 4) (pa_cons (pv 3) pa_nil)))))
 (pss_cons (ps_asg (pe_call G__law_result (hr.mono (by decide)) rfl d__law_result.m d__law_result.F.kp d__law_result.b .nil pass0 (pa_cons (pv 3) (pa_cons (pv 7) pa_nil))) (pg_tup (by rfl) (pgs_cons (pg_name (i := 8) sc__law_any_store.nd rfl (Or.inl rfl)) (pgs_cons (pg_name (i := 9) sc__law_any_store.nd rfl (Or.inl rfl)) pgs_nil))))
 (pss_one (ps_if (pt_cmpR op_eq (pe_ix ix_tup (pv 8) pe_int (fun _ _ => rfl)) pe_str (nomark _)) (pss_cons (ps_expr (pe_call G__law_run (hr.mono (by decide)) rfl d__law_run.m d__law_run.F.kp d__law_run.b .nil passF (pa_cons (pv 2) (pa_cons (pv 7) pa_nil))))
 (pss_one (ps_par (i := 3) (j := 5) (by rfl) sc__law_any_store.nd rfl rfl (by decide) rfl rfl (pa_cons (pv 9) (pa_cons (pe_op op_add (pv 5) pe_int) pa_nil)) (by rfl)))) pss_nil)))))
 (pss_one (ps_ret (pe_tup (pa_cons (pv 2) (pa_cons (pv 3) (pa_cons (pv 4) (pa_cons (pv 5) pa_nil))))))))), ?_⟩
  refine fun x dx nx ndx ney => ⟨x, dx, rfl, upd_same, fun p f' H2 np nf hSt hb => ⟨rfl, ?_⟩⟩
  have sI : Same H (upd (upd H dx (.own x)) x (.ins C_Store dx [])) := (Same.new ndx (.own x)).trans (Same.new (by rw [upd_ne ney.symm]; exact nx) _)
  have s2 : Same H H2 := fun b o e => hb b o (fun z => by rw [z, nx] at e; cases e) (sI _ _ e)
  have Ri := R1.same sI
  have nxr := R1.ne nx
  have npr := Ri.ne np
  have nfr := Ri.ne nf
  have np0 : H p = none := sI.free np
  have nf0 : H f' = none := sI.free nf
  have R2 := R1.same s2
  refine fun d nd => ?_
  have s3 := Same.new nd (.dK [])
  have hd3 : CtA K (upd H2 d (.dK [])) d [] := ⟨[], upd_same, .nil⟩
  have St3 := hSt.same s3
  have R3 := R2.same s3
  have nod : ¬ Own ⟨x, p, f'⟩ d := fun z => by
    obtain ⟨_, _, _, _, h1, _, h3, _, h5, _, _⟩ := hSt
    rcases z with rfl | rfl | rfl
    · rw [nd] at h1; cases h1
    · rw [nd] at h3; cases h3
    · rw [nd] at h5; cases h5
  have b3 : But r H (upd H2 d (.dK [])) := But.same (s2.trans s3)
  generalize (upd H2 d (.dK [])) = H3 at *
  refine ⟨_, rfl, r, cc, rfl, R3, fun lp ls H4 h14 hlb hln nl hl R4 b4 => ?_⟩
  have nlr := R3.ne nl
  have nol : ¬ Own ⟨x, p, f'⟩ lp := fun z => by
    obtain ⟨_, _, _, _, h1, _, h3, _, h5, _, _⟩ := St3
    rcases z with rfl | rfl | rfl
    · rw [nl] at h1; cases h1
    · rw [nl] at h3; cases h3
    · rw [nl] at h5; cases h5
  have nor : ¬ Own ⟨x, p, f'⟩ r := fun z => by
    rcases z with z | z | z
    · exact nxr.1 z.symm
    · exact npr.1 z.symm
    · exact nfr.1 z.symm
  have noc : ¬ Own ⟨x, p, f'⟩ cc := fun z => by
    rcases z with z | z | z
    · exact nxr.2 z.symm
    · exact npr.2 z.symm
    · exact nfr.2 z.symm
  have F4 : F63 [] K C_Store r cc lp d ls ⟨x, p, f'⟩ ⟨[], [], []⟩ H4 := ⟨R4, (fun _ h => nomatch h), ⟨St3.but R3.lst b4 nor, ctok_nil, Nat.zero_le _⟩, hd3.kp (Kp.but (.inl R3.lst) b4), hl, nlr.1, nlr.2, nor, noc, nol, nod⟩
  have B4 := b3.trans b4
  clear R1 nxr npr nfr R2 s2 s3 hSt St3 nod nol nor noc R3 R4 b4 hl nlr hd3 nd nl ndx ney Ri sI hb np nf b3
  refine ⟨by show 4 ≤ sizeLine; decide, fun p4 np4 => ?_⟩
  have s5 := Same.new np4 (.tup [.ref x, .ref d, .ref lp, .int 0])
  have F5 := F4.same s5
  have B5 := B4.trans (But.same (r := r) s5)
  have hp4 : SqT K (upd H4 p4 (.tup [.ref x, .ref d, .ref lp, .int 0])) p4 [.ref x, .ref d, .ref lp, .int 0] := SqT.here upd_same
  generalize (upd H4 p4 (.tup [.ref x, .ref d, .ref lp, .int 0])) = H5 at *
  clear F4 np4 B4 s5
  refine ⟨p4, _, rfl, hp4, rfl, _, _, rfl, _, _, rfl, _, _, rfl, _, _, rfl, rfl, ?_⟩
  clear hp4
  refine ⟨_, rfl, many, rfl, by omega, by omega, ?_⟩
  refine for_range (lo := 0) (n := many.toNat) (fun i σ G => ∃ (x6 x7 x8 x9 : Option V) (d : Addr) (a : SAd) (cs : Cts) (past : List Cts), σ = [some (.ref r), some (.int many), some (.ref a.x), some (.ref d), some (.ref lp), some (.int (past.length : Nat)), x6, x7, x8, x9] ∧ F63 [] K C_Store r cc lp d ls a ⟨cs, past, []⟩ G ∧ past.length ≤ i ∧ But r H G ∧ a.x = x ∧ a.p = p ∧ (∀ b, Own a b → H b = none) ∧ (∀ c ∈ past, CtOk c) ∧ (∀ e ∈ cs, e.1 ∈ ls) ∧ ∀ c ∈ past, ∀ e ∈ c, e.1 ∈ ls) ⟨_, _, _, _, d, ⟨x, p, f'⟩, [], [], rfl, F5, Nat.zero_le _, B5, rfl, rfl, (fun b z => by rcases z with rfl | rfl | rfl <;> assumption), (fun _ h => nomatch h), (fun _ h => nomatch h), fun _ h => nomatch h⟩ ?_ ?_
  · clear F5 B5
    rintro i σ G hi ⟨x6, x7, x8, x9, d, a, cs, past, rfl, F, hpi, bG, ax, ap, hown, hpo, hcl, hpl2⟩
    refine ⟨_, rfl, _, rfl, _, rfl, r, cc, lp, d, ls, cs, rfl, F.R, F.L, F.lr, F.lc, by omega, by omega, hlb, F.D, F.St.2.1, fun q cm G2 hT hF hN hSh hPP hMk R2 b2 => ?_⟩
    have F2 := F.but R2 b2
    refine ⟨_, rfl, _, rfl, d, q, cs, cm, rfl, F2.D, F2.St.2.1, hT, hF, hSh, fun pp e d' G3 s3 hp hE hW hD' => ?_⟩
    have F3 := F2.same s3
    have bG3 := (bG.trans b2).trans (But.same (r := r) s3)
    have hT3 := hT.tp (Tp.same s3) hF
    have nod' := cta_own F3.St.1 hD'
    have hok : CtOk cs := F3.St.2.1
    clear F F2 s3 hT b2 bG
    refine ⟨pp, _, rfl, hp, rfl, _, _, rfl, _, _, rfl, rfl, ?_⟩
    obtain ⟨fv, hfv⟩ := hW
    refine ⟨_, rfl, e, _, 0, _, rfl, rfl, hfv, rfl, rfl, _, rfl, ?_⟩
    cases hk : okC cs cm with
    | false =>
      refine ite_no (decide_eq_false fun z => ?_) ⟨_, _, _, _, d, a, cs, past, rfl, F3, by omega, bG3, ax, ap, hown, hpo, hcl, hpl2⟩
      rw [if_neg Bool.false_ne_true] at z
      injection z with z
      unfold okC at hk
      cases e1 : appC cs cm with
      | error er => rw [e1] at z; exact seW_val er z
      | ok _ => rw [e1] at hk; cases hk
    | true =>
      refine ite_yes (by rw [if_pos rfl]; exact decide_eq_true rfl) ?_
      obtain ⟨cs', he⟩ : ∃ cs', appC cs cm = .ok cs' := by
        unfold okC at hk
        cases e1 : appC cs cm with
        | error er => rw [e1] at hk; cases hk
        | ok cs' => exact ⟨cs', rfl⟩
      have hn : nxC cs cm = cs' := by unfold nxC; rw [he]
      rw [hn] at hD'
      refine ⟨_, rfl, _, rfl, a, ⟨cs, past, []⟩, q, cm, rfl, F3.St, hT3, hF, fun er h2 => absurd (he.symm.trans h2) nofun, fun cs2 h2 v f2 G5 hv nf hSt hfr => ?_⟩
      cases he.symm.trans h2
      have F5 := F3.run hD' nod' (app_ok hok hF.fit he) (by show past.length + 1 ≤ 10000; omega) nf hSt hfr
      refine ⟨_, rfl, _, rfl, _, _, rfl, rfl, _, _, rfl, ⟨some (.int (0 + (i : Int))), some (.ref q), some (.ref e), some (.ref d'), d', ⟨a.x, a.p, f2⟩, cs', past ++ [cs], ?_, F5, by rw [List.length_append]; show past.length + 1 ≤ i + 1; omega, fun b o nb hb => ?_, ax, ap, (fun b z => ?_), (fun c hc => ?_), app_labs hcl hMk he, fun c hc => ?_⟩⟩
      · rw [List.length_append]
        rfl
      · exact hfr b o (bG3 b o nb hb) fun z => by rw [hown b z] at hb; cases hb
      · rcases z with z | z | z
        · exact hown b (.inl z)
        · exact hown b (.inr (.inl z))
        · rw [show b = f2 from z]
          cases e5 : H f2 with
          | none => rfl
          | some o =>
            by_cases nb : f2 = r
            · obtain ⟨ys, hy⟩ := F3.R.lst
              rw [nb, hy] at nf
              cases nf
            · rw [bG3 f2 o nb e5] at nf
              cases nf
      · rcases List.mem_append.mp hc with hc | hc
        · exact hpo c hc
        · rw [List.mem_singleton.mp hc]
          exact hok
      · rcases List.mem_append.mp hc with hc | hc
        · exact hpl2 c hc
        · rw [List.mem_singleton.mp hc]
          exact hcl
  · clear F5 B5
    rintro σ G ⟨x6, x7, x8, x9, d, a, cs, past, rfl, F, hpi, bG, ax, ap, hown, hpo, hcl, hpl2⟩
    refine ⟨_, rfl, _, rfl, _, rfl, _, rfl, by show 4 ≤ sizeLine; decide, fun p5 np5 => ?_⟩
    have s6 := Same.new np5 (.tup [.ref a.x, .ref d, .ref lp, .int (past.length : Nat)])
    exact q p5 a d lp ls cs past _ (SqT.here upd_same) (F.same s6) (bG.trans (But.same s6)) (hown _ (.inl rfl)) (hown _ (.inr (.inl rfl))) h14 hlb (by omega) hpo hln hcl hpl2

abbrev s__law_format : Stmt := top 69
theorem sc__law_format : FnScope ["_law_term_here"] ["_law_term_here"] (defScope s__law_format) := ⟨rfl, rfl, rfl, by decide +kernel, rfl, by decide +kernel, by decide +kernel⟩
theorem ok__law_format (d__law_format : D K mg "_law_format" s__law_format ["_law_term_here"] f fd) : ∀ n : Nat, FnOk P w K mg base CX0 n f fd ["_law_term_here"] (spText K n)
  | 0 => fn_none spText_no
  | n + 1 => by
    have G__law_format := ok__law_format d__law_format n
    refine d__law_format.F.ok sc__law_format (fun vs H Q E h => ?_) (fun cdv A outer s H vs Q E hr h => ?_)
    · obtain ⟨_, _, rfl, _⟩ := h
      rfl
    obtain ⟨v, t, rfl, ha, hd, hn, hz, q⟩ := h
    refine ⟨_, (pss_one (ps_ret (pe_ifExp (pt_cmpR (op_eqD hr.units) (pv 0) (pe_tup pa_nil) (nomark _)) pe_str (pe_op op_add_str (pe_op op_add_str (pe_op op_add_str pe_str (pe_call G__law_format hr rfl d__law_format.m d__law_format.F.kp d__law_format.b .nil pass0 (pa_cons (pe_ix ix_tup (pv 0) pe_int (fun _ _ => rfl)) pa_nil))) (pe_call G__law_format hr rfl d__law_format.m d__law_format.F.kp d__law_format.b .nil pass0 (pa_cons (pe_ix ix_tup (pv 0) pe_int (fun _ _ => rfl)) pa_nil))) pe_str)))), ?_⟩
    refine ⟨_, rfl, zero_le', fun p hp => ⟨t.d, .tuple [], ta_mono (Tp.same (Same.new hp _)) ha, Dp.tup (SqT.here upd_same) .nil, Tree.shaped (by omega), shapedE, _, rfl, ite_eq (Tree.eqvL t) ?_⟩⟩
    have s1 := Same.new hp (.tup [])
    cases t with
    | L => exact iteT (q _ s1)
    | N l r =>
      have hd : max l.dp r.dp + 1 < n + 1 := hd
      have hz : l.sz + r.sz ≤ 1000 := hz
      have l1 := tlen (t := l) (by omega)
      have l2 := tlen (t := r) (by omega)
      have lo : (Str.ofString "(").length = 1 := rfl
      have lc : (Str.ofString ")").length = 1 := rfl
      obtain ⟨b, x1, x2, rfl, hS, hL, hR⟩ := ta_invN (ta_mono (Tp.same s1) ha)
      refine iteF ⟨_, rfl, b, _, 0, _, rfl, rfl, hS, rfl, x1, l, rfl, hL, by omega, by omega, by omega, fun H2 s2 => ⟨_, _, rfl, rfl, fits (by omega), ?_⟩⟩
      refine ⟨_, rfl, b, _, 1, _, rfl, rfl, (Tp.same s2).sqT hS, rfl, x2, r, rfl, ta_mono (Tp.same s2) hR, by omega, by omega, by omega, fun H3 s3 => ⟨_, _, rfl, rfl, fits (by rw [slen]; omega), _, _, rfl, rfl, fits (by rw [slen, slen]; omega), ?_⟩⟩
      have q' := q H3 ((s1.trans s2).trans s3)
      rw [← Tree.txtN] at q'
      exact q'

abbrev s__law_contents : Stmt := top 88
theorem sc__law_contents : FnScope ["_law_store", "_law_label"] ["_law_store"] (defScope s__law_contents) := ⟨rfl, rfl, rfl, by decide +kernel, rfl, by decide +kernel, by decide +kernel⟩
def spCont (K : PySem.W.Frag) (C : Addr) : Sp := fun vs H Q _ => ∃ (a : SAd) (S : Sto), vs = [.ref a.x] ∧ StH K C a S H ∧ ∀ (ms : List (List Nat)) (d : Addr) (H' : Hp), SrtL ms (S.cur.map (·.1)) → Same H H' → H d = none → CtA K H' d (rdC S.cur ms) → Q (.ref d) H'
theorem ok__law_contents {C_Store u0 u1 : Addr} {v0 v1 : FuncData} {A0 : EAd} (d__law_contents : D K mg "_law_contents" s__law_contents ["_law_store"] f fd) (B : Blt mg) (T_Store : StT K mg C_Store) (d_Store_labels : Mt K C_Store "labels" "Store.labels" s_Store_labels ["self"] u0 v0) (d_Store_term : Mt K C_Store "term" "Store.term" s_Store_term ["self", "label"] u1 v1) (G_Store_labels : FnOk P w K mg base CX0 1 u0 v0 ["self"] (spSLabs K C_Store)) (G_Store_term : FnOk P w K mg base (L2N.CX P w) 4 u1 v1 ["self", "label"] (spSTerm K C_Store A0)) : FnOk P w K mg base CX0 5 f fd ["_law_store"] (spCont K C_Store) := by
  have n0 : ∀ {m : Str}, ¬ m = "contents" → ¬ m = "past" → ¬ m = "future" → ∀ c p f, (stf c p f).lookup m = none := fun h1 h2 h3 _ _ _ => stf_no _ _ _ h1 h2 h3
  have nLab := n0 (m := "labels") (by decide +kernel) (by decide +kernel) (by decide +kernel)
  have nTer := n0 (m := "term") (by decide +kernel) (by decide +kernel) (by decide +kernel)
  refine d__law_contents.F.ok sc__law_contents (fun vs H Q E h => ?_) (fun cdv A outer s H vs Q E hr h => ?_)
  · obtain ⟨_, _, rfl, _⟩ := h
    rfl
  obtain ⟨a, S, rfl, ⟨hS, hl, hpl⟩, q⟩ := h
  refine ⟨_, (pss_one (ps_ret (pe_callTy (call_dictP (by rfl)) (by rfl) B.dict (by decide +kernel) (pa_cons (pe_lc (own := [("_law_label", 1)]) (g := gName 1) (tt := tYes) (by rfl) sc__law_contents.nd (pi_list (pe_meth0 (pv 0) T_Store.cl d_Store_labels.m G_Store_labels (hr.mono (by decide)) d_Store_labels.b .nil pass0)) (blkOk_by (own := [("_law_label", 1)]) (N := ["_law_store", "_law_label"]) (sc := defScope s__law_contents) (by decide +kernel)) (fun _ _ _ _ _ => (pg_name (i := 1) sc__law_contents.nd rfl (Or.inl rfl))) (fun _ _ _ _ _ => pts_nil) (fun _ _ _ _ _ => (pe_tup (pa_cons (pv 1) (pa_cons (pe_meth (pv 0) T_Store.cl d_Store_term.m G_Store_term (hr.mono (by decide)) d_Store_term.b .nil passF (pa_cons (pv 1) pa_nil)) pa_nil))))) pa_nil)))), ?_⟩
  obtain ⟨dx6, c6, ps6, fs6, hx6, hrest6⟩ := id hS
  refine ⟨_, rfl, a.x, dx6, _, rfl, hx6, nLab _ _ _, a, S, rfl, hS, hl.len, fun ms p7 hsr np7 => ⟨p7, rfl, ⟨_, SqL.here upd_same⟩, ?_⟩⟩
  have hml : ms.length ≤ 12 := by
    have h3 : ms.length = (S.cur.map (·.1)).length := hsr.1.length_eq
    rw [List.length_map] at h3
    have := hl.len
    omega
  have s7 := Same.new np7 (.lst (ms.map nmV))
  have hp7 : (upd H p7 (.lst (ms.map nmV))) p7 = some (.lst (ms.map nmV)) := upd_same
  generalize (upd H p7 (.lst (ms.map nmV))) = H7 at *
  refine fun D nD => lc_list (xs := ms.map nmV) (fun i G => Same H7 G ∧ ∃ (qs : List Addr) (kvs : List (L2.Key × V)), G D = some (.lst (qs.map V.ref)) ∧ PrC K G qs kvs (rdC S.cur (ms.take i))) ⟨Same.new nD _, [], [], upd_same, .nil⟩ (fun i G _ h => SqL.here (h.1 _ _ hp7)) ?_ ?_
  · rintro i x G hx0 ⟨sG, qs, kvs, hD, hPr⟩
    rw [List.getElem?_map] at hx0
    obtain ⟨y, hy, rfl⟩ := Option.map_eq_some_iff.mp hx0
    have hym := hsr.1.mem_iff.mp (List.mem_of_getElem? hy)
    obtain ⟨e0, he0, ey⟩ := List.mem_map.mp hym
    have hlb0 := hl.lb e0 he0
    rw [ey] at hlb0
    have hyl := (lb_len hlb0).2
    have hlk : lkC S.cur y = some e0.2 := lk_of_mem hl.nd (by rw [← ey]; exact he0)
    refine ⟨rfl, ?_⟩
    have sD := s7.trans sG
    refine ⟨_, rfl, _, rfl, a.x, dx6, _, rfl, sD _ _ hx6, nTer _ _ _, _, rfl, a, S, y, rfl, hS.same sD, by omega, fun e => absurd e (by rw [hlk]; exact nofun), fun t1 e v hv => ⟨two_le, fun p8 np8 => ?_⟩⟩
    rw [hlk] at e
    cases e
    have s8 := Same.new np8 (.tup [nmV y, v])
    have nDp : D ≠ p8 := ne_of_none hD np8
    refine ⟨_, by rw [upd_ne nDp]; exact hD, by rw [List.length_map]; exact small1000 (by have := hPr.len; unfold rdC at this; rw [List.length_map, List.length_take] at this; omega), fun b o e => ?_, qs ++ [p8], kvs ++ [(nmK y, v)], ?_, ?_⟩
    · rw [upd_ne (ne_of_none e nD)]
      exact s8 _ _ (sG _ _ e)
    · rw [upd_same, List.map_append]
      rfl
    · have tp : Tp G (upd (upd G p8 (.tup [nmV y, v])) D (.lst (qs.map V.ref ++ [V.ref p8]))) := fun b xs hb => by
        rcases hb with hb | ⟨o, hb⟩
        · have nb : b ≠ D := fun z => by rw [z, hD] at hb; cases hb
          exact .inl (by rw [upd_ne nb]; exact s8 _ _ hb)
        · have nb : b ≠ D := fun z => by rw [z, hD] at hb; cases hb
          exact .inr ⟨o, by rw [upd_ne nb]; exact s8 _ _ hb⟩
      have eR : rdC S.cur (ms.take (i + 1)) = rdC S.cur (ms.take i) ++ [(y, e0.2)] := by
        unfold rdC
        rw [take_snocS hy, List.map_append]
        show _ ++ [(y, (lkC S.cur y).getD .L)] = _
        rw [hlk]
        rfl
      rw [eR]
      exact (hPr.tp tp).snoc (SqT.here (by rw [upd_ne nDp.symm, upd_same])) (ta_mono tp hv)
  · rintro G ⟨sG, qs, kvs, hD, hPr⟩
    have hPr := (show PrC K G qs kvs (rdC S.cur ms) by rw [List.length_map, List.take_length] at hPr; exact hPr)
    have hpm := rdC_perm hl.nd hsr.1
    have hok2 : CtOk (rdC S.cur ms) := hl.perm hpm.symm
    refine ⟨D, qs, kvs, rfl, SqL.here hD, hPr.paired, fun p8 np8 => ?_⟩
    rw [merge_nd kvs [] (by rw [List.nil_append]; exact hPr.ct.nodup hok2.nd), List.nil_append]
    have s8 := Same.new np8 (.dK kvs)
    have sT := s7.trans sG
    exact q ms p8 _ hsr (sT.trans s8) (sT.free np8) ⟨kvs, upd_same, hPr.ct.tp (Tp.same s8)⟩

abbrev s__law_snapshot : Stmt := top 87
theorem sc__law_snapshot : FnScope ["_law_current", "_law_label"] ["_law_current"] (defScope s__law_snapshot) := ⟨rfl, rfl, rfl, by decide +kernel, rfl, by decide +kernel, by decide +kernel⟩
def spSnap (K : PySem.W.Frag) : Sp := fun vs H Q _ => ∃ (d : Addr) (cs : Cts), vs = [.ref d] ∧ CtA K H d cs ∧ CtOk cs ∧ ∀ (ms : List (List Nat)) (H' : Hp), SrtL ms (cs.map (·.1)) → Same H H' → Q (.str (sL (snC (rdC cs ms)))) H'
theorem ok__law_snapshot {f1 : Addr} {e1 : FuncData} (d__law_snapshot : D K mg "_law_snapshot" s__law_snapshot ["_law_current"] f fd) (B : Blt mg) (d__law_format : D K mg "_law_format" s__law_format ["_law_term_here"] f1 e1) : FnOk P w K mg base CX0 8 f fd ["_law_current"] (spSnap K) := by
  have G__law_format : FnOk P w K mg base CX0 7 f1 e1 ["_law_term_here"] (spText K 7) := ok__law_format d__law_format 7
  refine d__law_snapshot.F.ok sc__law_snapshot (fun vs H Q E h => ?_) (fun cdv A outer s H vs Q E hr h => ?_)
  · obtain ⟨_, _, rfl, _⟩ := h
    rfl
  obtain ⟨d, cs, rfl, hd, hok, q⟩ := h
  refine ⟨_, (pss_one (ps_ret (pe_join pe_str (pe_lc (own := [("_law_label", 1)]) (g := gName 1) (tt := tYes) (by rfl) sc__law_snapshot.nd (pi_list (pe_callB (call_sortedD (by rfl)) (by rfl) B.sorted (by decide +kernel) (pa_cons (pv 0) pa_nil))) (blkOk_by (own := [("_law_label", 1)]) (N := ["_law_current", "_law_label"]) (sc := defScope s__law_snapshot) (by decide +kernel)) (fun _ _ _ _ _ => (pg_name (i := 1) sc__law_snapshot.nd rfl (Or.inl rfl))) (fun _ _ _ _ _ => pts_nil) (fun _ _ _ _ _ => (pe_op op_add_str (pe_op op_add_str (pe_op op_add_str (pv 1) pe_str) (pe_call G__law_format (hr.mono (by decide)) rfl d__law_format.m d__law_format.F.kp d__law_format.b .nil pass0 (pa_cons (pe_dget (hu_of hr) (pv 0) (pv 1) (fun _ _ => rfl)) pa_nil))) pe_str)))))), ?_⟩
  obtain ⟨kvs, hk, hK⟩ := id hd
  have hkeys : kvs.map (·.1) = (cs.map fun e => sL e.1).map Sum.inr := by
    rw [hK.keys, List.map_map]
    rfl
  have hlen64 : (cs.map fun e => sL e.1).length < 64 := by
    rw [List.length_map]
    have := hok.len
    omega
  refine ⟨⟨_, rfl⟩, _, rfl, d, kvs, _, rfl, .inl hk, hkeys, hlen64, fun ys p hpe hso np => ?_⟩
  obtain ⟨ms, rfl, hsr⟩ : ∃ ls : List (List Nat), ys = ls.map sL ∧ SrtL ls (cs.map (·.1)) := by
    have e : (cs.map fun e => sL e.1) = (cs.map (·.1)).map sL := by rw [List.map_map]; rfl
    rw [e] at hpe
    obtain ⟨ls, rfl, hls⟩ := map_sL_of hpe
    exact ⟨ls, rfl, hls, hso⟩
  have hml : ms.length ≤ 12 := by
    have h3 : ms.length = (cs.map (·.1)).length := hsr.1.length_eq
    rw [List.length_map] at h3
    have := hok.len
    omega
  have s1 := Same.new np (.lst ((ms.map sL).map V.str))
  have hp1 : (upd H p (.lst ((ms.map sL).map V.str))) p = some (.lst (ms.map nmV)) := by
    rw [upd_same, List.map_map]
    rfl
  generalize (upd H p (.lst ((ms.map sL).map V.str))) = H1 at *
  refine ⟨p, rfl, ⟨_, SqL.here hp1⟩, fun D nD => lc_list (xs := ms.map nmV) (fun i G => Same H1 G ∧ G D = some (.lst (((rdC cs (ms.take i)).map fun e => sL (rowB e.1 e.2 ++ [10])).map V.str))) ⟨Same.new nD _, upd_same⟩ (fun i G _ h => SqL.here (h.1 _ _ hp1)) ?_ ?_⟩
  · rintro i x G hx0 ⟨sG, hD⟩
    rw [List.getElem?_map] at hx0
    obtain ⟨y, hy, rfl⟩ := Option.map_eq_some_iff.mp hx0
    have hym := hsr.1.mem_iff.mp (List.mem_of_getElem? hy)
    obtain ⟨e0, he0, ey⟩ := List.mem_map.mp hym
    have hlb0 := hok.lb e0 he0
    rw [ey] at hlb0
    have hyl := lb_len hlb0
    have hlk : lkC cs y = some e0.2 := lk_of_mem hok.nd (by rw [← ey]; exact he0)
    have hft := hok.fit e0 he0
    have sD := s1.trans sG
    have l2 : (sL y).length = y.length := rfl
    have l3 : (Str.ofString " ").length = 1 := by decide +kernel
    have l4 : (Str.ofString "\n").length = 1 := by decide +kernel
    have l5 := tlen (t := e0.2) (by omega)
    rcases hK.val y with ⟨h1, h2⟩ | ⟨t, v, h1, h2, ht⟩
    · rw [hlk] at h1
      cases h1
    rw [hlk] at h1
    cases h1
    have g1 := DGet.k (k := nmK y) (sD _ _ hk)
    rw [h2] at g1
    refine ⟨rfl, ?_⟩
    refine ⟨_, rfl, _, _, rfl, rfl, fits (by rw [l2, l3]; omega), _, rfl, _, rfl, d, _, rfl, g1, v, e0.2, rfl, ta_mono (Tp.same sD) ht, by omega, by omega, by omega, fun H2 s2 => ⟨_, _, rfl, rfl, fits (by rw [slen, l2, l3]; omega), _, _, rfl, rfl, fits (by rw [slen, slen, l2, l3, l4]; omega), ?_⟩⟩
    have er : ((sL y ++ Str.ofString " ") ++ e0.2.txt) ++ Str.ofString "
" = sL (rowB y e0.2 ++ [10]) := by
      have q1 : Str.ofString " " = sL [32] := by decide +kernel
      have q2 : Str.ofString "
" = sL [10] := by decide +kernel
      have q3 : e0.2.txt = sL e0.2.cs := rfl
      rw [q1, q2, q3, sL_app, sL_app, sL_app]
      unfold rowB
      simp
    have sG2 := sG.trans s2
    refine ⟨_, s2 _ _ hD, (by rw [List.length_map, List.length_map]; exact small1000 (by unfold rdC; rw [List.length_map, List.length_take]; omega)), fun b o e => ?_, ?_⟩
    · rw [upd_ne (ne_of_none e nD)]
      exact sG2 _ _ e
    · have eR : rdC cs (ms.take (i + 1)) = rdC cs (ms.take i) ++ [(y, e0.2)] := by
        unfold rdC
        rw [take_snocS hy, List.map_append]
        show _ ++ [(y, (lkC cs y).getD .L)] = _
        rw [hlk]
        rfl
      rw [upd_same, eR, List.map_append, List.map_append]
      show some (HO.lst (_ ++ [V.str (((sL y ++ Str.ofString " ") ++ e0.2.txt) ++ Str.ofString "
")])) = some (HO.lst (_ ++ [V.str (sL (rowB y e0.2 ++ [10]))]))
      rw [er]
  · rintro G ⟨sG, hD⟩
    rw [List.length_map, List.take_length] at hD
    have hD : G D = some (.lst ((((rdC cs ms).map fun e => rowB e.1 e.2 ++ [10]).map sL).map V.str)) := by
      rw [hD]
      simp only [List.map_map]
      rfl
    have hlen : (snC (rdC cs ms)).length ≤ 50 * 12 := by
      have h1 := snC_len (es := rdC cs ms) fun e he => by
        have hok2 : CtOk (rdC cs ms) := hok.perm (rdC_perm hok.nd hsr.1).symm
        exact ⟨hok2.lb e he, (hok2.fit e he).1⟩
      have h2 : (rdC cs ms).length = ms.length := by unfold rdC; rw [List.length_map]
      omega
    have efl : ((rdC cs ms).map fun e => rowB e.1 e.2 ++ [10]).flatten = snC (rdC cs ms) := (List.flatMap_def ..).symm
    refine ⟨Str.ofString "", D, ((rdC cs ms).map fun e => rowB e.1 e.2 ++ [10]).map sL, rfl, rfl, .inl (SqL.here hD), ?_, ?_⟩
    · have e1 : (((rdC cs ms).map fun e => rowB e.1 e.2 ++ [10]).map sL).map (fun x => x.length) = ((rdC cs ms).map fun e => rowB e.1 e.2 ++ [10]).map List.length := by
        rw [List.map_map]
        rfl
      rw [e1, ← List.length_flatten, efl, show (Str.ofString "").length = 0 from rfl, Nat.mul_zero]
      omega
    · rw [join_all, efl]
      exact q ms G hsr (s1.trans sG)

abbrev s_law : Stmt := top 90
theorem sc_law : FnScope ["_law_script", "_law_rng", "_law_turn", "_law_store", "_law_current", "_law_pool", "_law_done", "_law_text", "_law_made", "_law_label"] ["_law_script"] (defScope s_law) := ⟨rfl, rfl, rfl, by decide +kernel, rfl, by decide +kernel, by decide +kernel⟩
structure F65 (T : List (Addr × Str)) (K : PySem.W.Frag) (C r cc lp d : Addr) (ls : List (List Nat)) (a : SAd) (S : Sto) (cs : Cts) (G : Hp) : Prop where
  R : RngC G r cc
  tb : LamX.Tabs T G
  St : StH K C a S G
  D : CtA K G d cs
  pm : cs.Perm S.cur
  L : G lp = some (.lst (ls.map nmV))
  lr : lp ≠ r
  lc : lp ≠ cc
  no : ¬ Own a r ∧ ¬ Own a cc ∧ ¬ Own a lp
theorem F65.ok {T : List (Addr × Str)} {C r cc lp d : Addr} {ls : List (List Nat)} {a : SAd} {S : Sto} {cs : Cts} {G : Hp} (F : F65 T K C r cc lp d ls a S cs G) : CtOk cs := F.St.2.1.perm F.pm.symm
theorem F65.same {T : List (Addr × Str)} {C r cc lp d : Addr} {ls : List (List Nat)} {a : SAd} {S : Sto} {cs : Cts} {G G' : Hp} (F : F65 T K C r cc lp d ls a S cs G) (s : Same G G') : F65 T K C r cc lp d ls a S cs G' :=
  ⟨F.R.same s, tabs_same s F.tb, ⟨F.St.1.same s, F.St.2⟩, F.D.same s, F.pm, s _ _ F.L, F.lr, F.lc, F.no⟩
theorem F65.but {T : List (Addr × Str)} {C r cc lp d : Addr} {ls : List (List Nat)} {a : SAd} {S : Sto} {cs : Cts} {G G' : Hp} (F : F65 T K C r cc lp d ls a S cs G) (R : RngC G' r cc) (b : But r G G') : F65 T K C r cc lp d ls a S cs G' :=
  ⟨R, F.R.tabs b F.tb, ⟨F.St.1.but F.R.lst b F.no.1, F.St.2⟩, F.D.kp (Kp.but (.inl F.R.lst) b), F.pm, b _ _ F.lr F.L, F.lr, F.lc, F.no⟩
theorem F65.kp {T : List (Addr × Str)} {C r cc lp d : Addr} {ls : List (List Nat)} {a : SAd} {S : Sto} {cs : Cts} {G G' : Hp} (F : F65 T K C r cc lp d ls a S cs G) (b : But r G G') : Kp G G' := Kp.but (.inl F.R.lst) b
theorem F65.extN {T : List (Addr × Str)} {C r cc lp d : Addr} {ls : List (List Nat)} {a : SAd} {S : Sto} {cs : Cts} {G G' : Hp} (F : F65 T K C r cc lp d ls a S cs G) (e : LamX.ExtN G G') (t : LamX.Tabs T G') : F65 T K C r cc lp d ls a S cs G' := by
  have k : Kp G G' := ⟨Tp.extN e, fun b kvs h => e _ _ h (fun _ => nofun)⟩
  obtain ⟨⟨dx, c, ps, fs, h1, h2, h3, h4, h5, h6, h7⟩, hS⟩ := F.St
  exact ⟨F.R.extN e, t, ⟨⟨dx, c, ps, fs, e _ _ h1 (fun _ => nofun), h2.kp k, e _ _ h3 (fun _ => nofun), h4.kp k, e _ _ h5 (fun _ => nofun), h6.kp k, h7⟩, hS⟩, F.D.kp k, F.pm, e _ _ F.L (fun _ => nofun), F.lr, F.lc, F.no⟩
/-- a change of a further list -/
theorem F65.lst {T : List (Addr × Str)} {C r cc lp d q : Addr} {ls : List (List Nat)} {a : SAd} {S : Sto} {cs : Cts} {G G' : Hp} (F : F65 T K C r cc lp d ls a S cs G) (hq : ∃ ys, G q = some (.lst ys)) (nr : q ≠ r) (nc : q ≠ cc) (nl : q ≠ lp) (no : ¬ Own a q) (b : But q G G') : F65 T K C r cc lp d ls a S cs G' ∧ Kp G G' := by
  have k := Kp.but (.inl hq) b
  have tb : LamX.Tabs T G' := by
    intro p hp
    obtain ⟨ps, e1, e2, e3⟩ := F.tb p hp
    have ne : ∀ {c : Addr} {o : HO}, G c = some o → (∀ ys, o ≠ .lst ys) → c ≠ q := fun {c o} e n w => by
      obtain ⟨ys, hy⟩ := hq
      rw [w, hy] at e
      cases e
      exact n _ rfl
    refine ⟨ps, b _ _ (ne e1 fun _ => nofun) e1, e2, fun pos cv ec => ?_⟩
    obtain ⟨c, rfl, hc⟩ := e3 pos cv ec
    exact ⟨c, rfl, b _ _ (ne hc fun _ => nofun) hc⟩
  exact ⟨⟨F.R.keep (fun o e => b _ _ nr.symm e) (fun o e => b _ _ nc.symm e), tb, ⟨F.St.1.but hq b no, F.St.2⟩, F.D.kp k, F.pm, b _ _ nl.symm F.L, F.lr, F.lc, F.no⟩, k⟩
/-- a change of the store itself -/
theorem F65.fr {T : List (Addr × Str)} {C r cc lp d d' : Addr} {ls : List (List Nat)} {a a' : SAd} {S S' : Sto} {cs cs' : Cts} {G G' : Hp} (F : F65 T K C r cc lp d ls a S cs G) (hS : StH K C a' S' G') (fr : FrS a G G') (hown : ∀ b, Own a' b → Own a b ∨ G b = none) (hd : CtA K G' d' cs') (pm : cs'.Perm S'.cur) : F65 T K C r cc lp d' ls a' S' cs' G' := by
  have no : ∀ {b : Addr} {o : HO}, G b = some o → ¬ Own a b → ¬ Own a' b := fun {b o} e n w => by
    rcases hown b w with h | h
    · exact n h
    · rw [h] at e; cases e
  obtain ⟨n1, n2, n3⟩ := F.no
  obtain ⟨ys, hr⟩ := F.R.lst
  obtain ⟨o2, hc⟩ : ∃ o, G cc = some o := by
    obtain ⟨_, _, _, _, _, h, _⟩ := F.R
    exact ⟨_, h⟩
  exact ⟨F.R.keep (fun o e => fr _ _ e n1) (fun o e => fr _ _ e n2), tabs_fr F.St.1 fr F.tb, hS, hd, pm, fr _ _ F.L n3, F.lr, F.lc, no hr n1, no hc n2, no F.L n3⟩
theorem F65.setD {T : List (Addr × Str)} {C r cc lp d d' : Addr} {ls : List (List Nat)} {a : SAd} {S : Sto} {cs cs' : Cts} {G : Hp} (F : F65 T K C r cc lp d ls a S cs G) (h : CtA K G d' cs') (p : cs'.Perm S.cur) : F65 T K C r cc lp d' ls a S cs' G :=
  ⟨F.R, F.tb, F.St, h, p, F.L, F.lr, F.lc, F.no⟩
/-- a further list -/
structure LsA (r cc lp : Addr) (a : SAd) (q : Addr) (xs : List V) (G : Hp) : Prop where
  at_ : G q = some (.lst xs)
  nr : q ≠ r
  nc : q ≠ cc
  nl : q ≠ lp
  no : ¬ Own a q
theorem LsA.same {r cc lp q : Addr} {a : SAd} {xs : List V} {G G' : Hp} (h : LsA r cc lp a q xs G) (s : Same G G') : LsA r cc lp a q xs G' := ⟨s _ _ h.at_, h.nr, h.nc, h.nl, h.no⟩
theorem LsA.but {r cc lp q : Addr} {a : SAd} {xs : List V} {G G' : Hp} (h : LsA r cc lp a q xs G) (b : But r G G') : LsA r cc lp a q xs G' := ⟨b _ _ h.nr h.at_, h.nr, h.nc, h.nl, h.no⟩
theorem LsA.extN {r cc lp q : Addr} {a : SAd} {xs : List V} {G G' : Hp} (h : LsA r cc lp a q xs G) (e : LamX.ExtN G G') : LsA r cc lp a q xs G' := ⟨e _ _ h.at_ (fun _ => nofun), h.nr, h.nc, h.nl, h.no⟩
theorem F65.fresh {T : List (Addr × Str)} {C r cc lp d q : Addr} {ls : List (List Nat)} {a : SAd} {S : Sto} {cs : Cts} {G G' : Hp} {xs : List V} (F : F65 T K C r cc lp d ls a S cs G) (n : G q = none) (h : G' q = some (.lst xs)) : LsA r cc lp a q xs G' := by
  have no : ¬ Own a q := fun z => by
    obtain ⟨_, _, _, _, h1, _, h3, _, h5, _, _⟩ := F.St.1
    rcases z with rfl | rfl | rfl
    · rw [n] at h1; cases h1
    · rw [n] at h3; cases h3
    · rw [n] at h5; cases h5
  exact ⟨h, (F.R.ne n).1, (F.R.ne n).2, (fun z => by rw [z, F.L] at n; cases n), no⟩
def ZZ : List Nat := [122, 122, 122, 122, 122]
theorem zz_eq : Str.ofString "zzzzz" = sL ZZ := by decide +kernel
theorem zz_lb : isLb ZZ = true := by decide +kernel
theorem zz_no {cs : Cts} (h : ∀ e ∈ cs, LbN e.1) : hasC cs ZZ = false := by
  cases c : hasC cs ZZ with
  | false => rfl
  | true =>
    obtain ⟨e, he, ez⟩ := List.mem_map.mp (has_mem.mp c)
    obtain ⟨x, hs, hx, hz⟩ := h e he
    rw [ez] at hz
    have hm : x ∈ ZZ := by
      rcases hz with hz | hz
      · rw [hz]; simp
      · rw [hz]; simp
    have h2 : ∀ c ∈ ZZ, c = 122 := by decide
    have := h2 x hm
    omega
/-- a store that came later stands beside -/
theorem same_fr {G0 G1 G2 : Hp} {b : SAd} (s : Same G0 G1) (f : FrS b G1 G2) (h : ∀ c, Own b c → G0 c = none) : Same G0 G2 := fun c o e => f c o (s c o e) fun w => by rw [h c w] at e; cases e
theorem snap_dp {z : List Nat} (h : Asc z) : SeqAt.shaped (.str (sL z)) = true := by
  unfold SeqAt.shaped
  rw [asc_ok h]
  rfl
theorem snC_asc {es : Cts} (h : ∀ e ∈ es, isLb e.1 = true) : Asc (snC es) := by
  intro c hc
  unfold snC at hc
  obtain ⟨e, he, hc⟩ := List.mem_flatMap.mp hc
  rcases List.mem_append.mp hc with hc | hc
  · rcases List.mem_append.mp hc with hc | hc
    · have := lb_low (h e he) c hc
      omega
    · rcases List.mem_cons.mp hc with hc | hc
      · omega
      · rcases cs_signs _ _ hc with hc | hc | hc <;> omega
  · rw [List.mem_singleton.mp hc]
    decide
theorem ok_law71 {g0 g1 g2 g3 g4 g5 g6 g7 g8 : Addr} {h0 h1 h2 h3 h4 h5 h6 h7 h8 : FuncData} {C_Store fI fQ u0 u1 u2 u3 u4 u5 : Addr} {A0 : EAd} {fdI fdQ v0 v1 v2 v3 v4 v5 : FuncData} (F : Fun K "law" "law" s_law f fd) (B : Blt mg)
    (d__law_draws : D K mg "_law_draws" s__law_draws ["_law_script"] g0 h0) (d__law_draw : D K mg "_law_draw" s__law_draw ["_law_rng", "_law_amount"] g1 h1) (d__law_same : D K mg "_law_same" s__law_same ["_law_result_here", "_law_expected"] g2 h2) (d__law_matches : D K mg "_law_matches" s__law_matches ["_law_store", "_law_current"] g3 h3) (d__law_any_store : D K mg "_law_any_store" s__law_any_store ["_law_rng", "_law_many"] g4 h4) (d__law_contents : D K mg "_law_contents" s__law_contents ["_law_store"] g5 h5) (d__law_snapshot : D K mg "_law_snapshot" s__law_snapshot ["_law_current"] g6 h6) (d_dump : D K mg "dump" s_dump ["store"] g7 h7) (d_load : D K mg "load" s_load ["text"] g8 h8)
    (G__law_matches : FnOk P w K mg base CX0 21 g3 h3 ["_law_store", "_law_current"] (spMatP K C_Store)) (G__law_any_store : FnOk P w K mg base CX0 45 g4 h4 ["_law_rng", "_law_many"] (spAnySt K C_Store))
    (G__law_contents : FnOk P w K mg base CX0 5 g5 h5 ["_law_store"] (spCont K C_Store)) (G__law_snapshot : FnOk P w K mg base CX0 8 g6 h6 ["_law_current"] (spSnap K)) (G_dump : FnOk P w K mg base CX0 9 g7 h7 ["store"] (spDump K C_Store)) (G_load : FnOk P w K mg base CX0 6 g8 h8 ["text"] (spLoad K C_Store))
    (T_Store : StT K mg C_Store) (MKS : L2.Mk K C_Store fI) (GI : FnOk P w K mg base CX0 1 fI fdI ["self"] (spSInit K C_Store)) (bI : Binds K fdI ["self"] [])
    (TE : StE K C_Store fQ) (GQ : FnOk P w K mg base CX0 1 fQ fdQ ["self", "other"] (spSEq K C_Store)) (bQ : Binds K fdQ ["self", "other"] [])
    (d_Store_labels : Mt K C_Store "labels" "Store.labels" s_Store_labels ["self"] u0 v0) (d_Store_history : Mt K C_Store "history" "Store.history" s_Store_history ["self"] u1 v1) (d_Store_term : Mt K C_Store "term" "Store.term" s_Store_term ["self", "label"] u2 v2) (d_Store_undo : Mt K C_Store "undo" "Store.undo" s_Store_undo ["self"] u3 v3) (d_Store_redo : Mt K C_Store "redo" "Store.redo" s_Store_redo ["self"] u4 v4) (d_Store_add : Mt K C_Store "add" "Store.add" s_Store_add ["self", "label", "term"] u5 v5) (G_Store_labels : FnOk P w K mg base CX0 1 u0 v0 ["self"] (spSLabs K C_Store)) (G_Store_history : FnOk P w K mg base CX0 1 u1 v1 ["self"] (spSHist K C_Store)) (G_Store_term : FnOk P w K mg base (L2N.CX P w) 4 u2 v2 ["self", "label"] (spSTerm K C_Store A0))
    (G_Store_undo : FnOk P w K mg base (L2N.CX P w) 1 u3 v3 ["self"] (spSUndo K C_Store A0)) (G_Store_redo : FnOk P w K mg base (L2N.CX P w) 1 u4 v4 ["self"] (spSRedo K C_Store A0)) (G_Store_add : FnOk P w K mg base (L2N.CX P w) 5 u5 v5 ["self", "label", "term"] (spSAdd K C_Store A0)) :
    FnOk P w K mg base CX0 60 f fd ["_law_script"] (spLaw K) := by
  have G__law_draws : FnOk P w K mg base CX0 1 g0 h0 ["_law_script"] (spDraws K) := ok__law_draws d__law_draws B
  have G__law_draw : FnOk P w K mg base CX0 1 g1 h1 ["_law_rng", "_law_amount"] spDrawC := ok__law_drawC d__law_draw B
  have G__law_same : FnOk P w K mg base CX0 14 g2 h2 ["_law_result_here", "_law_expected"] (spSame K 14) := ok__law_same d__law_same B 14
  refine F.ok sc_law (fun vs H Q E h => ?_) (fun cdv A outer s H vs Q E hr h => ?_)
  · obtain ⟨_, _, rfl, _⟩ := h
    rfl
  obtain ⟨a0, ns, rfl, hS, q⟩ := h
  refine ⟨_, (pss_cons (ps_set (i := 1) sc_law.nd rfl (Or.inl rfl) (pe_call G__law_draws (hr.mono (by decide)) rfl d__law_draws.m d__law_draws.F.kp d__law_draws.b .nil pass0 (pa_cons (pv 0) pa_nil)))
 (pss_cons (ps_for PassesOwn.never rfl (pi_range1 (by rfl) B.range (pa_cons pe_int pa_nil)) (pg_name (i := 2) sc_law.nd rfl (Or.inl rfl))
  (pss_cons (ps_asg (pe_call G__law_any_store (hr.mono (by decide)) rfl d__law_any_store.m d__law_any_store.F.kp d__law_any_store.b .nil pass0 (pa_cons (pv 1) (pa_cons (pe_call G__law_draw (hr.mono (by decide)) rfl d__law_draw.m d__law_draw.F.kp d__law_draw.b .nil pass0 (pa_cons (pv 1) (pa_cons pe_int pa_nil))) pa_nil))) (pg_tup (by rfl) (pgs_cons (pg_name (i := 3) sc_law.nd rfl (Or.inl rfl)) (pgs_cons (pg_name (i := 4) sc_law.nd rfl (Or.inl rfl)) (pgs_cons (pg_name (i := 5) sc_law.nd rfl (Or.inl rfl)) (pgs_cons (pg_name (i := 6) sc_law.nd rfl (Or.inl rfl)) pgs_nil))))))
 (C8.pss_cut (ps_if (PW.pt (pw_and (pt_cmpR op_gt (pv 6) pe_int (nomark _)) (pw_and1 (pt_cmpR op_eq (pe_call G__law_draw (hr.mono (by decide)) rfl d__law_draw.m d__law_draw.F.kp d__law_draw.b .nil pass0 (pa_cons (pv 1) (pa_cons pe_int pa_nil))) pe_int (nomark _))))) (pss_cons (ps_expr (pe_meth0 (pv 3) T_Store.cl d_Store_undo.m G_Store_undo (hr.mono (by decide)) d_Store_undo.b .nil passF))
 (pss_one (ps_set (i := 4) sc_law.nd rfl (Or.inl rfl) (pe_call G__law_contents (hr.mono (by decide)) rfl d__law_contents.m d__law_contents.F.kp d__law_contents.b .nil pass0 (pa_cons (pv 3) pa_nil))))) pss_nil)
 (pss_cons (ps_set (i := 7) sc_law.nd rfl (Or.inl rfl) (pe_call G_dump (hr.mono (by decide)) rfl d_dump.m d_dump.F.kp d_dump.b .nil pass0 (pa_cons (pv 3) pa_nil)))
 (pss_cons (ps_if (pt_not (pt_val (pe_call G__law_same (hr.mono (by decide)) rfl d__law_same.m d__law_same.F.kp d__law_same.b .nil pass0 (pa_cons (pv 7) (pa_cons (pe_call G__law_snapshot (hr.mono (by decide)) rfl d__law_snapshot.m d__law_snapshot.F.kp d__law_snapshot.b .nil pass0 (pa_cons (pv 4) pa_nil)) pa_nil))))) (pss_one (ps_ret pe_bl)) pss_nil)
 (pss_cons (ps_set (i := 8) sc_law.nd rfl (Or.inr rfl) (pe_call G_load (hr.mono (by decide)) rfl d_load.m d_load.F.kp d_load.b .nil pass0 (pa_cons (pv 7) pa_nil)))
 (pss_cons (ps_if (PW.pt (pw_or (pt_cmpR (op_neO TE.N GQ (hr.mono (by decide)) bQ pass0) (pv 8) (pv 3) (nomark _)) (pw_or (pt_not (pt_val (pe_call G__law_matches (hr.mono (by decide)) rfl d__law_matches.m d__law_matches.F.kp d__law_matches.b .nil pass0 (pa_cons (pv 8) (pa_cons (pv 4) pa_nil))))) (pw_or1 (pt_not (pt_val (pe_call G__law_same (hr.mono (by decide)) rfl d__law_same.m d__law_same.F.kp d__law_same.b .nil pass0 (pa_cons (pe_meth0 (pv 8) T_Store.cl d_Store_history.m G_Store_history (hr.mono (by decide)) d_Store_history.b .nil pass0) (pa_cons (pe_tup (pa_cons pe_int (pa_cons pe_int pa_nil))) pa_nil))))))))) (pss_one (ps_ret pe_bl)) pss_nil)
 (pss_one (ps_if (pt_cmpR op_lt (pe_callB call_lenD (by rfl) B.len PySem.boot_len (pa_cons (pv 4) pa_nil)) pe_int (nomark _)) (pss_cons (ps_expr (pe_meth (pv 8) T_Store.cl d_Store_add.m G_Store_add (hr.mono (by decide)) d_Store_add.b .nil passF (pa_cons pe_str (pa_cons (pe_tup pa_nil) pa_nil))))
 (pss_cons (ps_expr (pe_meth0 (pv 8) T_Store.cl d_Store_undo.m G_Store_undo (hr.mono (by decide)) d_Store_undo.b .nil passF))
 (pss_cons (ps_expr (pe_meth0 (pv 8) T_Store.cl d_Store_redo.m G_Store_redo (hr.mono (by decide)) d_Store_redo.b .nil passF))
 (pss_cons (ps_if (PW.pt (pw_or (pt_cmpR (op_eqO TE.q TE.f GQ (hr.mono (by decide)) bQ pass0) (pv 8) (pv 3) (nomark _)) (pw_or (pt_not (pt_val (pe_call G__law_matches (hr.mono (by decide)) rfl d__law_matches.m d__law_matches.F.kp d__law_matches.b .nil pass0 (pa_cons (pv 3) (pa_cons (pv 4) pa_nil))))) (pw_or1 (pt_cmpR op_ne (pe_call G_dump (hr.mono (by decide)) rfl d_dump.m d_dump.F.kp d_dump.b .nil pass0 (pa_cons (pv 3) pa_nil)) (pv 7) (nomark _)))))) (pss_one (ps_ret pe_bl)) pss_nil)
 (pss_one (ps_if (pt_cmpR op_ne (pe_call G_dump (hr.mono (by decide)) rfl d_dump.m d_dump.F.kp d_dump.b .nil pass0 (pa_cons (pv 8) pa_nil)) (pe_call G__law_snapshot (hr.mono (by decide)) rfl d__law_snapshot.m d__law_snapshot.F.kp d__law_snapshot.b .nil pass0 (pa_cons (pe_callTy (call_dictP (by rfl)) (by rfl) B.dict (by decide +kernel) (pa_cons (pe_lc (own := [("_law_label", 9)]) (g := gName 9) (tt := tYes) (by rfl) sc_law.nd (pi_list (pe_meth0 (pv 8) T_Store.cl d_Store_labels.m G_Store_labels (hr.mono (by decide)) d_Store_labels.b .nil pass0)) (blkOk_by (own := [("_law_label", 9)]) (N := ["_law_script", "_law_rng", "_law_turn", "_law_store", "_law_current", "_law_pool", "_law_done", "_law_text", "_law_made", "_law_label"]) (sc := defScope s_law) (by decide +kernel)) (fun _ _ _ _ _ => (pg_name (i := 9) sc_law.nd rfl (Or.inl rfl))) (fun _ _ _ _ _ => pts_nil) (fun _ _ _ _ _ => (pe_tup (pa_cons (pv 9) (pa_cons (pe_meth (pv 8) T_Store.cl d_Store_term.m G_Store_term (hr.mono (by decide)) d_Store_term.b .nil passF (pa_cons (pv 9) pa_nil)) pa_nil))))) pa_nil)) pa_nil)) (nomark _)) (pss_one (ps_ret pe_bl)) pss_nil)))))) pss_nil)))))))))
 (pss_one (ps_ret (pe_and (pe_cmpR op_eq (pe_call G_dump (hr.mono (by decide)) rfl d_dump.m d_dump.F.kp d_dump.b .nil pass0 (pa_cons (pe_make0 MKS GI (hr.mono (by decide)) rfl T_Store.mgC bI .nil pass0) pa_nil)) pe_str (nomark _)) (pe_one (pe_cmpR (op_eqO TE.q TE.f GQ (hr.mono (by decide)) bQ pass0) (pe_call G_load (hr.mono (by decide)) rfl d_load.m d_load.F.kp d_load.b .nil pass0 (pa_cons pe_str pa_nil)) (pe_make0 MKS GI (hr.mono (by decide)) rfl T_Store.mgC bI .nil pass0) (nomark _)))))))), ?_⟩
  have n0 : ∀ {m : Str}, ¬ m = "contents" → ¬ m = "past" → ¬ m = "future" → ∀ c p f, (stf c p f).lookup m = none := fun h1 h2 h3 _ _ _ => stf_no _ _ _ h1 h2 h3
  have nLab := n0 (m := "labels") (by decide +kernel) (by decide +kernel) (by decide +kernel)
  have nHis := n0 (m := "history") (by decide +kernel) (by decide +kernel) (by decide +kernel)
  have nTer := n0 (m := "term") (by decide +kernel) (by decide +kernel) (by decide +kernel)
  have nUnd := n0 (m := "undo") (by decide +kernel) (by decide +kernel) (by decide +kernel)
  have nRed := n0 (m := "redo") (by decide +kernel) (by decide +kernel) (by decide +kernel)
  have nAdd := n0 (m := "add") (by decide +kernel) (by decide +kernel) (by decide +kernel)
  refine ⟨_, rfl, a0, ns, rfl, hS, fun r H1 s1 _ R1 => ?_⟩
  obtain ⟨cc, R1⟩ := R1.toC
  refine ⟨2, rfl, by decide, by decide, for_range (lo := 0) (n := 2) (fun i σ G => ∃ (x2 x3 x4 x5 x6 x7 x8 x9 : Option V), σ = [some (.ref a0), some (.ref r), x2, x3, x4, x5, x6, x7, x8, x9] ∧ RngC G r cc) ⟨none, none, none, none, none, none, none, none, rfl, R1⟩ ?_ ?_⟩
  · clear R1 s1 hS
    rintro i σ G hi ⟨x2, x3, x4, x5, x6, x7, x8, x9, rfl, R1⟩
    refine ⟨_, rfl, _, rfl, r, 21, cc, rfl, R1, by decide, by decide, fun n H2 v0 v1 R2 b2 => ⟨r, cc, n, rfl, R2, v0, by omega, fun p a d lp ls cs past H3 hp F3 b3 hax hap h14 hlb hpl hpo hln hcl hpl2 => ?_⟩⟩
    obtain ⟨n1, n2, n3, n4⟩ := F3.no
    have F : F65 [] K C_Store r cc lp d ls a ⟨cs, past, []⟩ cs H3 := ⟨F3.R, F3.tb, F3.St, F3.D, .refl _, F3.L, F3.lr, F3.lc, n1, n2, n3⟩
    clear F3 b3 b2 R2 R1 n1 n2 n3 n4
    refine ⟨p, _, rfl, hp, rfl, _, _, rfl, _, _, rfl, _, _, rfl, _, _, rfl, rfl, ?_⟩
    clear hp
    refine ⟨fun σ G => ∃ (d : Addr) (S : Sto) (cs : Cts), σ = [some (.ref a0), some (.ref r), some (.int (0 + (i : Int))), some (.ref a.x), some (.ref d), some (.ref lp), some (.int (past.length : Nat)), x7, x8, x9] ∧ F65 [] K C_Store r cc lp d ls a S cs G ∧ S.past.length ≤ 100 ∧ S.fut.length ≤ 1 ∧ ∀ e ∈ S.cur, LbN e.1, ?_, ?_⟩
    · have lab0 : ∀ e ∈ cs, LbN e.1 := fun e he => hln _ (hcl e he)
      refine ⟨_, rfl, _, _, rfl, rfl, _, rfl, ?_⟩
      by_cases c1 : (0 : Int) < (past.length : Nat)
      · refine ite_yes (decide_eq_true c1) ⟨_, rfl, r, 3, cc, rfl, F.R, by decide, by decide, fun v5 H5 _ _ R5 b5 => ⟨rfl, _, rfl, ?_⟩⟩
        have F5 := F.but R5 b5
        by_cases c2 : V.int v5 = V.int 0
        · refine ite_yes (decide_eq_true c2) ?_
          obtain ⟨⟨dx5, c5, ps5, fs5, hx5, hrest5⟩, hS5⟩ := id F5.St
          refine ⟨_, rfl, a.x, dx5, _, rfl, hx5, nUnd _ _ _, a, _, rfl, F5.St.1, hS5.2, Nat.zero_le _, fun z => absurd (congrArg List.length z) (by show ¬ past.length = 0; omega), fun init l he H6 hS6 fr6 => ?_⟩
          have hlm : l ∈ past := by rw [show past = init ++ [l] from he]; simp
          have hl : CtOk l := hpo l hlm
          have hil : init.length + 1 = past.length := by rw [show past = init ++ [l] from he]; simp
          have hS6' : StA K C_Store a ⟨l, init, [cs]⟩ H6 := hS6
          refine ⟨_, rfl, a, ⟨l, init, [cs]⟩, rfl, ⟨hS6', hl, by show init.length ≤ 10000; omega⟩, fun ms d2 H7 hsr s7 nd2 hd2 => ?_⟩
          exact ⟨d2, ⟨l, init, [cs]⟩, rdC l ms, rfl, F5.fr (a' := a) ⟨hS6'.same s7, hl, by show init.length ≤ 10000; omega⟩ (fun b o e n => s7 _ _ (fr6 b o e n)) (fun b h => .inl h) hd2 (rdC_perm hl.nd hsr.1), by show init.length ≤ 100; omega, Nat.le_refl _, fun e he => hln _ (hpl2 l hlm e he)⟩
        · exact ite_no (decide_eq_false c2) ⟨d, ⟨cs, past, []⟩, cs, rfl, F5, by show past.length ≤ 100; omega, Nat.zero_le _, lab0⟩
      · exact ite_no (decide_eq_false c1) (iteF ⟨d, ⟨cs, past, []⟩, cs, rfl, F, by show past.length ≤ 100; omega, Nat.zero_le _, lab0⟩)
    clear F
    rintro σ G ⟨d, S, cs, rfl, F, hpl, hfl, lab⟩
    have hoS : CtOk S.cur := F.St.2.1
    have hoc : CtOk cs := F.ok
    have lkE : ∀ z, lkC cs z = lkC S.cur z := lk_perm F.pm hoc.nd
    refine ⟨_, rfl, a, S, rfl, F.St, fun ms G1 hsr s1 => ?_⟩
    have F1 := F.same s1
    obtain ⟨es, hes⟩ : ∃ es, rdC S.cur ms = es := ⟨_, rfl⟩
    have hpe : es.Perm S.cur := by rw [← hes]; exact rdC_perm hoS.nd hsr.1
    have hoe : CtOk es := hoS.perm hpe.symm
    have hae : AscC es := by rw [← hes]; exact srt_asc hoS hsr
    have hsn : ∀ {ms2 : List (List Nat)}, SrtL ms2 (S.cur.map (·.1)) → rdC S.cur ms2 = es := fun {ms2} h => by rw [h.uniq hsr]; exact hes
    have hsn2 : ∀ {ms2 : List (List Nat)}, SrtL ms2 (cs.map (·.1)) → rdC cs ms2 = es := fun {ms2} h => by
      rw [rdC_lk lkE]
      exact hsn ⟨h.1.trans (F.pm.map _), h.2⟩
    have hasc : Asc (snC es) := snC_asc hoe.lb
    rw [hes]
    refine ⟨_, rfl, _, rfl, d, cs, rfl, F1.D, hoc, fun ms2 G2 hsr2 s2 => ?_⟩
    rw [hsn2 hsr2]
    refine ⟨_, _, .str (sL (snC es)), rfl, .str _, .str _, snap_dp hasc, (by show 0 < 14; decide), rfl, fun G3 s3 => ⟨_, rfl, ite_no rfl ?_⟩⟩
    have F3 := F1.same (s2.trans s3)
    clear F F1 s1 s2 s3
    have hlen : (snC es).length ≤ 1000 := by
      have h1 := snC_len (es := es) fun e he => ⟨hoe.lb e he, (hoe.fit e he).1⟩
      have := hoe.len
      omega
    refine ⟨_, rfl, snC es, es, rfl, hlen, ldT_sn hoe hae, fun x p f' G4 nx np nf s4 hB okB => ?_⟩
    have hown : ∀ f2 : Addr, G3 f2 = none → ∀ c, Own ⟨x, p, f2⟩ c → G3 c = none := fun f2 n c h => by
      rcases h with h | h | h
      · rw [show c = x from h]; exact nx
      · rw [show c = p from h]; exact np
      · rw [show c = f2 from h]; exact n
    have F4 := F3.same s4
    obtain ⟨dxb, cb, psb, fsb, hxb, hrestb⟩ := id hB
    obtain ⟨⟨dxa, ca, psa, fsa, hxa, hresta⟩, hSa⟩ := id F4.St
    refine ⟨_, rfl, _, rfl, x, dxb, _, a.x, dxa, _, rfl, rfl, hxb, hxa, ⟨x, p, f'⟩, a, ⟨es, [], []⟩, S, rfl, ⟨hB, okB, Nat.zero_le _⟩, F4.St, _, rfl, _, rfl, ite_no (by show (!ctEq es S.cur) = false; rw [ctEq_perm hpe hoe.nd]; rfl) ?_⟩
    refine ⟨_, rfl, _, rfl, ⟨x, p, f'⟩, ⟨es, [], []⟩, d, cs, rfl, ⟨hB, okB, Nat.zero_le _⟩, F4.D, F4.pm.trans hpe.symm, fun G5 s5 => ⟨_, rfl, ite_no rfl ?_⟩⟩
    have hB5 := hB.same s5
    refine ⟨_, rfl, x, dxb, _, rfl, s5 _ _ hxb, nHis _ _ _, ⟨x, p, f'⟩, _, rfl, hB5, fun p7 np7 => ⟨two_le, fun p8 np8 => ?_⟩⟩
    have sh1 := Same.new np7 (.tup [.int 0, .int 0])
    have sh2 := Same.new np8 (.tup [.int 0, .int 0])
    refine ⟨.ref p7, .ref p8, .tuple [.int 0, .int 0], rfl, Dp.tup (SqT.here (sh2 _ _ upd_same)) (.cons (.int _) (.cons (.int _) .nil)), Dp.tup (SqT.here upd_same) (.cons (.int _) (.cons (.int _) .nil)), ii_shaped _ _, (by show 1 < 14; decide), rfl, fun G6 s6 => ⟨_, rfl, iteF ?_⟩⟩
    have s56 := (s5.trans (sh1.trans sh2)).trans s6
    have hB6 := hB.same s56
    have s36 := s4.trans s56
    have F6 := F3.same s36
    clear F4 hB5 hB s5 s6 sh1 sh2 np7 np8 hrestb hresta hxb hxa s56 hSa
    obtain ⟨kvs, hk, hK⟩ := id F6.D
    refine ⟨_, rfl, d, kvs, rfl, hk, _, _, rfl, rfl, _, rfl, ?_⟩
    by_cases c12 : cs.length < 12
    · refine ite_yes (decide_eq_true (by rw [hK.len]; omega)) ?_
      obtain ⟨dxb, cb, psb, fsb, hxb, hrestb⟩ := id hB6
      refine ⟨_, rfl, x, dxb, _, rfl, hxb, nAdd _ _ _, zero_le', fun q9 nq9 => ?_⟩
      have ezz : V.str (Str.ofString "zzzzz") = nmV ZZ := congrArg V.str zz_eq
      have s7 := Same.new nq9 (.tup [])
      have hq9 : SqT K (upd G6 q9 (.tup [])) q9 [] := SqT.here upd_same
      generalize (upd G6 q9 (.tup [])) = G7 at *
      have hno : hasC es ZZ = false := by
        rw [has_perm hpe hoe.nd]
        exact zz_no lab
      have hle : es.length < 12 := by rw [hpe.length_eq, ← F6.pm.length_eq]; exact c12
      have hap : opAdd es ZZ (some .L) = .ok (putC es ZZ .L) := by
        unfold opAdd chkL withN
        rw [zz_lb, hno, if_neg (by decide), if_neg (by decide)]
        show (if 12 ≤ es.length then Except.error SE.lim else Except.ok (putC es ZZ .L)) = _
        rw [if_neg (by omega)]
      have okP : CtOk (putC es ZZ .L) := hoe.new hno hle zz_lb (by decide) (by decide)
      have hB7 := hB6.same s7
      refine ⟨⟨x, p, f'⟩, ⟨es, [], []⟩, ZZ, .ref q9, some .L, (by show [V.ref x, V.str (Str.ofString "zzzzz"), V.ref q9] = _; rw [ezz]), ⟨hB7, hoe, Nat.zero_le _⟩, by decide, ⟨_, NT.of (ta_leaf hq9) (by decide), by decide, .inr ⟨.L, rfl, rfl, by decide, by decide⟩⟩, (fun e he => absurd (hap.symm.trans he) nofun), fun cs' hc f2 G8 nf2 hS8 fr8 => ?_⟩
      have hc : opAdd es ZZ (some .L) = .ok cs' := hc
      rw [hap] at hc
      cases hc
      have s37 := s36.trans s7
      have nf2' := s37.free nf2
      have s38 := same_fr s37 fr8 (hown f' nf)
      obtain ⟨dx8, c8, ps8, fs8, hx8, hrest8⟩ := id hS8
      refine ⟨_, rfl, x, dx8, _, rfl, hx8, nUnd _ _ _, ⟨x, p, f2⟩, _, rfl, hS8, (show 1 ≤ 10000 by decide), Nat.zero_le _, fun z => absurd z (by simp), fun init l he G9 hS9 fr9 => ?_⟩
      obtain ⟨e1, e2⟩ := List.append_inj' (show [] ++ [es] = init ++ [l] from he) rfl
      cases e1
      cases e2
      have s39 := same_fr s38 fr9 (hown f2 nf2')
      obtain ⟨dx9, c9, ps9, fs9, hx9, hrest9⟩ := id hS9
      refine ⟨_, rfl, x, dx9, _, rfl, hx9, nRed _ _ _, ⟨x, p, f2⟩, _, rfl, hS9, Nat.zero_le _, (show 1 ≤ 10000 by decide), fun z => absurd z (by simp), fun init l he G10 hSA fr10 => ?_⟩
      obtain ⟨e1, e2⟩ := List.append_inj' (show [] ++ [putC es ZZ .L] = init ++ [l] from he) rfl
      cases e1
      cases e2
      have s3A := same_fr s39 fr10 (hown f2 nf2')
      have FA := F3.same s3A
      have hSA : StA K C_Store ⟨x, p, f2⟩ ⟨putC es ZZ .L, [es], []⟩ G10 := hSA
      clear F6 hB6 hB7 hS8 hS9 fr8 fr9 fr10 s38 s39 hrest8 hrest9 hrestb hx8 hx9 hxb hq9 nq9 hk hK s37 s36
      obtain ⟨dxb, cb, psb, fsb, hxb, hrestb⟩ := id hSA
      obtain ⟨⟨dxa, ca, psa, fsa, hxa, hresta⟩, hSa⟩ := id FA.St
      have hlp : (putC es ZZ .L).length = es.length + 1 := by
        unfold putC
        rw [if_neg (by rw [hno]; decide), List.length_append]
        rfl
      refine ⟨_, rfl, _, rfl, x, dxb, _, .ref C_Store, rfl, hxb, .ins hxa, TE.nC, ⟨x, p, f2⟩, a, ⟨putC es ZZ .L, [es], []⟩, S, rfl, ⟨hSA, okP, by show 1 ≤ 10000; decide⟩, FA.St, _, rfl, _, rfl, ite_no (ctEq_len (by show (putC es ZZ .L).length ≠ S.cur.length; rw [hlp, hpe.length_eq]; omega)) ?_⟩
      refine ⟨_, rfl, _, rfl, a, S, d, cs, rfl, FA.St, FA.D, FA.pm, fun GB sB => ⟨_, rfl, ite_no rfl ?_⟩⟩
      have FB := FA.same sB
      refine ⟨_, rfl, a, S, rfl, FB.St, fun ms3 GC hs3 sC => ?_⟩
      rw [hsn hs3]
      refine ⟨_, rfl, rfl, _, rfl, ite_no (by rw [decide_eq_true rfl]; rfl) ?_⟩
      have hSC := (hSA.same sB).same sC
      have FC := FB.same sC
      clear FA FB hSA sB sC hrestb hresta hxa hxb hSa
      refine ⟨_, rfl, ⟨x, p, f2⟩, ⟨putC es ZZ .L, [es], []⟩, rfl, ⟨hSC, okP, by show 1 ≤ 10000; decide⟩, fun ms4 GD hs4 sD => ?_⟩
      have hSD := hSC.same sD
      obtain ⟨dx6, c6, ps6, fs6, hx6, hrest6⟩ := id hSD
      refine ⟨_, rfl, x, dx6, _, rfl, hx6, nLab _ _ _, ⟨x, p, f2⟩, ⟨putC es ZZ .L, [es], []⟩, rfl, hSD, okP.len, fun ms p7 hsr5 np7 => ⟨p7, rfl, ⟨_, SqL.here upd_same⟩, ?_⟩⟩
      have hml : ms.length ≤ 12 := by
        have h3 : ms.length = ((putC es ZZ .L).map (·.1)).length := hsr5.1.length_eq
        rw [List.length_map] at h3
        have := okP.len
        omega
      have s7 := Same.new np7 (.lst (ms.map nmV))
      have hp7 : (upd GD p7 (.lst (ms.map nmV))) p7 = some (.lst (ms.map nmV)) := upd_same
      generalize (upd GD p7 (.lst (ms.map nmV))) = H7 at *
      refine fun D nD => lc_list (xs := ms.map nmV) (fun i G => Same H7 G ∧ ∃ (qs : List Addr) (kvs : List (L2.Key × V)), G D = some (.lst (qs.map V.ref)) ∧ PrC K G qs kvs (rdC (putC es ZZ .L) (ms.take i))) ⟨Same.new nD _, [], [], upd_same, .nil⟩ (fun i G _ h => SqL.here (h.1 _ _ hp7)) ?_ ?_
      · rintro i x9 G hx0 ⟨sG, qs, kvs, hD, hPr⟩
        rw [List.getElem?_map] at hx0
        obtain ⟨y, hy, rfl⟩ := Option.map_eq_some_iff.mp hx0
        have hym := hsr5.1.mem_iff.mp (List.mem_of_getElem? hy)
        obtain ⟨e0, he0, ey⟩ := List.mem_map.mp hym
        have hlb0 := okP.lb e0 he0
        rw [ey] at hlb0
        have hyl := (lb_len hlb0).2
        have hlk : lkC (putC es ZZ .L) y = some e0.2 := lk_of_mem okP.nd (by rw [← ey]; exact he0)
        refine ⟨rfl, ?_⟩
        have sD2 := s7.trans sG
        refine ⟨_, rfl, _, rfl, x, dx6, _, rfl, sD2 _ _ hx6, nTer _ _ _, _, rfl, ⟨x, p, f2⟩, ⟨putC es ZZ .L, [es], []⟩, y, rfl, hSD.same sD2, by omega, fun e => absurd e (by rw [hlk]; exact nofun), fun t1 e v hv => ⟨two_le, fun p8 np8 => ?_⟩⟩
        rw [hlk] at e
        cases e
        have s8 := Same.new np8 (.tup [nmV y, v])
        have nDp : D ≠ p8 := ne_of_none hD np8
        refine ⟨_, by rw [upd_ne nDp]; exact hD, by rw [List.length_map]; exact small1000 (by have := hPr.len; unfold rdC at this; rw [List.length_map, List.length_take] at this; omega), fun b o e => ?_, qs ++ [p8], kvs ++ [(nmK y, v)], ?_, ?_⟩
        · rw [upd_ne (ne_of_none e nD)]
          exact s8 _ _ (sG _ _ e)
        · rw [upd_same, List.map_append]
          rfl
        · have tp : Tp G (upd (upd G p8 (.tup [nmV y, v])) D (.lst (qs.map V.ref ++ [V.ref p8]))) := fun b xs hb => by
            rcases hb with hb | ⟨o, hb⟩
            · have nb : b ≠ D := fun z => by rw [z, hD] at hb; cases hb
              exact .inl (by rw [upd_ne nb]; exact s8 _ _ hb)
            · have nb : b ≠ D := fun z => by rw [z, hD] at hb; cases hb
              exact .inr ⟨o, by rw [upd_ne nb]; exact s8 _ _ hb⟩
          have eR : rdC (putC es ZZ .L) (ms.take (i + 1)) = rdC (putC es ZZ .L) (ms.take i) ++ [(y, e0.2)] := by
            unfold rdC
            rw [take_snocS hy, List.map_append]
            show _ ++ [(y, (lkC (putC es ZZ .L) y).getD .L)] = _
            rw [hlk]
            rfl
          rw [eR]
          exact (hPr.tp tp).snoc (SqT.here (by rw [upd_ne nDp.symm, upd_same])) (ta_mono tp hv)
      · rintro G ⟨sG, qs, kvs, hD, hPr⟩
        have hPr := (show PrC K G qs kvs (rdC (putC es ZZ .L) ms) by rw [List.length_map, List.take_length] at hPr; exact hPr)
        have hpm := rdC_perm okP.nd hsr5.1
        have hok2 : CtOk (rdC (putC es ZZ .L) ms) := okP.perm hpm.symm
        refine ⟨D, qs, kvs, rfl, SqL.here hD, hPr.paired, fun p8 np8 => ?_⟩
        rw [merge_nd kvs [] (by rw [List.nil_append]; exact hPr.ct.nodup hok2.nd), List.nil_append]
        have s8 := Same.new np8 (.dK kvs)
        have hd8 : CtA K (upd G p8 (.dK kvs)) p8 (rdC (putC es ZZ .L) ms) := ⟨kvs, upd_same, hPr.ct.tp (Tp.same s8)⟩
        have sT := ((sD.trans s7).trans sG).trans s8
        generalize (upd G p8 (.dK kvs)) = G8 at *
        refine ⟨p8, _, rfl, hd8, hok2, fun ms6 G9 hs6 s9 => ?_⟩
        have e6 : rdC (rdC (putC es ZZ .L) ms) ms6 = rdC (putC es ZZ .L) ms4 := by
          rw [rdC_lk (lk_perm hpm hok2.nd), (SrtL.uniq ⟨hs6.1.trans (hpm.map _), hs6.2⟩ hs4)]
        rw [e6]
        refine ⟨rfl, _, rfl, ite_no (by rw [decide_eq_true rfl]; rfl) ?_⟩
        exact ⟨_, _, _, _, _, _, _, _, rfl, (FC.same (sT.trans s9)).R⟩
    · refine ite_no (decide_eq_false (by rw [hK.len]; omega)) ?_
      exact ⟨_, _, _, _, _, _, _, _, rfl, F6.R⟩
  · rintro σ G ⟨x2, x3, x4, x5, x6, x7, x8, x9, rfl, R1⟩
    have srt0 : ∀ {ms : List (List Nat)}, SrtL ms (([] : Cts).map (·.1)) → ms = [] := fun {ms} h => h.1.eq_nil
    refine fun x dx nx ndx ney => ⟨x, dx, rfl, upd_same, fun p f' G2 np nf hSt hb => ⟨rfl, ?_⟩⟩
    refine ⟨⟨x, p, f'⟩, ⟨[], [], []⟩, rfl, ⟨hSt, ctok_nil, Nat.zero_le _⟩, fun ms G3 hs s3 => ?_⟩
    rw [srt0 hs]
    have e0 : (Str.ofString "") = sL [] := by decide +kernel
    refine ⟨rfl, _, rfl, ite_yes (decide_eq_true (by rw [e0]; rfl)) ?_⟩
    refine ⟨[], [], (by rw [e0]; rfl), by decide, ldT_sn (es := []) ctok_nil List.Pairwise.nil, fun x1 p1 f1 G4 nx1 np1 nf1 s4 hB okB => ?_⟩
    refine fun x2 dx2 nx2 ndx2 ney2 => ⟨x2, dx2, rfl, upd_same, fun p2 f2 G5 np2 nf2 hSt2 hb2 => ⟨rfl, ?_⟩⟩
    have sI : Same G4 (upd (upd G4 dx2 (.own x2)) x2 (.ins C_Store dx2 [])) := (Same.new ndx2 (.own x2)).trans (Same.new (by rw [upd_ne ney2.symm]; exact nx2) _)
    have s5 : Same G4 G5 := fun b o e => hb2 b o (fun z => by rw [z, nx2] at e; cases e) (sI _ _ e)
    have hB5 := hB.same s5
    obtain ⟨dxb, cb, psb, fsb, hxb, hrestb⟩ := id hB5
    obtain ⟨dxa, ca, psa, fsa, hxa, hresta⟩ := id hSt2
    refine ⟨x1, dxb, _, .ref C_Store, rfl, hxb, .ins hxa, TE.nC, ⟨x1, p1, f1⟩, ⟨x2, p2, f2⟩, ⟨[], [], []⟩, ⟨[], [], []⟩, rfl, ⟨hB5, ctok_nil, Nat.zero_le _⟩, ⟨hSt2, ctok_nil, Nat.zero_le _⟩, _, rfl, ?_⟩
    rw [show ctEq ([] : Cts) [] = true from rfl]
    exact q _
theorem kb_ext {kV doc pm cd ct : Value} {an : Option Addr} : KBn K (PySem.W.fnOf "extract" "Store.extract" (defArgs s_Store_extract) (defBody s_Store_extract) (defScope s_Store_extract) .none kV doc pm an cd ct) ["self", "label", "source", "right"] 3 ["right"] (fun us ws => us ++ ws) (fun vs zs => vs ++ zs) := by
  refine ⟨fun s us ws _ h1 h2 => ?_, fun r1 r2 => r1.append r2⟩
  match us, ws, h1, h2 with
  | [_, _, _], [_], _, _ => exact .of_eq rfl
theorem kb_rew {kV doc pm cd ct : Value} {an : Option Addr} : KBn K (PySem.W.fnOf "rewrite" "Store.rewrite" (defArgs s_Store_rewrite) (defBody s_Store_rewrite) (defScope s_Store_rewrite) .none kV doc pm an cd ct) ["self", "label", "path", "contract"] 3 ["contract"] (fun us ws => us ++ ws) (fun vs zs => vs ++ zs) := by
  refine ⟨fun s us ws _ h1 h2 => ?_, fun r1 r2 => r1.append r2⟩
  match us, ws, h1, h2 with
  | [_, _, _], [_], _, _ => exact .of_eq rfl
theorem ok_law {C_Store Cp CX fLT fQ fI fIs fP fM ul ue ur fLG fLD fLU : Addr} {A0 : EAd} {fdLT fdQ fdI fdIs fdP fdM vl ve vr fdLG fdLD fdLU : FuncData} {u0 u1 u2 u3 u4 u5 u6 u7 u8 : Addr} {v0 v1 v2 v3 v4 v5 v6 v7 v8 : FuncData} {tk : Tok} {g0 g1 g2 g3 g4 g5 g6 g7 g8 g9 g10 g11 g12 g13 g14 g15 g16 g17 g18 g19 g20 g21 g22 g23 g24 g25 g26 g27 g28 g29 g30 g31 g32 g33 g34 g35 g36 g37 g38 g39 g40 g41 g42 g43 g44 g45 g46 g47 g48 g49 g50 g51 g52 g53 g54 g55 g56 g57 g58 g59 : Addr} {h0 h1 h2 h3 h4 h5 h6 h7 h8 h9 h10 h11 h12 h13 h14 h15 h16 h17 h18 h19 h20 h21 h22 h23 h24 h25 h26 h27 h28 h29 h30 h31 h32 h33 h34 h35 h36 h37 h38 h39 h40 h41 h42 h43 h44 h45 h46 h47 h48 h49 h50 h51 h52 h53 h54 h55 h56 h57 h58 h59 : FuncData} (d_law : D K mg "law" s_law ["_law_script"] f fd) (B : Blt mg) (C : Cst mg) (CS : CstS mg)
    (FLG : FunS P K mg "TooLarge" "TooLarge.__init__" s_TLInit ["self", "size"] A0.big fLG fdLG) (nLG : PySem.W.findIn K (.ref A0.big) "size" = some none)
    (FLD : FunS P K mg "DuplicateName" "DuplicateName.__init__" s_DNInit ["self", "name"] A0.dup fLD fdLD) (nLD : PySem.W.findIn K (.ref A0.dup) "name" = some none)
    (FLU : FunS P K mg "UnknownName" "UnknownName.__init__" s_UNInit ["self", "name"] A0.unk fLU fdLU) (nLU : PySem.W.findIn K (.ref A0.unk) "name" = some none)
    (EL : ErrC K mg "InvalidLabel" A0.lab) (EI : ErrC K mg "InvalidTerm" A0.term) (EP : ErrC K mg "InvalidPath" A0.path) (EN : ErrC K mg "PathNotFound" A0.pnf) (ER : ErrC K mg "NotRewritable" A0.nrw) (EM : ErrC K mg "LimitReached" A0.lim) (EY : ErrC K mg "EmptyHistory" A0.empty)
    (FLT : FunS P K mg "InvalidText" "InvalidText.__init__" s_ITInit ["self", "position"] CX fLT fdLT) (nLT : PySem.W.findIn K (.ref CX) "position" = some none)
    (GEN : ∃ t, mg "GENERATOR" = some (.int 0 t)) (C_MAX_PATH : mg "MAX_PATH" = some (.int 60 tk))
    (T : PoolT K mg Cp) (MM : L2.Mk K Cp fI) (FI : Fun K "__init__" "Pool.__init__" s_PInit fI fdI) (bI : Binds K fdI ["self"] []) (FP : Fun K "pair" "Pool.pair" s_PPair fP fdP) (bP : Binds K fdP ["self", "left", "right"] []) (mP : Meth K Cp "pair" fP)
    (FN : Fun K "number_of" "Pool.number_of" s_PNum fM fdM) (bN : Binds K fdM ["self", "term"] []) (mN : Meth K Cp "number_of" fM)
    (T_Store : StT K mg C_Store) (MKS : L2.Mk K C_Store fIs) (FIs : Fun K "__init__" "Store.__init__" s_Store___init__ fIs fdIs) (bIs : Binds K fdIs ["self"] [])
    (hsL : PySem.W.findIn K (.ref C_Store) "__len__" = some (some (.ref ul))) (hfL : PySem.W.isFn K (.ref ul) = true) (FL : Fun K "__len__" "Store.__len__" s_Store___len__ ul vl) (bL : Binds K vl ["self"] [])
    (d_Store_record : Mt K C_Store "record" "Store.record" s_Store_record ["self", "contents"] u0 v0) (d_Store_history : Mt K C_Store "history" "Store.history" s_Store_history ["self"] u1 v1) (d_Store_term : Mt K C_Store "term" "Store.term" s_Store_term ["self", "label"] u2 v2) (d_Store_labels : Mt K C_Store "labels" "Store.labels" s_Store_labels ["self"] u3 v3) (d_Store_add : Mt K C_Store "add" "Store.add" s_Store_add ["self", "label", "term"] u4 v4) (d_Store_combine : Mt K C_Store "combine" "Store.combine" s_Store_combine ["self", "label", "left", "right"] u5 v5) (d_Store_delete : Mt K C_Store "delete" "Store.delete" s_Store_delete ["self", "label"] u6 v6) (d_Store_undo : Mt K C_Store "undo" "Store.undo" s_Store_undo ["self"] u7 v7) (d_Store_redo : Mt K C_Store "redo" "Store.redo" s_Store_redo ["self"] u8 v8)
    (FE : Fun K "extract" "Store.extract" s_Store_extract ue ve) (mE : Meth K C_Store "extract" ue) (kbE : KBn K ve ["self", "label", "source", "right"] 3 ["right"] (fun us ws => us ++ ws) (fun vs zs => vs ++ zs))
    (FR : Fun K "rewrite" "Store.rewrite" s_Store_rewrite ur vr) (mR : Meth K C_Store "rewrite" ur) (kbR : KBn K vr ["self", "label", "path", "contract"] 3 ["contract"] (fun us ws => us ++ ws) (fun vs zs => vs ++ zs))
    (TE : StE K C_Store fQ) (FQ : Fun K "__eq__" "Store.__eq__" s_Store___eq__ fQ fdQ) (bQ : Binds K fdQ ["self", "other"] [])
    (d_is_pair : D K mg "is_pair" s_is_pair ["part"] g0 h0) (d_is_term : D K mg "is_term" s_is_term ["term"] g1 h1) (d_check_term : D K mg "check_term" s_check_term ["term"] g2 h2) (d_check_path : D K mg "check_path" s_check_path ["path"] g3 h3) (d_numbers_along : D K mg "numbers_along" s_numbers_along ["pool", "number", "path"] g4 h4) (d_expanded : D K mg "expanded" s_expanded ["pool", "number"] g5 h5) (d_contracted : D K mg "contracted" s_contracted ["pool", "number"] g6 h6) (d_rewritten : D K mg "rewritten" s_rewritten ["pool", "number", "expanding"] g7 h7) (d_rewritten_at : D K mg "rewritten_at" s_rewritten_at ["pool", "number", "path", "expanding"] g8 h8) (d_rewritten_term : D K mg "rewritten_term" s_rewritten_term ["term", "path", "expanding"] g9 h9) (d_generators_in : D K mg "generators_in" s_generators_in ["term"] g10 h10) (d_is_label : D K mg "is_label" s_is_label ["label"] g11 h11) (d_check_new_label : D K mg "check_new_label" s_check_new_label ["contents", "label"] g12 h12) (d_known_term : D K mg "known_term" s_known_term ["contents", "label"] g13 h13) (d_check_made_term : D K mg "check_made_term" s_check_made_term ["term"] g14 h14) (d_with_new : D K mg "with_new" s_with_new ["contents", "label", "term"] g15 h15) (d_after_add : D K mg "after_add" s_after_add ["contents", "label", "term"] g16 h16) (d_after_combine : D K mg "after_combine" s_after_combine ["contents", "label", "left", "right"] g17 h17) (d_after_extract : D K mg "after_extract" s_after_extract ["contents", "label", "source", "right"] g18 h18) (d_after_rewrite : D K mg "after_rewrite" s_after_rewrite ["contents", "label", "path", "contract"] g19 h19) (d_after_delete : D K mg "after_delete" s_after_delete ["contents", "label"] g20 h20) (d_store_of : D K mg "store_of" s_store_of ["contents"] g21 h21) (d_has_room : D K mg "has_room" s_has_room ["open_lists"] g22 h22) (d_read_term : D K mg "read_term" s_read_term ["text"] g23 h23) (d_parse_term : D K mg "parse_term" s_parse_term ["text"] g24 h24) (d_written : D K mg "written" s_written ["term"] g25 h25) (d_format_term : D K mg "format_term" s_format_term ["term"] g26 h26) (d_term_in_row : D K mg "term_in_row" s_term_in_row ["at", "written"] g27 h27) (d_load : D K mg "load" s_load ["text"] g28 h28) (d_dump : D K mg "dump" s_dump ["store"] g29 h29) (d__law_draws : D K mg "_law_draws" s__law_draws ["_law_script"] g30 h30) (d__law_draw : D K mg "_law_draw" s__law_draw ["_law_rng", "_law_amount"] g31 h31) (d__law_pick : D K mg "_law_pick" s__law_pick ["_law_rng", "_law_terms"] g32 h32) (d__law_same : D K mg "_law_same" s__law_same ["_law_result_here", "_law_expected"] g33 h33) (d__law_term : D K mg "_law_term" s__law_term ["_law_rng", "_law_many", "_law_cap"] g34 h34) (d__law_comb : D K mg "_law_comb" s__law_comb ["_law_many", "_law_onleft"] g35 h35) (d__law_any_term : D K mg "_law_any_term" s__law_any_term ["_law_rng", "_law_top"] g36 h36) (d__law_size : D K mg "_law_size" s__law_size ["_law_term_here"] g37 h37) (d__law_depth : D K mg "_law_depth" s__law_depth ["_law_term_here"] g38 h38) (d__law_paths : D K mg "_law_paths" s__law_paths ["_law_term_here", "_law_spot"] g39 h39) (d__law_subterm : D K mg "_law_subterm" s__law_subterm ["_law_term_here", "_law_spot"] g40 h40) (d__law_replace : D K mg "_law_replace" s__law_replace ["_law_term_here", "_law_spot", "_law_new"] g41 h41) (d__law_expanded : D K mg "_law_expanded" s__law_expanded ["_law_some"] g42 h42) (d__law_contracted : D K mg "_law_contracted" s__law_contracted ["_law_some"] g43 h43) (d__law_rewrite : D K mg "_law_rewrite" s__law_rewrite ["_law_term_here", "_law_spot", "_law_onward"] g44 h44) (d__law_steps : D K mg "_law_steps" s__law_steps ["_law_term_here"] g45 h45) (d__law_fits : D K mg "_law_fits" s__law_fits ["_law_term_here", "_law_top"] g46 h46) (d__law_labels : D K mg "_law_labels" s__law_labels ["_law_rng"] g47 h47) (d__law_is_label : D K mg "_law_is_label" s__law_is_label ["_law_label"] g48 h48) (d__law_is_tree : D K mg "_law_is_tree" s__law_is_tree ["_law_term_here"] g49 h49) (d__law_command : D K mg "_law_command" s__law_command ["_law_rng", "_law_pool", "_law_current"] g50 h50) (d__law_computed : D K mg "_law_computed" s__law_computed ["_law_current", "_law_command_here"] g51 h51) (d__law_rewrite_result : D K mg "_law_rewrite_result" s__law_rewrite_result ["_law_current", "_law_command_here"] g52 h52) (d__law_result : D K mg "_law_result" s__law_result ["_law_current", "_law_command_here"] g53 h53) (d__law_run : D K mg "_law_run" s__law_run ["_law_store", "_law_command_here"] g54 h54) (d__law_matches : D K mg "_law_matches" s__law_matches ["_law_store", "_law_current"] g55 h55) (d__law_any_store : D K mg "_law_any_store" s__law_any_store ["_law_rng", "_law_many"] g56 h56) (d__law_format : D K mg "_law_format" s__law_format ["_law_term_here"] g57 h57) (d__law_contents : D K mg "_law_contents" s__law_contents ["_law_store"] g58 h58) (d__law_snapshot : D K mg "_law_snapshot" s__law_snapshot ["_law_current"] g59 h59) :
    FnOk P w K mg base CX0 60 f fd ["_law_script"] (spLaw K) := by
  have G_after_add := ok_after_add (P := P) (w := w) (base := base) (A0 := A0) d_after_add B C CS EL EI EM FLD nLD d_is_label d_check_new_label d_is_pair d_is_term d_check_term d_with_new
  have G_after_combine := ok_after_combine (P := P) (w := w) (base := base) (A0 := A0) d_after_combine B C CS EL EM FLD nLD FLU nLU FLG nLG d_is_label d_check_new_label d_known_term d_is_pair d_is_term d_generators_in d_check_made_term d_with_new
  have G_after_extract := ok_after_extract (P := P) (w := w) (base := base) (A0 := A0) d_after_extract B C CS EL EM FLD nLD FLU nLU EN d_is_label d_check_new_label d_known_term d_with_new
  have G_after_rewrite := ok_after_rewrite (P := P) (w := w) (base := base) (A0 := A0) d_after_rewrite T B C GEN C_MAX_PATH EI EP EN ER FLU nLU FLG nLG MM FI bI FP bP mP FN bN mN d_is_pair d_is_term d_check_term d_check_path d_numbers_along d_expanded d_contracted d_rewritten d_rewritten_at d_rewritten_term d_generators_in d_known_term d_check_made_term
  have G_after_delete := ok_after_delete (P := P) (w := w) (base := base) (A0 := A0) d_after_delete FLU nLU d_known_term
  have GA := ok_Store_add (P := P) (w := w) (base := base) d_Store_add.F T_Store d_Store_record G_after_add d_after_add
  have GC := ok_Store_combine (P := P) (w := w) (base := base) d_Store_combine.F T_Store d_Store_record G_after_combine d_after_combine
  have GE := ok_Store_extract (P := P) (w := w) (base := base) FE T_Store d_Store_record G_after_extract d_after_extract
  have GR := ok_Store_rewrite (P := P) (w := w) (base := base) FR T_Store d_Store_record G_after_rewrite d_after_rewrite
  have GD := ok_Store_delete (P := P) (w := w) (base := base) d_Store_delete.F T_Store d_Store_record FLU nLU d_known_term G_after_delete d_after_delete
  have Grun := ok__law_run (P := P) (w := w) (base := base) d__law_run T_Store d_Store_add d_Store_combine d_Store_delete mE kbE mR kbR GA GC GE GR GD
  have Gmat := ok__law_matches (P := P) (w := w) (base := base) (A0 := A0) d__law_matches B d__law_same T_Store d_Store_labels d_Store_term FLU nLU d_known_term hsL hfL FL bL
  have Gcom := ok__law_command (P := P) (w := w) (base := base) d__law_command B d__law_draw d__law_pick d__law_comb d__law_term d__law_any_term d__law_paths d__law_rewrite d__law_subterm d__law_expanded d__law_replace d__law_contracted d__law_steps
  have Gres := ok__law_result (P := P) (w := w) (base := base) d__law_result B d__law_subterm d__law_expanded d__law_replace d__law_contracted d__law_rewrite d__law_size d__law_depth d__law_fits d__law_rewrite_result d__law_computed d__law_is_label d__law_is_tree
  have Glab := ok__law_labels (P := P) (w := w) (base := base) d__law_labels B d__law_draw d__law_pick
  have Gini := ok_Store___init__ (P := P) (w := w) (base := base) FIs T_Store
  have GLa := ok_Store_labels (P := P) (w := w) (base := base) d_Store_labels.F T_Store B
  have GHi := ok_Store_history (P := P) (w := w) (base := base) d_Store_history.F T_Store B
  have GTe := ok_Store_term (P := P) (w := w) (base := base) (A0 := A0) d_Store_term.F T_Store FLU nLU d_known_term
  have Gany := ok__law_any_store (P := P) (w := w) (base := base) (A0 := A0) d__law_any_store B T_Store MKS FIs bIs d__law_draw d__law_labels d__law_command d__law_result d__law_run Glab Gcom Gres Grun
  have Gund := ok_Store_undo (P := P) (w := w) (base := base) d_Store_undo.F T_Store B EY
  have Gred := ok_Store_redo (P := P) (w := w) (base := base) d_Store_redo.F T_Store B EY
  have GQ := ok_Store___eq__ (P := P) (w := w) (base := base) FQ T_Store TE B
  have Gdum := ok_dump (P := P) (w := w) (base := base) (A0 := A0) d_dump B C EI T_Store d_Store_labels d_Store_term GLa GTe d_is_pair d_is_term d_check_term d_written d_format_term
  have Gloa := ok_load (P := P) (w := w) (base := base) d_load B C CS EI FLT nLT d_is_pair d_is_term d_check_term d_read_term d_has_room d_parse_term d_term_in_row d_is_label T_Store MKS FIs bIs d_store_of
  have Gcon := ok__law_contents (P := P) (w := w) (base := base) (A0 := A0) d__law_contents B T_Store d_Store_labels d_Store_term GLa GTe
  have Gsna := ok__law_snapshot (P := P) (w := w) (base := base) d__law_snapshot B d__law_format
  exact ok_law71 (A0 := A0) d_law.F B d__law_draws d__law_draw d__law_same d__law_matches d__law_any_store d__law_contents d__law_snapshot d_dump d_load Gmat Gany Gcon Gsna Gdum Gloa T_Store MKS Gini bIs TE GQ bQ d_Store_labels d_Store_history d_Store_term d_Store_undo d_Store_redo d_Store_add GLa GHi GTe Gund Gred GA

end
theorem kit_for {K : PySem.W.Frag} {t : Value} {c : Addr} {b : Bool} (ne : (t == Value.ref c) = false) (h1 : PySem.W.isClsIn K c = true) (h2 : PySem.W.typeIn K (.ref c) = some (.type "type")) (h3 : PySem.W.subIn K t (.ref c) = some b) : PySem.W.kitOne K t (.ref c) = some b := by
  have e2 : ((PySem.W.clsIn K c).isSome && PySem.W.typeIn K (.ref c) == some (.type "type")) = true := by
    have h1' : (PySem.W.clsIn K c).isSome = true := h1
    rw [h1', h2] <;> rfl
  unfold PySem.W.kitOne
  rw [ne, if_neg (by decide)]
  show (if ((PySem.W.clsIn K c).isSome && PySem.W.typeIn K (.ref c) == some (.type "type")) = true then PySem.W.subIn K t (.ref c) else none) = some b
  rw [if_pos e2]
  exact h3
theorem all_mk {l : PySem.W.OpenLaw} {w : World} {K : PySem.W.Frag} {h : Heap} {mg : Str → Option Value} {fa : Addr} (X : K.In h) (G : h.Ns mainGlobals mg) (hfa : mg "law" = some (.ref fa))
    {g0 g1 g2 g3 g4 g5 g6 g7 g8 g9 g10 g11 g12 g13 g14 g15 g16 g17 g18 g19 g20 g21 g22 g23 g24 g25 g26 g27 g28 g29 g30 g31 g32 g33 g34 g35 g36 g37 g38 g39 g40 g41 g42 g43 g44 g45 g46 g47 g48 g49 g50 g51 g52 g53 g54 g55 g56 g57 g58 g59 g60 : Addr}
    {od0 an0 od1 an1 od2 an2 od3 an3 od4 an4 od5 an5 od6 an6 od7 an7 od8 an8 od9 an9 od10 an10 od11 an11 od12 an12 od13 an13 od14 an14 od15 an15 od16 an16 od17 an17 od18 an18 od19 an19 od20 an20 od21 an21 od22 an22 od23 an23 od24 an24 od25 an25 od26 an26 od27 an27 od28 an28 od29 an29 od30 an30 od31 an31 od32 an32 od33 an33 od34 an34 od35 an35 od36 an36 od37 an37 od38 an38 od39 an39 od40 an40 od41 an41 od42 an42 od43 an43 od44 an44 od45 an45 od46 an46 od47 an47 od48 an48 od49 an49 od50 an50 od51 an51 od52 an52 od53 an53 od54 an54 od55 an55 od56 an56 od57 an57 od58 an58 od59 an59 od60 an60 : Option Addr}
    {sl0 sl1 sl2 sl3 sl4 sl5 sl6 sl7 sl8 sl9 sl10 sl11 sl12 sl13 sl14 sl15 sl16 sl17 sl18 sl19 sl20 sl21 sl22 sl23 sl24 sl25 sl26 sl27 sl28 sl29 sl30 sl31 sl32 sl33 sl34 sl35 sl36 sl37 sl38 sl39 sl40 sl41 sl42 sl43 sl44 sl45 sl46 sl47 sl48 sl49 sl50 sl51 sl52 sl53 sl54 sl55 sl56 sl57 sl58 sl59 sl60 : Array (Option Value)}
    {oc0 kV0 dc0 pm0 cd0 ct0 oc1 kV1 dc1 pm1 cd1 ct1 oc2 kV2 dc2 pm2 cd2 ct2 oc3 kV3 dc3 pm3 cd3 ct3 oc4 kV4 dc4 pm4 cd4 ct4 oc5 kV5 dc5 pm5 cd5 ct5 oc6 kV6 dc6 pm6 cd6 ct6 oc7 kV7 dc7 pm7 cd7 ct7 oc8 kV8 dc8 pm8 cd8 ct8 oc9 kV9 dc9 pm9 cd9 ct9 oc10 kV10 dc10 pm10 cd10 ct10 oc11 kV11 dc11 pm11 cd11 ct11 oc12 kV12 dc12 pm12 cd12 ct12 oc13 kV13 dc13 pm13 cd13 ct13 oc14 kV14 dc14 pm14 cd14 ct14 oc15 kV15 dc15 pm15 cd15 ct15 oc16 kV16 dc16 pm16 cd16 ct16 oc17 kV17 dc17 pm17 cd17 ct17 oc18 kV18 dc18 pm18 cd18 ct18 oc19 kV19 dc19 pm19 cd19 ct19 oc20 kV20 dc20 pm20 cd20 ct20 oc21 kV21 dc21 pm21 cd21 ct21 oc22 kV22 dc22 pm22 cd22 ct22 oc23 kV23 dc23 pm23 cd23 ct23 oc24 kV24 dc24 pm24 cd24 ct24 oc25 kV25 dc25 pm25 cd25 ct25 oc26 kV26 dc26 pm26 cd26 ct26 oc27 kV27 dc27 pm27 cd27 ct27 oc28 kV28 dc28 pm28 cd28 ct28 oc29 kV29 dc29 pm29 cd29 ct29 oc30 kV30 dc30 pm30 cd30 ct30 oc31 kV31 dc31 pm31 cd31 ct31 oc32 kV32 dc32 pm32 cd32 ct32 oc33 kV33 dc33 pm33 cd33 ct33 oc34 kV34 dc34 pm34 cd34 ct34 oc35 kV35 dc35 pm35 cd35 ct35 oc36 kV36 dc36 pm36 cd36 ct36 oc37 kV37 dc37 pm37 cd37 ct37 oc38 kV38 dc38 pm38 cd38 ct38 oc39 kV39 dc39 pm39 cd39 ct39 oc40 kV40 dc40 pm40 cd40 ct40 oc41 kV41 dc41 pm41 cd41 ct41 oc42 kV42 dc42 pm42 cd42 ct42 oc43 kV43 dc43 pm43 cd43 ct43 oc44 kV44 dc44 pm44 cd44 ct44 oc45 kV45 dc45 pm45 cd45 ct45 oc46 kV46 dc46 pm46 cd46 ct46 oc47 kV47 dc47 pm47 cd47 ct47 oc48 kV48 dc48 pm48 cd48 ct48 oc49 kV49 dc49 pm49 cd49 ct49 oc50 kV50 dc50 pm50 cd50 ct50 oc51 kV51 dc51 pm51 cd51 ct51 oc52 kV52 dc52 pm52 cd52 ct52 oc53 kV53 dc53 pm53 cd53 ct53 oc54 kV54 dc54 pm54 cd54 ct54 oc55 kV55 dc55 pm55 cd55 ct55 oc56 kV56 dc56 pm56 cd56 ct56 oc57 kV57 dc57 pm57 cd57 ct57 oc58 kV58 dc58 pm58 cd58 ct58 oc59 kV59 dc59 pm59 cd59 ct59 oc60 kV60 dc60 pm60 cd60 ct60 : Value}
    {t_MAX_SIZE : Tok}
    {t_MAX_DEPTH : Tok}
    {t_GENERATOR : Tok}
    {t_MAX_PATH : Tok}
    {t_MAX_LABELS : Tok}
    {t_MAX_LABEL : Tok}
    {Cp m0 m1 m2 : Addr} {mod0 man0 mod1 man1 mod2 man2 : Option Addr} {msl0 msl1 msl2 : Array (Option Value)} {moc0 mkV0 mdc0 mpm0 mcd0 mct0 moc1 mkV1 mdc1 mpm1 mcd1 mct1 moc2 mkV2 mdc2 mpm2 mcd2 mct2 : Value} {CpS : Addr} {m0S : Addr} {mod0S man0S : Option Addr} {msl0S : Array (Option Value)} {moc0S mkV0S mdc0S mpm0S mcd0S mct0S : Value} {m1S : Addr} {mod1S man1S : Option Addr} {msl1S : Array (Option Value)} {moc1S mkV1S mdc1S mpm1S mcd1S mct1S : Value} {m2S : Addr} {mod2S man2S : Option Addr} {msl2S : Array (Option Value)} {moc2S mkV2S mdc2S mpm2S mcd2S mct2S : Value} {m3S : Addr} {mod3S man3S : Option Addr} {msl3S : Array (Option Value)} {moc3S mkV3S mdc3S mpm3S mcd3S mct3S : Value} {m4S : Addr} {mod4S man4S : Option Addr} {msl4S : Array (Option Value)} {moc4S mkV4S mdc4S mpm4S mcd4S mct4S : Value} {m5S : Addr} {mod5S man5S : Option Addr} {msl5S : Array (Option Value)} {moc5S mkV5S mdc5S mpm5S mcd5S mct5S : Value} {m6S : Addr} {mod6S man6S : Option Addr} {msl6S : Array (Option Value)} {moc6S mkV6S mdc6S mpm6S mcd6S mct6S : Value} {m7S : Addr} {mod7S man7S : Option Addr} {msl7S : Array (Option Value)} {moc7S mkV7S mdc7S mpm7S mcd7S mct7S : Value} {m8S : Addr} {mod8S man8S : Option Addr} {msl8S : Array (Option Value)} {moc8S mkV8S mdc8S mpm8S mcd8S mct8S : Value} {m9S : Addr} {mod9S man9S : Option Addr} {msl9S : Array (Option Value)} {moc9S mkV9S mdc9S mpm9S mcd9S mct9S : Value} {m10S : Addr} {mod10S man10S : Option Addr} {msl10S : Array (Option Value)} {moc10S mkV10S mdc10S mpm10S mcd10S mct10S : Value} {m11S : Addr} {mod11S man11S : Option Addr} {msl11S : Array (Option Value)} {moc11S mkV11S mdc11S mpm11S mcd11S mct11S : Value} {m12S : Addr} {mod12S man12S : Option Addr} {msl12S : Array (Option Value)} {moc12S mkV12S mdc12S mpm12S mcd12S mct12S : Value} {m13S : Addr} {mod13S man13S : Option Addr} {msl13S : Array (Option Value)} {moc13S mkV13S mdc13S mpm13S mcd13S mct13S : Value} {tN : Addr} {tnm tq : Str} {tbs0 tsub : List Value} {thd tab : Bool} {tsn : List Str} {tcol : Option Bool} {tdd : Option Addr} {tk0 tk1 tk2 tk3 tk5 : Option Value} {tnew : String} {ex0 : Addr} {ex1 : Addr} {ex2 : Addr} {ex3 : Addr} {ex4 : Addr} {ex5 : Addr} {ex6 : Addr} {x5 : Addr} {tf5 tcd5 tcc5 tN5 : Addr} {to5 tkV5 tdc5 tpm5 tct5 tcl5 tccl5 : Value} {td5 tan5 tcdd5 tccd5 tdd5 : Option Addr} {tsl5 tcs5 tccs5 : Array (Option Value)} {tcv5 : Array Value} {tfile5 tnm5 tq5 : Str} {tft5 : Tok} {tbs5 tbm5 tsub5 : List Value} {tsn5 : List Str} {tab5 : Bool} {tcol5 : Option Bool} {tk0_5 tk1_5 tk2_5 tk3_5 tk5_5 : Option Value} {x14 : Addr} {tf14 tcd14 tcc14 tN14 : Addr} {to14 tkV14 tdc14 tpm14 tct14 tcl14 tccl14 : Value} {td14 tan14 tcdd14 tccd14 tdd14 : Option Addr} {tsl14 tcs14 tccs14 : Array (Option Value)} {tcv14 : Array Value} {tfile14 tnm14 tq14 : Str} {tft14 : Tok} {tbs14 tbm14 tsub14 : List Value} {tsn14 : List Str} {tab14 : Bool} {tcol14 : Option Bool} {tk0_14 tk1_14 tk2_14 tk3_14 tk5_14 : Option Value} {x15 : Addr} {tf15 tcd15 tcc15 tN15 : Addr} {to15 tkV15 tdc15 tpm15 tct15 tcl15 tccl15 : Value} {td15 tan15 tcdd15 tccd15 tdd15 : Option Addr} {tsl15 tcs15 tccs15 : Array (Option Value)} {tcv15 : Array Value} {tfile15 tnm15 tq15 : Str} {tft15 : Tok} {tbs15 tbm15 tsub15 : List Value} {tsn15 : List Str} {tab15 : Bool} {tcol15 : Option Bool} {tk0_15 tk1_15 tk2_15 tk3_15 tk5_15 : Option Value} {x1 : Addr} {tf1 tcd1 tcc1 tN1 : Addr} {to1 tkV1 tdc1 tpm1 tct1 tcl1 tccl1 : Value} {td1 tan1 tcdd1 tccd1 tdd1 : Option Addr} {tsl1 tcs1 tccs1 : Array (Option Value)} {tcv1 : Array Value} {tfile1 tnm1 tq1 : Str} {tft1 : Tok} {tbs1 tbm1 tsub1 : List Value} {tsn1 : List Str} {tab1 : Bool} {tcol1 : Option Bool} {tk0_1 tk1_1 tk2_1 tk3_1 tk5_1 : Option Value} {tcL : Tok}
    (a0 : PySem.W.nsIn K mainGlobals "is_pair" = some (some (.ref g0))) (l0 : K.lookup g0 = some ⟨oc0, od0, .func (PySem.W.fnOf "is_pair" "is_pair" (defArgs s_is_pair) (defBody s_is_pair) (defScope s_is_pair) .none kV0 dc0 pm0 an0 cd0 ct0), sl0⟩) (c0 : PySem.W.codeIn K cd0 "is_pair" = true) (k0 : PySem.W.keepIn K (.ref g0) = true)
    (a1 : PySem.W.nsIn K mainGlobals "is_term" = some (some (.ref g1))) (l1 : K.lookup g1 = some ⟨oc1, od1, .func (PySem.W.fnOf "is_term" "is_term" (defArgs s_is_term) (defBody s_is_term) (defScope s_is_term) .none kV1 dc1 pm1 an1 cd1 ct1), sl1⟩) (c1 : PySem.W.codeIn K cd1 "is_term" = true) (k1 : PySem.W.keepIn K (.ref g1) = true)
    (a2 : PySem.W.nsIn K mainGlobals "check_term" = some (some (.ref g2))) (l2 : K.lookup g2 = some ⟨oc2, od2, .func (PySem.W.fnOf "check_term" "check_term" (defArgs s_check_term) (defBody s_check_term) (defScope s_check_term) .none kV2 dc2 pm2 an2 cd2 ct2), sl2⟩) (c2 : PySem.W.codeIn K cd2 "check_term" = true) (k2 : PySem.W.keepIn K (.ref g2) = true)
    (a3 : PySem.W.nsIn K mainGlobals "check_path" = some (some (.ref g3))) (l3 : K.lookup g3 = some ⟨oc3, od3, .func (PySem.W.fnOf "check_path" "check_path" (defArgs s_check_path) (defBody s_check_path) (defScope s_check_path) .none kV3 dc3 pm3 an3 cd3 ct3), sl3⟩) (c3 : PySem.W.codeIn K cd3 "check_path" = true) (k3 : PySem.W.keepIn K (.ref g3) = true)
    (a4 : PySem.W.nsIn K mainGlobals "numbers_along" = some (some (.ref g4))) (l4 : K.lookup g4 = some ⟨oc4, od4, .func (PySem.W.fnOf "numbers_along" "numbers_along" (defArgs s_numbers_along) (defBody s_numbers_along) (defScope s_numbers_along) .none kV4 dc4 pm4 an4 cd4 ct4), sl4⟩) (c4 : PySem.W.codeIn K cd4 "numbers_along" = true) (k4 : PySem.W.keepIn K (.ref g4) = true)
    (a5 : PySem.W.nsIn K mainGlobals "expanded" = some (some (.ref g5))) (l5 : K.lookup g5 = some ⟨oc5, od5, .func (PySem.W.fnOf "expanded" "expanded" (defArgs s_expanded) (defBody s_expanded) (defScope s_expanded) .none kV5 dc5 pm5 an5 cd5 ct5), sl5⟩) (c5 : PySem.W.codeIn K cd5 "expanded" = true) (k5 : PySem.W.keepIn K (.ref g5) = true)
    (a6 : PySem.W.nsIn K mainGlobals "contracted" = some (some (.ref g6))) (l6 : K.lookup g6 = some ⟨oc6, od6, .func (PySem.W.fnOf "contracted" "contracted" (defArgs s_contracted) (defBody s_contracted) (defScope s_contracted) .none kV6 dc6 pm6 an6 cd6 ct6), sl6⟩) (c6 : PySem.W.codeIn K cd6 "contracted" = true) (k6 : PySem.W.keepIn K (.ref g6) = true)
    (a7 : PySem.W.nsIn K mainGlobals "rewritten" = some (some (.ref g7))) (l7 : K.lookup g7 = some ⟨oc7, od7, .func (PySem.W.fnOf "rewritten" "rewritten" (defArgs s_rewritten) (defBody s_rewritten) (defScope s_rewritten) .none kV7 dc7 pm7 an7 cd7 ct7), sl7⟩) (c7 : PySem.W.codeIn K cd7 "rewritten" = true) (k7 : PySem.W.keepIn K (.ref g7) = true)
    (a8 : PySem.W.nsIn K mainGlobals "rewritten_at" = some (some (.ref g8))) (l8 : K.lookup g8 = some ⟨oc8, od8, .func (PySem.W.fnOf "rewritten_at" "rewritten_at" (defArgs s_rewritten_at) (defBody s_rewritten_at) (defScope s_rewritten_at) .none kV8 dc8 pm8 an8 cd8 ct8), sl8⟩) (c8 : PySem.W.codeIn K cd8 "rewritten_at" = true) (k8 : PySem.W.keepIn K (.ref g8) = true)
    (a9 : PySem.W.nsIn K mainGlobals "rewritten_term" = some (some (.ref g9))) (l9 : K.lookup g9 = some ⟨oc9, od9, .func (PySem.W.fnOf "rewritten_term" "rewritten_term" (defArgs s_rewritten_term) (defBody s_rewritten_term) (defScope s_rewritten_term) .none kV9 dc9 pm9 an9 cd9 ct9), sl9⟩) (c9 : PySem.W.codeIn K cd9 "rewritten_term" = true) (k9 : PySem.W.keepIn K (.ref g9) = true)
    (a10 : PySem.W.nsIn K mainGlobals "generators_in" = some (some (.ref g10))) (l10 : K.lookup g10 = some ⟨oc10, od10, .func (PySem.W.fnOf "generators_in" "generators_in" (defArgs s_generators_in) (defBody s_generators_in) (defScope s_generators_in) .none kV10 dc10 pm10 an10 cd10 ct10), sl10⟩) (c10 : PySem.W.codeIn K cd10 "generators_in" = true) (k10 : PySem.W.keepIn K (.ref g10) = true)
    (a11 : PySem.W.nsIn K mainGlobals "is_label" = some (some (.ref g11))) (l11 : K.lookup g11 = some ⟨oc11, od11, .func (PySem.W.fnOf "is_label" "is_label" (defArgs s_is_label) (defBody s_is_label) (defScope s_is_label) .none kV11 dc11 pm11 an11 cd11 ct11), sl11⟩) (c11 : PySem.W.codeIn K cd11 "is_label" = true) (k11 : PySem.W.keepIn K (.ref g11) = true)
    (a12 : PySem.W.nsIn K mainGlobals "check_new_label" = some (some (.ref g12))) (l12 : K.lookup g12 = some ⟨oc12, od12, .func (PySem.W.fnOf "check_new_label" "check_new_label" (defArgs s_check_new_label) (defBody s_check_new_label) (defScope s_check_new_label) .none kV12 dc12 pm12 an12 cd12 ct12), sl12⟩) (c12 : PySem.W.codeIn K cd12 "check_new_label" = true) (k12 : PySem.W.keepIn K (.ref g12) = true)
    (a13 : PySem.W.nsIn K mainGlobals "known_term" = some (some (.ref g13))) (l13 : K.lookup g13 = some ⟨oc13, od13, .func (PySem.W.fnOf "known_term" "known_term" (defArgs s_known_term) (defBody s_known_term) (defScope s_known_term) .none kV13 dc13 pm13 an13 cd13 ct13), sl13⟩) (c13 : PySem.W.codeIn K cd13 "known_term" = true) (k13 : PySem.W.keepIn K (.ref g13) = true)
    (a14 : PySem.W.nsIn K mainGlobals "check_made_term" = some (some (.ref g14))) (l14 : K.lookup g14 = some ⟨oc14, od14, .func (PySem.W.fnOf "check_made_term" "check_made_term" (defArgs s_check_made_term) (defBody s_check_made_term) (defScope s_check_made_term) .none kV14 dc14 pm14 an14 cd14 ct14), sl14⟩) (c14 : PySem.W.codeIn K cd14 "check_made_term" = true) (k14 : PySem.W.keepIn K (.ref g14) = true)
    (a15 : PySem.W.nsIn K mainGlobals "with_new" = some (some (.ref g15))) (l15 : K.lookup g15 = some ⟨oc15, od15, .func (PySem.W.fnOf "with_new" "with_new" (defArgs s_with_new) (defBody s_with_new) (defScope s_with_new) .none kV15 dc15 pm15 an15 cd15 ct15), sl15⟩) (c15 : PySem.W.codeIn K cd15 "with_new" = true) (k15 : PySem.W.keepIn K (.ref g15) = true)
    (a16 : PySem.W.nsIn K mainGlobals "after_add" = some (some (.ref g16))) (l16 : K.lookup g16 = some ⟨oc16, od16, .func (PySem.W.fnOf "after_add" "after_add" (defArgs s_after_add) (defBody s_after_add) (defScope s_after_add) .none kV16 dc16 pm16 an16 cd16 ct16), sl16⟩) (c16 : PySem.W.codeIn K cd16 "after_add" = true) (k16 : PySem.W.keepIn K (.ref g16) = true)
    (a17 : PySem.W.nsIn K mainGlobals "after_combine" = some (some (.ref g17))) (l17 : K.lookup g17 = some ⟨oc17, od17, .func (PySem.W.fnOf "after_combine" "after_combine" (defArgs s_after_combine) (defBody s_after_combine) (defScope s_after_combine) .none kV17 dc17 pm17 an17 cd17 ct17), sl17⟩) (c17 : PySem.W.codeIn K cd17 "after_combine" = true) (k17 : PySem.W.keepIn K (.ref g17) = true)
    (a18 : PySem.W.nsIn K mainGlobals "after_extract" = some (some (.ref g18))) (l18 : K.lookup g18 = some ⟨oc18, od18, .func (PySem.W.fnOf "after_extract" "after_extract" (defArgs s_after_extract) (defBody s_after_extract) (defScope s_after_extract) .none kV18 dc18 pm18 an18 cd18 ct18), sl18⟩) (c18 : PySem.W.codeIn K cd18 "after_extract" = true) (k18 : PySem.W.keepIn K (.ref g18) = true)
    (a19 : PySem.W.nsIn K mainGlobals "after_rewrite" = some (some (.ref g19))) (l19 : K.lookup g19 = some ⟨oc19, od19, .func (PySem.W.fnOf "after_rewrite" "after_rewrite" (defArgs s_after_rewrite) (defBody s_after_rewrite) (defScope s_after_rewrite) .none kV19 dc19 pm19 an19 cd19 ct19), sl19⟩) (c19 : PySem.W.codeIn K cd19 "after_rewrite" = true) (k19 : PySem.W.keepIn K (.ref g19) = true)
    (a20 : PySem.W.nsIn K mainGlobals "after_delete" = some (some (.ref g20))) (l20 : K.lookup g20 = some ⟨oc20, od20, .func (PySem.W.fnOf "after_delete" "after_delete" (defArgs s_after_delete) (defBody s_after_delete) (defScope s_after_delete) .none kV20 dc20 pm20 an20 cd20 ct20), sl20⟩) (c20 : PySem.W.codeIn K cd20 "after_delete" = true) (k20 : PySem.W.keepIn K (.ref g20) = true)
    (a21 : PySem.W.nsIn K mainGlobals "store_of" = some (some (.ref g21))) (l21 : K.lookup g21 = some ⟨oc21, od21, .func (PySem.W.fnOf "store_of" "store_of" (defArgs s_store_of) (defBody s_store_of) (defScope s_store_of) .none kV21 dc21 pm21 an21 cd21 ct21), sl21⟩) (c21 : PySem.W.codeIn K cd21 "store_of" = true) (k21 : PySem.W.keepIn K (.ref g21) = true)
    (a22 : PySem.W.nsIn K mainGlobals "has_room" = some (some (.ref g22))) (l22 : K.lookup g22 = some ⟨oc22, od22, .func (PySem.W.fnOf "has_room" "has_room" (defArgs s_has_room) (defBody s_has_room) (defScope s_has_room) .none kV22 dc22 pm22 an22 cd22 ct22), sl22⟩) (c22 : PySem.W.codeIn K cd22 "has_room" = true) (k22 : PySem.W.keepIn K (.ref g22) = true)
    (a23 : PySem.W.nsIn K mainGlobals "read_term" = some (some (.ref g23))) (l23 : K.lookup g23 = some ⟨oc23, od23, .func (PySem.W.fnOf "read_term" "read_term" (defArgs s_read_term) (defBody s_read_term) (defScope s_read_term) .none kV23 dc23 pm23 an23 cd23 ct23), sl23⟩) (c23 : PySem.W.codeIn K cd23 "read_term" = true) (k23 : PySem.W.keepIn K (.ref g23) = true)
    (a24 : PySem.W.nsIn K mainGlobals "parse_term" = some (some (.ref g24))) (l24 : K.lookup g24 = some ⟨oc24, od24, .func (PySem.W.fnOf "parse_term" "parse_term" (defArgs s_parse_term) (defBody s_parse_term) (defScope s_parse_term) .none kV24 dc24 pm24 an24 cd24 ct24), sl24⟩) (c24 : PySem.W.codeIn K cd24 "parse_term" = true) (k24 : PySem.W.keepIn K (.ref g24) = true)
    (a25 : PySem.W.nsIn K mainGlobals "written" = some (some (.ref g25))) (l25 : K.lookup g25 = some ⟨oc25, od25, .func (PySem.W.fnOf "written" "written" (defArgs s_written) (defBody s_written) (defScope s_written) .none kV25 dc25 pm25 an25 cd25 ct25), sl25⟩) (c25 : PySem.W.codeIn K cd25 "written" = true) (k25 : PySem.W.keepIn K (.ref g25) = true)
    (a26 : PySem.W.nsIn K mainGlobals "format_term" = some (some (.ref g26))) (l26 : K.lookup g26 = some ⟨oc26, od26, .func (PySem.W.fnOf "format_term" "format_term" (defArgs s_format_term) (defBody s_format_term) (defScope s_format_term) .none kV26 dc26 pm26 an26 cd26 ct26), sl26⟩) (c26 : PySem.W.codeIn K cd26 "format_term" = true) (k26 : PySem.W.keepIn K (.ref g26) = true)
    (a27 : PySem.W.nsIn K mainGlobals "term_in_row" = some (some (.ref g27))) (l27 : K.lookup g27 = some ⟨oc27, od27, .func (PySem.W.fnOf "term_in_row" "term_in_row" (defArgs s_term_in_row) (defBody s_term_in_row) (defScope s_term_in_row) .none kV27 dc27 pm27 an27 cd27 ct27), sl27⟩) (c27 : PySem.W.codeIn K cd27 "term_in_row" = true) (k27 : PySem.W.keepIn K (.ref g27) = true)
    (a28 : PySem.W.nsIn K mainGlobals "load" = some (some (.ref g28))) (l28 : K.lookup g28 = some ⟨oc28, od28, .func (PySem.W.fnOf "load" "load" (defArgs s_load) (defBody s_load) (defScope s_load) .none kV28 dc28 pm28 an28 cd28 ct28), sl28⟩) (c28 : PySem.W.codeIn K cd28 "load" = true) (k28 : PySem.W.keepIn K (.ref g28) = true)
    (a29 : PySem.W.nsIn K mainGlobals "dump" = some (some (.ref g29))) (l29 : K.lookup g29 = some ⟨oc29, od29, .func (PySem.W.fnOf "dump" "dump" (defArgs s_dump) (defBody s_dump) (defScope s_dump) .none kV29 dc29 pm29 an29 cd29 ct29), sl29⟩) (c29 : PySem.W.codeIn K cd29 "dump" = true) (k29 : PySem.W.keepIn K (.ref g29) = true)
    (a30 : PySem.W.nsIn K mainGlobals "_law_draws" = some (some (.ref g30))) (l30 : K.lookup g30 = some ⟨oc30, od30, .func (PySem.W.fnOf "_law_draws" "_law_draws" (defArgs s__law_draws) (defBody s__law_draws) (defScope s__law_draws) .none kV30 dc30 pm30 an30 cd30 ct30), sl30⟩) (c30 : PySem.W.codeIn K cd30 "_law_draws" = true) (k30 : PySem.W.keepIn K (.ref g30) = true)
    (a31 : PySem.W.nsIn K mainGlobals "_law_draw" = some (some (.ref g31))) (l31 : K.lookup g31 = some ⟨oc31, od31, .func (PySem.W.fnOf "_law_draw" "_law_draw" (defArgs s__law_draw) (defBody s__law_draw) (defScope s__law_draw) .none kV31 dc31 pm31 an31 cd31 ct31), sl31⟩) (c31 : PySem.W.codeIn K cd31 "_law_draw" = true) (k31 : PySem.W.keepIn K (.ref g31) = true)
    (a32 : PySem.W.nsIn K mainGlobals "_law_pick" = some (some (.ref g32))) (l32 : K.lookup g32 = some ⟨oc32, od32, .func (PySem.W.fnOf "_law_pick" "_law_pick" (defArgs s__law_pick) (defBody s__law_pick) (defScope s__law_pick) .none kV32 dc32 pm32 an32 cd32 ct32), sl32⟩) (c32 : PySem.W.codeIn K cd32 "_law_pick" = true) (k32 : PySem.W.keepIn K (.ref g32) = true)
    (a33 : PySem.W.nsIn K mainGlobals "_law_same" = some (some (.ref g33))) (l33 : K.lookup g33 = some ⟨oc33, od33, .func (PySem.W.fnOf "_law_same" "_law_same" (defArgs s__law_same) (defBody s__law_same) (defScope s__law_same) .none kV33 dc33 pm33 an33 cd33 ct33), sl33⟩) (c33 : PySem.W.codeIn K cd33 "_law_same" = true) (k33 : PySem.W.keepIn K (.ref g33) = true)
    (a34 : PySem.W.nsIn K mainGlobals "_law_term" = some (some (.ref g34))) (l34 : K.lookup g34 = some ⟨oc34, od34, .func (PySem.W.fnOf "_law_term" "_law_term" (defArgs s__law_term) (defBody s__law_term) (defScope s__law_term) .none kV34 dc34 pm34 an34 cd34 ct34), sl34⟩) (c34 : PySem.W.codeIn K cd34 "_law_term" = true) (k34 : PySem.W.keepIn K (.ref g34) = true)
    (a35 : PySem.W.nsIn K mainGlobals "_law_comb" = some (some (.ref g35))) (l35 : K.lookup g35 = some ⟨oc35, od35, .func (PySem.W.fnOf "_law_comb" "_law_comb" (defArgs s__law_comb) (defBody s__law_comb) (defScope s__law_comb) .none kV35 dc35 pm35 an35 cd35 ct35), sl35⟩) (c35 : PySem.W.codeIn K cd35 "_law_comb" = true) (k35 : PySem.W.keepIn K (.ref g35) = true)
    (a36 : PySem.W.nsIn K mainGlobals "_law_any_term" = some (some (.ref g36))) (l36 : K.lookup g36 = some ⟨oc36, od36, .func (PySem.W.fnOf "_law_any_term" "_law_any_term" (defArgs s__law_any_term) (defBody s__law_any_term) (defScope s__law_any_term) .none kV36 dc36 pm36 an36 cd36 ct36), sl36⟩) (c36 : PySem.W.codeIn K cd36 "_law_any_term" = true) (k36 : PySem.W.keepIn K (.ref g36) = true)
    (a37 : PySem.W.nsIn K mainGlobals "_law_size" = some (some (.ref g37))) (l37 : K.lookup g37 = some ⟨oc37, od37, .func (PySem.W.fnOf "_law_size" "_law_size" (defArgs s__law_size) (defBody s__law_size) (defScope s__law_size) .none kV37 dc37 pm37 an37 cd37 ct37), sl37⟩) (c37 : PySem.W.codeIn K cd37 "_law_size" = true) (k37 : PySem.W.keepIn K (.ref g37) = true)
    (a38 : PySem.W.nsIn K mainGlobals "_law_depth" = some (some (.ref g38))) (l38 : K.lookup g38 = some ⟨oc38, od38, .func (PySem.W.fnOf "_law_depth" "_law_depth" (defArgs s__law_depth) (defBody s__law_depth) (defScope s__law_depth) .none kV38 dc38 pm38 an38 cd38 ct38), sl38⟩) (c38 : PySem.W.codeIn K cd38 "_law_depth" = true) (k38 : PySem.W.keepIn K (.ref g38) = true)
    (a39 : PySem.W.nsIn K mainGlobals "_law_fits" = some (some (.ref g39))) (l39 : K.lookup g39 = some ⟨oc39, od39, .func (PySem.W.fnOf "_law_fits" "_law_fits" (defArgs s__law_fits) (defBody s__law_fits) (defScope s__law_fits) .none kV39 dc39 pm39 an39 cd39 ct39), sl39⟩) (c39 : PySem.W.codeIn K cd39 "_law_fits" = true) (k39 : PySem.W.keepIn K (.ref g39) = true)
    (a40 : PySem.W.nsIn K mainGlobals "_law_paths" = some (some (.ref g40))) (l40 : K.lookup g40 = some ⟨oc40, od40, .func (PySem.W.fnOf "_law_paths" "_law_paths" (defArgs s__law_paths) (defBody s__law_paths) (defScope s__law_paths) .none kV40 dc40 pm40 an40 cd40 ct40), sl40⟩) (c40 : PySem.W.codeIn K cd40 "_law_paths" = true) (k40 : PySem.W.keepIn K (.ref g40) = true)
    (a41 : PySem.W.nsIn K mainGlobals "_law_subterm" = some (some (.ref g41))) (l41 : K.lookup g41 = some ⟨oc41, od41, .func (PySem.W.fnOf "_law_subterm" "_law_subterm" (defArgs s__law_subterm) (defBody s__law_subterm) (defScope s__law_subterm) .none kV41 dc41 pm41 an41 cd41 ct41), sl41⟩) (c41 : PySem.W.codeIn K cd41 "_law_subterm" = true) (k41 : PySem.W.keepIn K (.ref g41) = true)
    (a42 : PySem.W.nsIn K mainGlobals "_law_replace" = some (some (.ref g42))) (l42 : K.lookup g42 = some ⟨oc42, od42, .func (PySem.W.fnOf "_law_replace" "_law_replace" (defArgs s__law_replace) (defBody s__law_replace) (defScope s__law_replace) .none kV42 dc42 pm42 an42 cd42 ct42), sl42⟩) (c42 : PySem.W.codeIn K cd42 "_law_replace" = true) (k42 : PySem.W.keepIn K (.ref g42) = true)
    (a43 : PySem.W.nsIn K mainGlobals "_law_expanded" = some (some (.ref g43))) (l43 : K.lookup g43 = some ⟨oc43, od43, .func (PySem.W.fnOf "_law_expanded" "_law_expanded" (defArgs s__law_expanded) (defBody s__law_expanded) (defScope s__law_expanded) .none kV43 dc43 pm43 an43 cd43 ct43), sl43⟩) (c43 : PySem.W.codeIn K cd43 "_law_expanded" = true) (k43 : PySem.W.keepIn K (.ref g43) = true)
    (a44 : PySem.W.nsIn K mainGlobals "_law_contracted" = some (some (.ref g44))) (l44 : K.lookup g44 = some ⟨oc44, od44, .func (PySem.W.fnOf "_law_contracted" "_law_contracted" (defArgs s__law_contracted) (defBody s__law_contracted) (defScope s__law_contracted) .none kV44 dc44 pm44 an44 cd44 ct44), sl44⟩) (c44 : PySem.W.codeIn K cd44 "_law_contracted" = true) (k44 : PySem.W.keepIn K (.ref g44) = true)
    (a45 : PySem.W.nsIn K mainGlobals "_law_rewrite" = some (some (.ref g45))) (l45 : K.lookup g45 = some ⟨oc45, od45, .func (PySem.W.fnOf "_law_rewrite" "_law_rewrite" (defArgs s__law_rewrite) (defBody s__law_rewrite) (defScope s__law_rewrite) .none kV45 dc45 pm45 an45 cd45 ct45), sl45⟩) (c45 : PySem.W.codeIn K cd45 "_law_rewrite" = true) (k45 : PySem.W.keepIn K (.ref g45) = true)
    (a46 : PySem.W.nsIn K mainGlobals "_law_steps" = some (some (.ref g46))) (l46 : K.lookup g46 = some ⟨oc46, od46, .func (PySem.W.fnOf "_law_steps" "_law_steps" (defArgs s__law_steps) (defBody s__law_steps) (defScope s__law_steps) .none kV46 dc46 pm46 an46 cd46 ct46), sl46⟩) (c46 : PySem.W.codeIn K cd46 "_law_steps" = true) (k46 : PySem.W.keepIn K (.ref g46) = true)
    (a47 : PySem.W.nsIn K mainGlobals "_law_labels" = some (some (.ref g47))) (l47 : K.lookup g47 = some ⟨oc47, od47, .func (PySem.W.fnOf "_law_labels" "_law_labels" (defArgs s__law_labels) (defBody s__law_labels) (defScope s__law_labels) .none kV47 dc47 pm47 an47 cd47 ct47), sl47⟩) (c47 : PySem.W.codeIn K cd47 "_law_labels" = true) (k47 : PySem.W.keepIn K (.ref g47) = true)
    (a48 : PySem.W.nsIn K mainGlobals "_law_is_label" = some (some (.ref g48))) (l48 : K.lookup g48 = some ⟨oc48, od48, .func (PySem.W.fnOf "_law_is_label" "_law_is_label" (defArgs s__law_is_label) (defBody s__law_is_label) (defScope s__law_is_label) .none kV48 dc48 pm48 an48 cd48 ct48), sl48⟩) (c48 : PySem.W.codeIn K cd48 "_law_is_label" = true) (k48 : PySem.W.keepIn K (.ref g48) = true)
    (a49 : PySem.W.nsIn K mainGlobals "_law_is_tree" = some (some (.ref g49))) (l49 : K.lookup g49 = some ⟨oc49, od49, .func (PySem.W.fnOf "_law_is_tree" "_law_is_tree" (defArgs s__law_is_tree) (defBody s__law_is_tree) (defScope s__law_is_tree) .none kV49 dc49 pm49 an49 cd49 ct49), sl49⟩) (c49 : PySem.W.codeIn K cd49 "_law_is_tree" = true) (k49 : PySem.W.keepIn K (.ref g49) = true)
    (a50 : PySem.W.nsIn K mainGlobals "_law_command" = some (some (.ref g50))) (l50 : K.lookup g50 = some ⟨oc50, od50, .func (PySem.W.fnOf "_law_command" "_law_command" (defArgs s__law_command) (defBody s__law_command) (defScope s__law_command) .none kV50 dc50 pm50 an50 cd50 ct50), sl50⟩) (c50 : PySem.W.codeIn K cd50 "_law_command" = true) (k50 : PySem.W.keepIn K (.ref g50) = true)
    (a51 : PySem.W.nsIn K mainGlobals "_law_computed" = some (some (.ref g51))) (l51 : K.lookup g51 = some ⟨oc51, od51, .func (PySem.W.fnOf "_law_computed" "_law_computed" (defArgs s__law_computed) (defBody s__law_computed) (defScope s__law_computed) .none kV51 dc51 pm51 an51 cd51 ct51), sl51⟩) (c51 : PySem.W.codeIn K cd51 "_law_computed" = true) (k51 : PySem.W.keepIn K (.ref g51) = true)
    (a52 : PySem.W.nsIn K mainGlobals "_law_rewrite_result" = some (some (.ref g52))) (l52 : K.lookup g52 = some ⟨oc52, od52, .func (PySem.W.fnOf "_law_rewrite_result" "_law_rewrite_result" (defArgs s__law_rewrite_result) (defBody s__law_rewrite_result) (defScope s__law_rewrite_result) .none kV52 dc52 pm52 an52 cd52 ct52), sl52⟩) (c52 : PySem.W.codeIn K cd52 "_law_rewrite_result" = true) (k52 : PySem.W.keepIn K (.ref g52) = true)
    (a53 : PySem.W.nsIn K mainGlobals "_law_result" = some (some (.ref g53))) (l53 : K.lookup g53 = some ⟨oc53, od53, .func (PySem.W.fnOf "_law_result" "_law_result" (defArgs s__law_result) (defBody s__law_result) (defScope s__law_result) .none kV53 dc53 pm53 an53 cd53 ct53), sl53⟩) (c53 : PySem.W.codeIn K cd53 "_law_result" = true) (k53 : PySem.W.keepIn K (.ref g53) = true)
    (a54 : PySem.W.nsIn K mainGlobals "_law_run" = some (some (.ref g54))) (l54 : K.lookup g54 = some ⟨oc54, od54, .func (PySem.W.fnOf "_law_run" "_law_run" (defArgs s__law_run) (defBody s__law_run) (defScope s__law_run) .none kV54 dc54 pm54 an54 cd54 ct54), sl54⟩) (c54 : PySem.W.codeIn K cd54 "_law_run" = true) (k54 : PySem.W.keepIn K (.ref g54) = true)
    (a55 : PySem.W.nsIn K mainGlobals "_law_matches" = some (some (.ref g55))) (l55 : K.lookup g55 = some ⟨oc55, od55, .func (PySem.W.fnOf "_law_matches" "_law_matches" (defArgs s__law_matches) (defBody s__law_matches) (defScope s__law_matches) .none kV55 dc55 pm55 an55 cd55 ct55), sl55⟩) (c55 : PySem.W.codeIn K cd55 "_law_matches" = true) (k55 : PySem.W.keepIn K (.ref g55) = true)
    (a56 : PySem.W.nsIn K mainGlobals "_law_any_store" = some (some (.ref g56))) (l56 : K.lookup g56 = some ⟨oc56, od56, .func (PySem.W.fnOf "_law_any_store" "_law_any_store" (defArgs s__law_any_store) (defBody s__law_any_store) (defScope s__law_any_store) .none kV56 dc56 pm56 an56 cd56 ct56), sl56⟩) (c56 : PySem.W.codeIn K cd56 "_law_any_store" = true) (k56 : PySem.W.keepIn K (.ref g56) = true)
    (a57 : PySem.W.nsIn K mainGlobals "_law_format" = some (some (.ref g57))) (l57 : K.lookup g57 = some ⟨oc57, od57, .func (PySem.W.fnOf "_law_format" "_law_format" (defArgs s__law_format) (defBody s__law_format) (defScope s__law_format) .none kV57 dc57 pm57 an57 cd57 ct57), sl57⟩) (c57 : PySem.W.codeIn K cd57 "_law_format" = true) (k57 : PySem.W.keepIn K (.ref g57) = true)
    (a58 : PySem.W.nsIn K mainGlobals "_law_contents" = some (some (.ref g58))) (l58 : K.lookup g58 = some ⟨oc58, od58, .func (PySem.W.fnOf "_law_contents" "_law_contents" (defArgs s__law_contents) (defBody s__law_contents) (defScope s__law_contents) .none kV58 dc58 pm58 an58 cd58 ct58), sl58⟩) (c58 : PySem.W.codeIn K cd58 "_law_contents" = true) (k58 : PySem.W.keepIn K (.ref g58) = true)
    (a59 : PySem.W.nsIn K mainGlobals "_law_snapshot" = some (some (.ref g59))) (l59 : K.lookup g59 = some ⟨oc59, od59, .func (PySem.W.fnOf "_law_snapshot" "_law_snapshot" (defArgs s__law_snapshot) (defBody s__law_snapshot) (defScope s__law_snapshot) .none kV59 dc59 pm59 an59 cd59 ct59), sl59⟩) (c59 : PySem.W.codeIn K cd59 "_law_snapshot" = true) (k59 : PySem.W.keepIn K (.ref g59) = true)
    (a60 : PySem.W.nsIn K mainGlobals "law" = some (some (.ref g60))) (l60 : K.lookup g60 = some ⟨oc60, od60, .func (PySem.W.fnOf "law" "law" (defArgs s_law) (defBody s_law) (defScope s_law) .none kV60 dc60 pm60 an60 cd60 ct60), sl60⟩) (c60 : PySem.W.codeIn K cd60 "law" = true) (k60 : PySem.W.keepIn K (.ref g60) = true)
    (z_len : PySem.W.nsIn K mainGlobals "len" = some none)
    (z_list : PySem.W.nsIn K mainGlobals "list" = some none)
    (z_tuple : PySem.W.nsIn K mainGlobals "tuple" = some none)
    (z_dict : PySem.W.nsIn K mainGlobals "dict" = some none)
    (z_bool : PySem.W.nsIn K mainGlobals "bool" = some none)
    (z_isinstance : PySem.W.nsIn K mainGlobals "isinstance" = some none)
    (z_max : PySem.W.nsIn K mainGlobals "max" = some none)
    (z_min : PySem.W.nsIn K mainGlobals "min" = some none)
    (z_range : PySem.W.nsIn K mainGlobals "range" = some none)
    (z_all : PySem.W.nsIn K mainGlobals "all" = some none)
    (z_sorted : PySem.W.nsIn K mainGlobals "sorted" = some none)
    (z_enumerate : PySem.W.nsIn K mainGlobals "enumerate" = some none)
    (z_sum : PySem.W.nsIn K mainGlobals "sum" = some none)
    (z_str : PySem.W.nsIn K mainGlobals "str" = some none)
    (z_int : PySem.W.nsIn K mainGlobals "int" = some none)
    (q_MAX_SIZE : PySem.W.nsIn K mainGlobals "MAX_SIZE" = some (some (.int 12 t_MAX_SIZE)))
    (q_MAX_DEPTH : PySem.W.nsIn K mainGlobals "MAX_DEPTH" = some (some (.int 6 t_MAX_DEPTH)))
    (q_GENERATOR : PySem.W.nsIn K mainGlobals "GENERATOR" = some (some (.int 0 t_GENERATOR)))
    (q_MAX_PATH : PySem.W.nsIn K mainGlobals "MAX_PATH" = some (some (.int 60 t_MAX_PATH)))
    (q_MAX_LABELS : PySem.W.nsIn K mainGlobals "MAX_LABELS" = some (some (.int 12 t_MAX_LABELS)))
    (q_MAX_LABEL : PySem.W.nsIn K mainGlobals "MAX_LABEL" = some (some (.int 8 t_MAX_LABEL)))
    (aC : PySem.W.nsIn K mainGlobals "Pool" = some (some (.ref Cp)))
    (ma0 : PySem.W.findIn K (.ref Cp) "__init__" = some (some (.ref m0)))
    (mi0 : PySem.W.isFn K (.ref m0) = true)
    (ml0 : K.lookup m0 = some ⟨moc0, mod0, .func (PySem.W.fnOf "__init__" "Pool.__init__" (defArgs s_PInit) (defBody s_PInit) (defScope s_PInit) .none mkV0 mdc0 mpm0 man0 mcd0 mct0), msl0⟩)
    (mc0 : PySem.W.codeIn K mcd0 "Pool.__init__" = true)
    (mk0 : PySem.W.keepIn K (.ref m0) = true)
    (ma1 : PySem.W.findIn K (.ref Cp) "pair" = some (some (.ref m1)))
    (mi1 : PySem.W.isFn K (.ref m1) = true)
    (ml1 : K.lookup m1 = some ⟨moc1, mod1, .func (PySem.W.fnOf "pair" "Pool.pair" (defArgs s_PPair) (defBody s_PPair) (defScope s_PPair) .none mkV1 mdc1 mpm1 man1 mcd1 mct1), msl1⟩)
    (mc1 : PySem.W.codeIn K mcd1 "Pool.pair" = true)
    (mk1 : PySem.W.keepIn K (.ref m1) = true)
    (ma2 : PySem.W.findIn K (.ref Cp) "number_of" = some (some (.ref m2)))
    (mi2 : PySem.W.isFn K (.ref m2) = true)
    (ml2 : K.lookup m2 = some ⟨moc2, mod2, .func (PySem.W.fnOf "number_of" "Pool.number_of" (defArgs s_PNum) (defBody s_PNum) (defScope s_PNum) .none mkV2 mdc2 mpm2 man2 mcd2 mct2), msl2⟩)
    (mc2 : PySem.W.codeIn K mcd2 "Pool.number_of" = true)
    (mk2 : PySem.W.keepIn K (.ref m2) = true)
    (cpg : PySem.W.plainGet K Cp Str.empty = true)
    (chd : PySem.W.hasDictIn K Cp = true)
    (cpo : PySem.W.plainOver K Cp = true)
    (csa : PySem.W.findIn K (.ref Cp) "__setattr__" = some (some (.builtin "object.__setattr__")))
    (cmk : PySem.W.makesIn K Cp = true)
    (ckc : PySem.W.keepIn K (.ref Cp) = true)
    (cn0 : PySem.W.findIn K (.ref Cp) "numbers" = some none)
    (cn1 : PySem.W.findIn K (.ref Cp) "pairs" = some none)
    (cn2 : PySem.W.findIn K (.ref Cp) "sizes" = some none)
    (cn3 : PySem.W.findIn K (.ref Cp) "terms" = some none)
    (aCS : PySem.W.nsIn K mainGlobals "Store" = some (some (.ref CpS)))
    (ma0S : PySem.W.findIn K (.ref CpS) "__init__" = some (some (.ref m0S)))
    (mi0S : PySem.W.isFn K (.ref m0S) = true)
    (ml0S : K.lookup m0S = some ⟨moc0S, mod0S, .func (PySem.W.fnOf "__init__" "Store.__init__" (defArgs s_Store___init__) (defBody s_Store___init__) (defScope s_Store___init__) .none mkV0S mdc0S mpm0S man0S mcd0S mct0S), msl0S⟩)
    (mc0S : PySem.W.codeIn K mcd0S "Store.__init__" = true)
    (mk0S : PySem.W.keepIn K (.ref m0S) = true)
    (ma1S : PySem.W.findIn K (.ref CpS) "__len__" = some (some (.ref m1S)))
    (mi1S : PySem.W.isFn K (.ref m1S) = true)
    (ml1S : K.lookup m1S = some ⟨moc1S, mod1S, .func (PySem.W.fnOf "__len__" "Store.__len__" (defArgs s_Store___len__) (defBody s_Store___len__) (defScope s_Store___len__) .none mkV1S mdc1S mpm1S man1S mcd1S mct1S), msl1S⟩)
    (mc1S : PySem.W.codeIn K mcd1S "Store.__len__" = true)
    (mk1S : PySem.W.keepIn K (.ref m1S) = true)
    (ma2S : PySem.W.findIn K (.ref CpS) "record" = some (some (.ref m2S)))
    (mi2S : PySem.W.isFn K (.ref m2S) = true)
    (ml2S : K.lookup m2S = some ⟨moc2S, mod2S, .func (PySem.W.fnOf "record" "Store.record" (defArgs s_Store_record) (defBody s_Store_record) (defScope s_Store_record) .none mkV2S mdc2S mpm2S man2S mcd2S mct2S), msl2S⟩)
    (mc2S : PySem.W.codeIn K mcd2S "Store.record" = true)
    (mk2S : PySem.W.keepIn K (.ref m2S) = true)
    (ma3S : PySem.W.findIn K (.ref CpS) "history" = some (some (.ref m3S)))
    (mi3S : PySem.W.isFn K (.ref m3S) = true)
    (ml3S : K.lookup m3S = some ⟨moc3S, mod3S, .func (PySem.W.fnOf "history" "Store.history" (defArgs s_Store_history) (defBody s_Store_history) (defScope s_Store_history) .none mkV3S mdc3S mpm3S man3S mcd3S mct3S), msl3S⟩)
    (mc3S : PySem.W.codeIn K mcd3S "Store.history" = true)
    (mk3S : PySem.W.keepIn K (.ref m3S) = true)
    (ma4S : PySem.W.findIn K (.ref CpS) "term" = some (some (.ref m4S)))
    (mi4S : PySem.W.isFn K (.ref m4S) = true)
    (ml4S : K.lookup m4S = some ⟨moc4S, mod4S, .func (PySem.W.fnOf "term" "Store.term" (defArgs s_Store_term) (defBody s_Store_term) (defScope s_Store_term) .none mkV4S mdc4S mpm4S man4S mcd4S mct4S), msl4S⟩)
    (mc4S : PySem.W.codeIn K mcd4S "Store.term" = true)
    (mk4S : PySem.W.keepIn K (.ref m4S) = true)
    (ma5S : PySem.W.findIn K (.ref CpS) "labels" = some (some (.ref m5S)))
    (mi5S : PySem.W.isFn K (.ref m5S) = true)
    (ml5S : K.lookup m5S = some ⟨moc5S, mod5S, .func (PySem.W.fnOf "labels" "Store.labels" (defArgs s_Store_labels) (defBody s_Store_labels) (defScope s_Store_labels) .none mkV5S mdc5S mpm5S man5S mcd5S mct5S), msl5S⟩)
    (mc5S : PySem.W.codeIn K mcd5S "Store.labels" = true)
    (mk5S : PySem.W.keepIn K (.ref m5S) = true)
    (ma6S : PySem.W.findIn K (.ref CpS) "add" = some (some (.ref m6S)))
    (mi6S : PySem.W.isFn K (.ref m6S) = true)
    (ml6S : K.lookup m6S = some ⟨moc6S, mod6S, .func (PySem.W.fnOf "add" "Store.add" (defArgs s_Store_add) (defBody s_Store_add) (defScope s_Store_add) .none mkV6S mdc6S mpm6S man6S mcd6S mct6S), msl6S⟩)
    (mc6S : PySem.W.codeIn K mcd6S "Store.add" = true)
    (mk6S : PySem.W.keepIn K (.ref m6S) = true)
    (ma7S : PySem.W.findIn K (.ref CpS) "combine" = some (some (.ref m7S)))
    (mi7S : PySem.W.isFn K (.ref m7S) = true)
    (ml7S : K.lookup m7S = some ⟨moc7S, mod7S, .func (PySem.W.fnOf "combine" "Store.combine" (defArgs s_Store_combine) (defBody s_Store_combine) (defScope s_Store_combine) .none mkV7S mdc7S mpm7S man7S mcd7S mct7S), msl7S⟩)
    (mc7S : PySem.W.codeIn K mcd7S "Store.combine" = true)
    (mk7S : PySem.W.keepIn K (.ref m7S) = true)
    (ma8S : PySem.W.findIn K (.ref CpS) "delete" = some (some (.ref m8S)))
    (mi8S : PySem.W.isFn K (.ref m8S) = true)
    (ml8S : K.lookup m8S = some ⟨moc8S, mod8S, .func (PySem.W.fnOf "delete" "Store.delete" (defArgs s_Store_delete) (defBody s_Store_delete) (defScope s_Store_delete) .none mkV8S mdc8S mpm8S man8S mcd8S mct8S), msl8S⟩)
    (mc8S : PySem.W.codeIn K mcd8S "Store.delete" = true)
    (mk8S : PySem.W.keepIn K (.ref m8S) = true)
    (ma9S : PySem.W.findIn K (.ref CpS) "undo" = some (some (.ref m9S)))
    (mi9S : PySem.W.isFn K (.ref m9S) = true)
    (ml9S : K.lookup m9S = some ⟨moc9S, mod9S, .func (PySem.W.fnOf "undo" "Store.undo" (defArgs s_Store_undo) (defBody s_Store_undo) (defScope s_Store_undo) .none mkV9S mdc9S mpm9S man9S mcd9S mct9S), msl9S⟩)
    (mc9S : PySem.W.codeIn K mcd9S "Store.undo" = true)
    (mk9S : PySem.W.keepIn K (.ref m9S) = true)
    (ma10S : PySem.W.findIn K (.ref CpS) "redo" = some (some (.ref m10S)))
    (mi10S : PySem.W.isFn K (.ref m10S) = true)
    (ml10S : K.lookup m10S = some ⟨moc10S, mod10S, .func (PySem.W.fnOf "redo" "Store.redo" (defArgs s_Store_redo) (defBody s_Store_redo) (defScope s_Store_redo) .none mkV10S mdc10S mpm10S man10S mcd10S mct10S), msl10S⟩)
    (mc10S : PySem.W.codeIn K mcd10S "Store.redo" = true)
    (mk10S : PySem.W.keepIn K (.ref m10S) = true)
    (ma11S : PySem.W.findIn K (.ref CpS) "__eq__" = some (some (.ref m11S)))
    (mi11S : PySem.W.isFn K (.ref m11S) = true)
    (ml11S : K.lookup m11S = some ⟨moc11S, mod11S, .func (PySem.W.fnOf "__eq__" "Store.__eq__" (defArgs s_Store___eq__) (defBody s_Store___eq__) (defScope s_Store___eq__) .none mkV11S mdc11S mpm11S man11S mcd11S mct11S), msl11S⟩)
    (mc11S : PySem.W.codeIn K mcd11S "Store.__eq__" = true)
    (mk11S : PySem.W.keepIn K (.ref m11S) = true)
    (ma12S : PySem.W.findIn K (.ref CpS) "extract" = some (some (.ref m12S)))
    (mi12S : PySem.W.isFn K (.ref m12S) = true)
    (ml12S : K.lookup m12S = some ⟨moc12S, mod12S, .func (PySem.W.fnOf "extract" "Store.extract" (defArgs s_Store_extract) (defBody s_Store_extract) (defScope s_Store_extract) .none mkV12S mdc12S mpm12S man12S mcd12S mct12S), msl12S⟩)
    (mc12S : PySem.W.codeIn K mcd12S "Store.extract" = true)
    (mk12S : PySem.W.keepIn K (.ref m12S) = true)
    (ma13S : PySem.W.findIn K (.ref CpS) "rewrite" = some (some (.ref m13S)))
    (mi13S : PySem.W.isFn K (.ref m13S) = true)
    (ml13S : K.lookup m13S = some ⟨moc13S, mod13S, .func (PySem.W.fnOf "rewrite" "Store.rewrite" (defArgs s_Store_rewrite) (defBody s_Store_rewrite) (defScope s_Store_rewrite) .none mkV13S mdc13S mpm13S man13S mcd13S mct13S), msl13S⟩)
    (mc13S : PySem.W.codeIn K mcd13S "Store.rewrite" = true)
    (mk13S : PySem.W.keepIn K (.ref m13S) = true)
    (cpgS : PySem.W.plainGet K CpS Str.empty = true)
    (chdS : PySem.W.hasDictIn K CpS = true)
    (cpoS : PySem.W.plainOver K CpS = true)
    (csaS : PySem.W.findIn K (.ref CpS) "__setattr__" = some (some (.builtin "object.__setattr__")))
    (cmkS : PySem.W.makesIn K CpS = true)
    (ckcS : PySem.W.keepIn K (.ref CpS) = true)
    (cn0S : PySem.W.findIn K (.ref CpS) "contents" = some none)
    (cn1S : PySem.W.findIn K (.ref CpS) "past" = some none)
    (cn2S : PySem.W.findIn K (.ref CpS) "future" = some none)
    (te1 : PySem.W.findIn K (.ref CpS) "__class__" = some (some (.builtin "object.__class__")))
    (te2 : PySem.W.specialIn K (.builtin "object.__class__") "__get__" = some (some (.builtin "getset_descriptor.__get__")))
    (te3 : PySem.W.takesIn K (.builtin "object.__class__") = some true)
    (te4 : PySem.W.mroIn K CpS (.type "object") = some true)
    (tlk : K.lookup CpS = some (excClassObj tnm tq CpS tN tbs0 [.type "object"] thd tsn tsub tab tcol tdd tk0 tk1 tk2 tk3 tk5 tnew))
    (tok : PySem.W.nsOkIn K tN = true)
    (teq : PySem.W.nsIn K tN "__eq__" = some (some (.ref m11S)))
    (tne : PySem.W.nsIn K tN "__ne__" = some none)
    (tfn : moc11S = .type "function")
    (ea0 : PySem.W.nsIn K mainGlobals "InvalidLabel" = some (some (.ref ex0)))
    (eq0 : PySem.W.excIn K ex0 [.type "ValueError", .type "Exception", .type "BaseException", .type "object"] "ValueError.__new__" = true)
    (ek0 : PySem.W.keepIn K (.ref ex0) = true)
    (eb0 : PySem.W.subIn K (.ref ex0) (.type "BaseException") = some true)
    (et0 : PySem.W.typeIn K (.ref ex0) = some (.type "type"))
    (ea1 : PySem.W.nsIn K mainGlobals "InvalidTerm" = some (some (.ref ex1)))
    (eq1 : PySem.W.excIn K ex1 [.type "ValueError", .type "Exception", .type "BaseException", .type "object"] "ValueError.__new__" = true)
    (ek1 : PySem.W.keepIn K (.ref ex1) = true)
    (eb1 : PySem.W.subIn K (.ref ex1) (.type "BaseException") = some true)
    (et1 : PySem.W.typeIn K (.ref ex1) = some (.type "type"))
    (ea2 : PySem.W.nsIn K mainGlobals "InvalidPath" = some (some (.ref ex2)))
    (eq2 : PySem.W.excIn K ex2 [.type "ValueError", .type "Exception", .type "BaseException", .type "object"] "ValueError.__new__" = true)
    (ek2 : PySem.W.keepIn K (.ref ex2) = true)
    (eb2 : PySem.W.subIn K (.ref ex2) (.type "BaseException") = some true)
    (et2 : PySem.W.typeIn K (.ref ex2) = some (.type "type"))
    (ea3 : PySem.W.nsIn K mainGlobals "PathNotFound" = some (some (.ref ex3)))
    (eq3 : PySem.W.excIn K ex3 [.type "ValueError", .type "Exception", .type "BaseException", .type "object"] "ValueError.__new__" = true)
    (ek3 : PySem.W.keepIn K (.ref ex3) = true)
    (eb3 : PySem.W.subIn K (.ref ex3) (.type "BaseException") = some true)
    (et3 : PySem.W.typeIn K (.ref ex3) = some (.type "type"))
    (ea4 : PySem.W.nsIn K mainGlobals "NotRewritable" = some (some (.ref ex4)))
    (eq4 : PySem.W.excIn K ex4 [.type "ValueError", .type "Exception", .type "BaseException", .type "object"] "ValueError.__new__" = true)
    (ek4 : PySem.W.keepIn K (.ref ex4) = true)
    (eb4 : PySem.W.subIn K (.ref ex4) (.type "BaseException") = some true)
    (et4 : PySem.W.typeIn K (.ref ex4) = some (.type "type"))
    (ea5 : PySem.W.nsIn K mainGlobals "LimitReached" = some (some (.ref ex5)))
    (eq5 : PySem.W.excIn K ex5 [.type "ValueError", .type "Exception", .type "BaseException", .type "object"] "ValueError.__new__" = true)
    (ek5 : PySem.W.keepIn K (.ref ex5) = true)
    (eb5 : PySem.W.subIn K (.ref ex5) (.type "BaseException") = some true)
    (et5 : PySem.W.typeIn K (.ref ex5) = some (.type "type"))
    (ea6 : PySem.W.nsIn K mainGlobals "EmptyHistory" = some (some (.ref ex6)))
    (eq6 : PySem.W.excIn K ex6 [.type "ValueError", .type "Exception", .type "BaseException", .type "object"] "ValueError.__new__" = true)
    (ek6 : PySem.W.keepIn K (.ref ex6) = true)
    (eb6 : PySem.W.subIn K (.ref ex6) (.type "BaseException") = some true)
    (et6 : PySem.W.typeIn K (.ref ex6) = some (.type "type"))
    (z_super : PySem.W.nsIn K mainGlobals "super" = some none)
    (tany : PySem.W.nsIn K cStatics "thirdparty.any" = some none)
    (ttop : (l.prog.main.scope.names.lookup ("super" : Str)).isSome = false)
    (ax5 : PySem.W.nsIn K mainGlobals "TooLarge" = some (some (.ref x5)))
    (ky5 : PySem.W.typeIn K (.ref x5) = some (.type "type"))
    (xs5 : PySem.W.subIn K (.ref x5) (.type "BaseException") = some true)
    (xf5_size : PySem.W.findIn K (.ref x5) "size" = some none)
    (ti5 : PySem.W.findIn K (.ref x5) "__init__" = some (some (.ref tf5)))
    (tt5 : PySem.W.typeIn K (.ref tf5) = some (.type "function"))
    (tl5 : K.lookup tf5 = some ⟨to5, td5, .func (PySem.W.ksFn "__init__" "TooLarge.__init__" (defArgs s_TLInit) (defBody s_TLInit) (defScope s_TLInit) .none tkV5 tdc5 tpm5 tan5 (.ref tcd5) tct5 tcc5), tsl5⟩)
    (tci5 : PySem.W.codeIn K (.ref tcd5) "TooLarge.__init__" = true)
    (tco5 : K.lookup tcd5 = some ⟨tcl5, tcdd5, .fields tcv5, tcs5⟩)
    (tcf5 : tcv5[2]? = some (.str tfile5 tft5))
    (tpf5 : ((l.prog.main.file : Str) == tfile5) = true)
    (tce5 : K.lookup tcc5 = some ⟨tccl5, tccd5, .cell (some (.ref x5)), tccs5⟩)
    (tlk5 : K.lookup x5 = some (excClassObj tnm5 tq5 x5 tN5 tbs5 tbm5 true tsn5 tsub5 tab5 tcol5 tdd5 tk0_5 tk1_5 tk2_5 tk3_5 tk5_5 "ValueError.__new__"))
    (tre5 : PySem.HandSPX.refsVE tbm5 = true)
    (tsa5 : PySem.W.findIn K (.ref x5) "__setattr__" = some (some (.builtin "object.__setattr__")))
    (tkp5 : PySem.W.keepIn K (.ref x5) = true)
    (tmr5 : PySem.W.mroIn K x5 (.ref x5) = some true)
    (tks5 : PySem.W.ks_superIn K x5 x5 "__init__" = some (some (.builtin "ValueError.__init__")))
    (tva5 : PySem.W.subIn K (.ref x5) (.type "ValueError") = some true)
    (ax14 : PySem.W.nsIn K mainGlobals "DuplicateName" = some (some (.ref x14)))
    (ky14 : PySem.W.typeIn K (.ref x14) = some (.type "type"))
    (xs14 : PySem.W.subIn K (.ref x14) (.type "BaseException") = some true)
    (xf14_name : PySem.W.findIn K (.ref x14) "name" = some none)
    (ti14 : PySem.W.findIn K (.ref x14) "__init__" = some (some (.ref tf14)))
    (tt14 : PySem.W.typeIn K (.ref tf14) = some (.type "function"))
    (tl14 : K.lookup tf14 = some ⟨to14, td14, .func (PySem.W.ksFn "__init__" "DuplicateName.__init__" (defArgs s_DNInit) (defBody s_DNInit) (defScope s_DNInit) .none tkV14 tdc14 tpm14 tan14 (.ref tcd14) tct14 tcc14), tsl14⟩)
    (tci14 : PySem.W.codeIn K (.ref tcd14) "DuplicateName.__init__" = true)
    (tco14 : K.lookup tcd14 = some ⟨tcl14, tcdd14, .fields tcv14, tcs14⟩)
    (tcf14 : tcv14[2]? = some (.str tfile14 tft14))
    (tpf14 : ((l.prog.main.file : Str) == tfile14) = true)
    (tce14 : K.lookup tcc14 = some ⟨tccl14, tccd14, .cell (some (.ref x14)), tccs14⟩)
    (tlk14 : K.lookup x14 = some (excClassObj tnm14 tq14 x14 tN14 tbs14 tbm14 true tsn14 tsub14 tab14 tcol14 tdd14 tk0_14 tk1_14 tk2_14 tk3_14 tk5_14 "ValueError.__new__"))
    (tre14 : PySem.HandSPX.refsVE tbm14 = true)
    (tsa14 : PySem.W.findIn K (.ref x14) "__setattr__" = some (some (.builtin "object.__setattr__")))
    (tkp14 : PySem.W.keepIn K (.ref x14) = true)
    (tmr14 : PySem.W.mroIn K x14 (.ref x14) = some true)
    (tks14 : PySem.W.ks_superIn K x14 x14 "__init__" = some (some (.builtin "ValueError.__init__")))
    (tva14 : PySem.W.subIn K (.ref x14) (.type "ValueError") = some true)
    (ax15 : PySem.W.nsIn K mainGlobals "UnknownName" = some (some (.ref x15)))
    (ky15 : PySem.W.typeIn K (.ref x15) = some (.type "type"))
    (xs15 : PySem.W.subIn K (.ref x15) (.type "BaseException") = some true)
    (xf15_name : PySem.W.findIn K (.ref x15) "name" = some none)
    (ti15 : PySem.W.findIn K (.ref x15) "__init__" = some (some (.ref tf15)))
    (tt15 : PySem.W.typeIn K (.ref tf15) = some (.type "function"))
    (tl15 : K.lookup tf15 = some ⟨to15, td15, .func (PySem.W.ksFn "__init__" "UnknownName.__init__" (defArgs s_UNInit) (defBody s_UNInit) (defScope s_UNInit) .none tkV15 tdc15 tpm15 tan15 (.ref tcd15) tct15 tcc15), tsl15⟩)
    (tci15 : PySem.W.codeIn K (.ref tcd15) "UnknownName.__init__" = true)
    (tco15 : K.lookup tcd15 = some ⟨tcl15, tcdd15, .fields tcv15, tcs15⟩)
    (tcf15 : tcv15[2]? = some (.str tfile15 tft15))
    (tpf15 : ((l.prog.main.file : Str) == tfile15) = true)
    (tce15 : K.lookup tcc15 = some ⟨tccl15, tccd15, .cell (some (.ref x15)), tccs15⟩)
    (tlk15 : K.lookup x15 = some (excClassObj tnm15 tq15 x15 tN15 tbs15 tbm15 true tsn15 tsub15 tab15 tcol15 tdd15 tk0_15 tk1_15 tk2_15 tk3_15 tk5_15 "ValueError.__new__"))
    (tre15 : PySem.HandSPX.refsVE tbm15 = true)
    (tsa15 : PySem.W.findIn K (.ref x15) "__setattr__" = some (some (.builtin "object.__setattr__")))
    (tkp15 : PySem.W.keepIn K (.ref x15) = true)
    (tmr15 : PySem.W.mroIn K x15 (.ref x15) = some true)
    (tks15 : PySem.W.ks_superIn K x15 x15 "__init__" = some (some (.builtin "ValueError.__init__")))
    (tva15 : PySem.W.subIn K (.ref x15) (.type "ValueError") = some true)
    (ax1 : PySem.W.nsIn K mainGlobals "InvalidText" = some (some (.ref x1)))
    (ky1 : PySem.W.typeIn K (.ref x1) = some (.type "type"))
    (xs1 : PySem.W.subIn K (.ref x1) (.type "BaseException") = some true)
    (xf1_position : PySem.W.findIn K (.ref x1) "position" = some none)
    (ti1 : PySem.W.findIn K (.ref x1) "__init__" = some (some (.ref tf1)))
    (tt1 : PySem.W.typeIn K (.ref tf1) = some (.type "function"))
    (tl1 : K.lookup tf1 = some ⟨to1, td1, .func (PySem.W.ksFn "__init__" "InvalidText.__init__" (defArgs s_ITInit) (defBody s_ITInit) (defScope s_ITInit) .none tkV1 tdc1 tpm1 tan1 (.ref tcd1) tct1 tcc1), tsl1⟩)
    (tci1 : PySem.W.codeIn K (.ref tcd1) "InvalidText.__init__" = true)
    (tco1 : K.lookup tcd1 = some ⟨tcl1, tcdd1, .fields tcv1, tcs1⟩)
    (tcf1 : tcv1[2]? = some (.str tfile1 tft1))
    (tpf1 : ((l.prog.main.file : Str) == tfile1) = true)
    (tce1 : K.lookup tcc1 = some ⟨tccl1, tccd1, .cell (some (.ref x1)), tccs1⟩)
    (tlk1 : K.lookup x1 = some (excClassObj tnm1 tq1 x1 tN1 tbs1 tbm1 true tsn1 tsub1 tab1 tcol1 tdd1 tk0_1 tk1_1 tk2_1 tk3_1 tk5_1 "ValueError.__new__"))
    (tre1 : PySem.HandSPX.refsVE tbm1 = true)
    (tsa1 : PySem.W.findIn K (.ref x1) "__setattr__" = some (some (.builtin "object.__setattr__")))
    (tkp1 : PySem.W.keepIn K (.ref x1) = true)
    (tmr1 : PySem.W.mroIn K x1 (.ref x1) = some true)
    (tks1 : PySem.W.ks_superIn K x1 x1 "__init__" = some (some (.builtin "ValueError.__init__")))
    (tva1 : PySem.W.subIn K (.ref x1) (.type "ValueError") = some true)
    (q_LABEL_LETTERS : PySem.W.nsIn K mainGlobals "LABEL_LETTERS" = some (some (.str "abcdefghijklmnopqrstuvwxyz" tcL))) :
    ∃ fd : FuncData, (∀ (s : Shared) (v : Value), BindsTo s fd ⟨[v], []⟩ [("_law_script", v)]) ∧ ∀ base : Heap, K.In base → base.Ns mainGlobals mg → FnOk l.prog w K mg base CX0 60 fa fd ["_law_script"] (spLaw K) := by
  have e := hfa.symm.trans (PySem.W.mg_of X G a60)
  cases e
  have F0 := fun_mk (st := s_is_pair) l0 c0 k0
  have d_is_pair : D K mg "is_pair" s_is_pair ["part"] _ _ := ⟨F0, F0.binds (ps := ["part"]) fun _ _ _ _ _ _ us hl => match us, hl with | [_], _ => rfl, PySem.W.mg_of X G a0⟩
  have F1 := fun_mk (st := s_is_term) l1 c1 k1
  have d_is_term : D K mg "is_term" s_is_term ["term"] _ _ := ⟨F1, F1.binds (ps := ["term"]) fun _ _ _ _ _ _ us hl => match us, hl with | [_], _ => rfl, PySem.W.mg_of X G a1⟩
  have F2 := fun_mk (st := s_check_term) l2 c2 k2
  have d_check_term : D K mg "check_term" s_check_term ["term"] _ _ := ⟨F2, F2.binds (ps := ["term"]) fun _ _ _ _ _ _ us hl => match us, hl with | [_], _ => rfl, PySem.W.mg_of X G a2⟩
  have F3 := fun_mk (st := s_check_path) l3 c3 k3
  have d_check_path : D K mg "check_path" s_check_path ["path"] _ _ := ⟨F3, F3.binds (ps := ["path"]) fun _ _ _ _ _ _ us hl => match us, hl with | [_], _ => rfl, PySem.W.mg_of X G a3⟩
  have F4 := fun_mk (st := s_numbers_along) l4 c4 k4
  have d_numbers_along : D K mg "numbers_along" s_numbers_along ["pool", "number", "path"] _ _ := ⟨F4, F4.binds (ps := ["pool", "number", "path"]) fun _ _ _ _ _ _ us hl => match us, hl with | [_, _, _], _ => rfl, PySem.W.mg_of X G a4⟩
  have F5 := fun_mk (st := s_expanded) l5 c5 k5
  have d_expanded : D K mg "expanded" s_expanded ["pool", "number"] _ _ := ⟨F5, F5.binds (ps := ["pool", "number"]) fun _ _ _ _ _ _ us hl => match us, hl with | [_, _], _ => rfl, PySem.W.mg_of X G a5⟩
  have F6 := fun_mk (st := s_contracted) l6 c6 k6
  have d_contracted : D K mg "contracted" s_contracted ["pool", "number"] _ _ := ⟨F6, F6.binds (ps := ["pool", "number"]) fun _ _ _ _ _ _ us hl => match us, hl with | [_, _], _ => rfl, PySem.W.mg_of X G a6⟩
  have F7 := fun_mk (st := s_rewritten) l7 c7 k7
  have d_rewritten : D K mg "rewritten" s_rewritten ["pool", "number", "expanding"] _ _ := ⟨F7, F7.binds (ps := ["pool", "number", "expanding"]) fun _ _ _ _ _ _ us hl => match us, hl with | [_, _, _], _ => rfl, PySem.W.mg_of X G a7⟩
  have F8 := fun_mk (st := s_rewritten_at) l8 c8 k8
  have d_rewritten_at : D K mg "rewritten_at" s_rewritten_at ["pool", "number", "path", "expanding"] _ _ := ⟨F8, F8.binds (ps := ["pool", "number", "path", "expanding"]) fun _ _ _ _ _ _ us hl => match us, hl with | [_, _, _, _], _ => rfl, PySem.W.mg_of X G a8⟩
  have F9 := fun_mk (st := s_rewritten_term) l9 c9 k9
  have d_rewritten_term : D K mg "rewritten_term" s_rewritten_term ["term", "path", "expanding"] _ _ := ⟨F9, F9.binds (ps := ["term", "path", "expanding"]) fun _ _ _ _ _ _ us hl => match us, hl with | [_, _, _], _ => rfl, PySem.W.mg_of X G a9⟩
  have F10 := fun_mk (st := s_generators_in) l10 c10 k10
  have d_generators_in : D K mg "generators_in" s_generators_in ["term"] _ _ := ⟨F10, F10.binds (ps := ["term"]) fun _ _ _ _ _ _ us hl => match us, hl with | [_], _ => rfl, PySem.W.mg_of X G a10⟩
  have F11 := fun_mk (st := s_is_label) l11 c11 k11
  have d_is_label : D K mg "is_label" s_is_label ["label"] _ _ := ⟨F11, F11.binds (ps := ["label"]) fun _ _ _ _ _ _ us hl => match us, hl with | [_], _ => rfl, PySem.W.mg_of X G a11⟩
  have F12 := fun_mk (st := s_check_new_label) l12 c12 k12
  have d_check_new_label : D K mg "check_new_label" s_check_new_label ["contents", "label"] _ _ := ⟨F12, F12.binds (ps := ["contents", "label"]) fun _ _ _ _ _ _ us hl => match us, hl with | [_, _], _ => rfl, PySem.W.mg_of X G a12⟩
  have F13 := fun_mk (st := s_known_term) l13 c13 k13
  have d_known_term : D K mg "known_term" s_known_term ["contents", "label"] _ _ := ⟨F13, F13.binds (ps := ["contents", "label"]) fun _ _ _ _ _ _ us hl => match us, hl with | [_, _], _ => rfl, PySem.W.mg_of X G a13⟩
  have F14 := fun_mk (st := s_check_made_term) l14 c14 k14
  have d_check_made_term : D K mg "check_made_term" s_check_made_term ["term"] _ _ := ⟨F14, F14.binds (ps := ["term"]) fun _ _ _ _ _ _ us hl => match us, hl with | [_], _ => rfl, PySem.W.mg_of X G a14⟩
  have F15 := fun_mk (st := s_with_new) l15 c15 k15
  have d_with_new : D K mg "with_new" s_with_new ["contents", "label", "term"] _ _ := ⟨F15, F15.binds (ps := ["contents", "label", "term"]) fun _ _ _ _ _ _ us hl => match us, hl with | [_, _, _], _ => rfl, PySem.W.mg_of X G a15⟩
  have F16 := fun_mk (st := s_after_add) l16 c16 k16
  have d_after_add : D K mg "after_add" s_after_add ["contents", "label", "term"] _ _ := ⟨F16, F16.binds (ps := ["contents", "label", "term"]) fun _ _ _ _ _ _ us hl => match us, hl with | [_, _, _], _ => rfl, PySem.W.mg_of X G a16⟩
  have F17 := fun_mk (st := s_after_combine) l17 c17 k17
  have d_after_combine : D K mg "after_combine" s_after_combine ["contents", "label", "left", "right"] _ _ := ⟨F17, F17.binds (ps := ["contents", "label", "left", "right"]) fun _ _ _ _ _ _ us hl => match us, hl with | [_, _, _, _], _ => rfl, PySem.W.mg_of X G a17⟩
  have F18 := fun_mk (st := s_after_extract) l18 c18 k18
  have d_after_extract : D K mg "after_extract" s_after_extract ["contents", "label", "source", "right"] _ _ := ⟨F18, F18.binds (ps := ["contents", "label", "source", "right"]) fun _ _ _ _ _ _ us hl => match us, hl with | [_, _, _, _], _ => rfl, PySem.W.mg_of X G a18⟩
  have F19 := fun_mk (st := s_after_rewrite) l19 c19 k19
  have d_after_rewrite : D K mg "after_rewrite" s_after_rewrite ["contents", "label", "path", "contract"] _ _ := ⟨F19, F19.binds (ps := ["contents", "label", "path", "contract"]) fun _ _ _ _ _ _ us hl => match us, hl with | [_, _, _, _], _ => rfl, PySem.W.mg_of X G a19⟩
  have F20 := fun_mk (st := s_after_delete) l20 c20 k20
  have d_after_delete : D K mg "after_delete" s_after_delete ["contents", "label"] _ _ := ⟨F20, F20.binds (ps := ["contents", "label"]) fun _ _ _ _ _ _ us hl => match us, hl with | [_, _], _ => rfl, PySem.W.mg_of X G a20⟩
  have F21 := fun_mk (st := s_store_of) l21 c21 k21
  have d_store_of : D K mg "store_of" s_store_of ["contents"] _ _ := ⟨F21, F21.binds (ps := ["contents"]) fun _ _ _ _ _ _ us hl => match us, hl with | [_], _ => rfl, PySem.W.mg_of X G a21⟩
  have F22 := fun_mk (st := s_has_room) l22 c22 k22
  have d_has_room : D K mg "has_room" s_has_room ["open_lists"] _ _ := ⟨F22, F22.binds (ps := ["open_lists"]) fun _ _ _ _ _ _ us hl => match us, hl with | [_], _ => rfl, PySem.W.mg_of X G a22⟩
  have F23 := fun_mk (st := s_read_term) l23 c23 k23
  have d_read_term : D K mg "read_term" s_read_term ["text"] _ _ := ⟨F23, F23.binds (ps := ["text"]) fun _ _ _ _ _ _ us hl => match us, hl with | [_], _ => rfl, PySem.W.mg_of X G a23⟩
  have F24 := fun_mk (st := s_parse_term) l24 c24 k24
  have d_parse_term : D K mg "parse_term" s_parse_term ["text"] _ _ := ⟨F24, F24.binds (ps := ["text"]) fun _ _ _ _ _ _ us hl => match us, hl with | [_], _ => rfl, PySem.W.mg_of X G a24⟩
  have F25 := fun_mk (st := s_written) l25 c25 k25
  have d_written : D K mg "written" s_written ["term"] _ _ := ⟨F25, F25.binds (ps := ["term"]) fun _ _ _ _ _ _ us hl => match us, hl with | [_], _ => rfl, PySem.W.mg_of X G a25⟩
  have F26 := fun_mk (st := s_format_term) l26 c26 k26
  have d_format_term : D K mg "format_term" s_format_term ["term"] _ _ := ⟨F26, F26.binds (ps := ["term"]) fun _ _ _ _ _ _ us hl => match us, hl with | [_], _ => rfl, PySem.W.mg_of X G a26⟩
  have F27 := fun_mk (st := s_term_in_row) l27 c27 k27
  have d_term_in_row : D K mg "term_in_row" s_term_in_row ["at", "written"] _ _ := ⟨F27, F27.binds (ps := ["at", "written"]) fun _ _ _ _ _ _ us hl => match us, hl with | [_, _], _ => rfl, PySem.W.mg_of X G a27⟩
  have F28 := fun_mk (st := s_load) l28 c28 k28
  have d_load : D K mg "load" s_load ["text"] _ _ := ⟨F28, F28.binds (ps := ["text"]) fun _ _ _ _ _ _ us hl => match us, hl with | [_], _ => rfl, PySem.W.mg_of X G a28⟩
  have F29 := fun_mk (st := s_dump) l29 c29 k29
  have d_dump : D K mg "dump" s_dump ["store"] _ _ := ⟨F29, F29.binds (ps := ["store"]) fun _ _ _ _ _ _ us hl => match us, hl with | [_], _ => rfl, PySem.W.mg_of X G a29⟩
  have F30 := fun_mk (st := s__law_draws) l30 c30 k30
  have d__law_draws : D K mg "_law_draws" s__law_draws ["_law_script"] _ _ := ⟨F30, F30.binds (ps := ["_law_script"]) fun _ _ _ _ _ _ us hl => match us, hl with | [_], _ => rfl, PySem.W.mg_of X G a30⟩
  have F31 := fun_mk (st := s__law_draw) l31 c31 k31
  have d__law_draw : D K mg "_law_draw" s__law_draw ["_law_rng", "_law_amount"] _ _ := ⟨F31, F31.binds (ps := ["_law_rng", "_law_amount"]) fun _ _ _ _ _ _ us hl => match us, hl with | [_, _], _ => rfl, PySem.W.mg_of X G a31⟩
  have F32 := fun_mk (st := s__law_pick) l32 c32 k32
  have d__law_pick : D K mg "_law_pick" s__law_pick ["_law_rng", "_law_terms"] _ _ := ⟨F32, F32.binds (ps := ["_law_rng", "_law_terms"]) fun _ _ _ _ _ _ us hl => match us, hl with | [_, _], _ => rfl, PySem.W.mg_of X G a32⟩
  have F33 := fun_mk (st := s__law_same) l33 c33 k33
  have d__law_same : D K mg "_law_same" s__law_same ["_law_result_here", "_law_expected"] _ _ := ⟨F33, F33.binds (ps := ["_law_result_here", "_law_expected"]) fun _ _ _ _ _ _ us hl => match us, hl with | [_, _], _ => rfl, PySem.W.mg_of X G a33⟩
  have F34 := fun_mk (st := s__law_term) l34 c34 k34
  have d__law_term : D K mg "_law_term" s__law_term ["_law_rng", "_law_many", "_law_cap"] _ _ := ⟨F34, F34.binds (ps := ["_law_rng", "_law_many", "_law_cap"]) fun _ _ _ _ _ _ us hl => match us, hl with | [_, _, _], _ => rfl, PySem.W.mg_of X G a34⟩
  have F35 := fun_mk (st := s__law_comb) l35 c35 k35
  have d__law_comb : D K mg "_law_comb" s__law_comb ["_law_many", "_law_onleft"] _ _ := ⟨F35, F35.binds (ps := ["_law_many", "_law_onleft"]) fun _ _ _ _ _ _ us hl => match us, hl with | [_, _], _ => rfl, PySem.W.mg_of X G a35⟩
  have F36 := fun_mk (st := s__law_any_term) l36 c36 k36
  have d__law_any_term : D K mg "_law_any_term" s__law_any_term ["_law_rng", "_law_top"] _ _ := ⟨F36, F36.binds (ps := ["_law_rng", "_law_top"]) fun _ _ _ _ _ _ us hl => match us, hl with | [_, _], _ => rfl, PySem.W.mg_of X G a36⟩
  have F37 := fun_mk (st := s__law_size) l37 c37 k37
  have d__law_size : D K mg "_law_size" s__law_size ["_law_term_here"] _ _ := ⟨F37, F37.binds (ps := ["_law_term_here"]) fun _ _ _ _ _ _ us hl => match us, hl with | [_], _ => rfl, PySem.W.mg_of X G a37⟩
  have F38 := fun_mk (st := s__law_depth) l38 c38 k38
  have d__law_depth : D K mg "_law_depth" s__law_depth ["_law_term_here"] _ _ := ⟨F38, F38.binds (ps := ["_law_term_here"]) fun _ _ _ _ _ _ us hl => match us, hl with | [_], _ => rfl, PySem.W.mg_of X G a38⟩
  have F39 := fun_mk (st := s__law_fits) l39 c39 k39
  have d__law_fits : D K mg "_law_fits" s__law_fits ["_law_term_here", "_law_top"] _ _ := ⟨F39, F39.binds (ps := ["_law_term_here", "_law_top"]) fun _ _ _ _ _ _ us hl => match us, hl with | [_, _], _ => rfl, PySem.W.mg_of X G a39⟩
  have F40 := fun_mk (st := s__law_paths) l40 c40 k40
  have d__law_paths : D K mg "_law_paths" s__law_paths ["_law_term_here", "_law_spot"] _ _ := ⟨F40, F40.binds (ps := ["_law_term_here", "_law_spot"]) fun _ _ _ _ _ _ us hl => match us, hl with | [_, _], _ => rfl, PySem.W.mg_of X G a40⟩
  have F41 := fun_mk (st := s__law_subterm) l41 c41 k41
  have d__law_subterm : D K mg "_law_subterm" s__law_subterm ["_law_term_here", "_law_spot"] _ _ := ⟨F41, F41.binds (ps := ["_law_term_here", "_law_spot"]) fun _ _ _ _ _ _ us hl => match us, hl with | [_, _], _ => rfl, PySem.W.mg_of X G a41⟩
  have F42 := fun_mk (st := s__law_replace) l42 c42 k42
  have d__law_replace : D K mg "_law_replace" s__law_replace ["_law_term_here", "_law_spot", "_law_new"] _ _ := ⟨F42, F42.binds (ps := ["_law_term_here", "_law_spot", "_law_new"]) fun _ _ _ _ _ _ us hl => match us, hl with | [_, _, _], _ => rfl, PySem.W.mg_of X G a42⟩
  have F43 := fun_mk (st := s__law_expanded) l43 c43 k43
  have d__law_expanded : D K mg "_law_expanded" s__law_expanded ["_law_some"] _ _ := ⟨F43, F43.binds (ps := ["_law_some"]) fun _ _ _ _ _ _ us hl => match us, hl with | [_], _ => rfl, PySem.W.mg_of X G a43⟩
  have F44 := fun_mk (st := s__law_contracted) l44 c44 k44
  have d__law_contracted : D K mg "_law_contracted" s__law_contracted ["_law_some"] _ _ := ⟨F44, F44.binds (ps := ["_law_some"]) fun _ _ _ _ _ _ us hl => match us, hl with | [_], _ => rfl, PySem.W.mg_of X G a44⟩
  have F45 := fun_mk (st := s__law_rewrite) l45 c45 k45
  have d__law_rewrite : D K mg "_law_rewrite" s__law_rewrite ["_law_term_here", "_law_spot", "_law_onward"] _ _ := ⟨F45, F45.binds (ps := ["_law_term_here", "_law_spot", "_law_onward"]) fun _ _ _ _ _ _ us hl => match us, hl with | [_, _, _], _ => rfl, PySem.W.mg_of X G a45⟩
  have F46 := fun_mk (st := s__law_steps) l46 c46 k46
  have d__law_steps : D K mg "_law_steps" s__law_steps ["_law_term_here"] _ _ := ⟨F46, F46.binds (ps := ["_law_term_here"]) fun _ _ _ _ _ _ us hl => match us, hl with | [_], _ => rfl, PySem.W.mg_of X G a46⟩
  have F47 := fun_mk (st := s__law_labels) l47 c47 k47
  have d__law_labels : D K mg "_law_labels" s__law_labels ["_law_rng"] _ _ := ⟨F47, F47.binds (ps := ["_law_rng"]) fun _ _ _ _ _ _ us hl => match us, hl with | [_], _ => rfl, PySem.W.mg_of X G a47⟩
  have F48 := fun_mk (st := s__law_is_label) l48 c48 k48
  have d__law_is_label : D K mg "_law_is_label" s__law_is_label ["_law_label"] _ _ := ⟨F48, F48.binds (ps := ["_law_label"]) fun _ _ _ _ _ _ us hl => match us, hl with | [_], _ => rfl, PySem.W.mg_of X G a48⟩
  have F49 := fun_mk (st := s__law_is_tree) l49 c49 k49
  have d__law_is_tree : D K mg "_law_is_tree" s__law_is_tree ["_law_term_here"] _ _ := ⟨F49, F49.binds (ps := ["_law_term_here"]) fun _ _ _ _ _ _ us hl => match us, hl with | [_], _ => rfl, PySem.W.mg_of X G a49⟩
  have F50 := fun_mk (st := s__law_command) l50 c50 k50
  have d__law_command : D K mg "_law_command" s__law_command ["_law_rng", "_law_pool", "_law_current"] _ _ := ⟨F50, F50.binds (ps := ["_law_rng", "_law_pool", "_law_current"]) fun _ _ _ _ _ _ us hl => match us, hl with | [_, _, _], _ => rfl, PySem.W.mg_of X G a50⟩
  have F51 := fun_mk (st := s__law_computed) l51 c51 k51
  have d__law_computed : D K mg "_law_computed" s__law_computed ["_law_current", "_law_command_here"] _ _ := ⟨F51, F51.binds (ps := ["_law_current", "_law_command_here"]) fun _ _ _ _ _ _ us hl => match us, hl with | [_, _], _ => rfl, PySem.W.mg_of X G a51⟩
  have F52 := fun_mk (st := s__law_rewrite_result) l52 c52 k52
  have d__law_rewrite_result : D K mg "_law_rewrite_result" s__law_rewrite_result ["_law_current", "_law_command_here"] _ _ := ⟨F52, F52.binds (ps := ["_law_current", "_law_command_here"]) fun _ _ _ _ _ _ us hl => match us, hl with | [_, _], _ => rfl, PySem.W.mg_of X G a52⟩
  have F53 := fun_mk (st := s__law_result) l53 c53 k53
  have d__law_result : D K mg "_law_result" s__law_result ["_law_current", "_law_command_here"] _ _ := ⟨F53, F53.binds (ps := ["_law_current", "_law_command_here"]) fun _ _ _ _ _ _ us hl => match us, hl with | [_, _], _ => rfl, PySem.W.mg_of X G a53⟩
  have F54 := fun_mk (st := s__law_run) l54 c54 k54
  have d__law_run : D K mg "_law_run" s__law_run ["_law_store", "_law_command_here"] _ _ := ⟨F54, F54.binds (ps := ["_law_store", "_law_command_here"]) fun _ _ _ _ _ _ us hl => match us, hl with | [_, _], _ => rfl, PySem.W.mg_of X G a54⟩
  have F55 := fun_mk (st := s__law_matches) l55 c55 k55
  have d__law_matches : D K mg "_law_matches" s__law_matches ["_law_store", "_law_current"] _ _ := ⟨F55, F55.binds (ps := ["_law_store", "_law_current"]) fun _ _ _ _ _ _ us hl => match us, hl with | [_, _], _ => rfl, PySem.W.mg_of X G a55⟩
  have F56 := fun_mk (st := s__law_any_store) l56 c56 k56
  have d__law_any_store : D K mg "_law_any_store" s__law_any_store ["_law_rng", "_law_many"] _ _ := ⟨F56, F56.binds (ps := ["_law_rng", "_law_many"]) fun _ _ _ _ _ _ us hl => match us, hl with | [_, _], _ => rfl, PySem.W.mg_of X G a56⟩
  have F57 := fun_mk (st := s__law_format) l57 c57 k57
  have d__law_format : D K mg "_law_format" s__law_format ["_law_term_here"] _ _ := ⟨F57, F57.binds (ps := ["_law_term_here"]) fun _ _ _ _ _ _ us hl => match us, hl with | [_], _ => rfl, PySem.W.mg_of X G a57⟩
  have F58 := fun_mk (st := s__law_contents) l58 c58 k58
  have d__law_contents : D K mg "_law_contents" s__law_contents ["_law_store"] _ _ := ⟨F58, F58.binds (ps := ["_law_store"]) fun _ _ _ _ _ _ us hl => match us, hl with | [_], _ => rfl, PySem.W.mg_of X G a58⟩
  have F59 := fun_mk (st := s__law_snapshot) l59 c59 k59
  have d__law_snapshot : D K mg "_law_snapshot" s__law_snapshot ["_law_current"] _ _ := ⟨F59, F59.binds (ps := ["_law_current"]) fun _ _ _ _ _ _ us hl => match us, hl with | [_], _ => rfl, PySem.W.mg_of X G a59⟩
  have F60 := fun_mk (st := s_law) l60 c60 k60
  have d_law : D K mg "law" s_law ["_law_script"] _ _ := ⟨F60, F60.binds (ps := ["_law_script"]) fun _ _ _ _ _ _ us hl => match us, hl with | [_], _ => rfl, PySem.W.mg_of X G a60⟩
  have B : Blt mg := ⟨PySem.W.mg_none_of X G z_len, PySem.W.mg_none_of X G z_list, PySem.W.mg_none_of X G z_tuple, PySem.W.mg_none_of X G z_dict, PySem.W.mg_none_of X G z_bool, PySem.W.mg_none_of X G z_isinstance, PySem.W.mg_none_of X G z_max, PySem.W.mg_none_of X G z_min, PySem.W.mg_none_of X G z_range, PySem.W.mg_none_of X G z_all, PySem.W.mg_none_of X G z_sorted, PySem.W.mg_none_of X G z_enumerate, PySem.W.mg_none_of X G z_sum, PySem.W.mg_none_of X G z_str, PySem.W.mg_none_of X G z_int⟩
  have C : Cst mg := ⟨⟨_, PySem.W.mg_of X G q_MAX_SIZE⟩, ⟨_, PySem.W.mg_of X G q_MAX_DEPTH⟩⟩
  have MF0 := fun_mk (st := s_PInit) ml0 mc0 mk0
  have mb0 := MF0.binds (ps := ["self"]) fun _ _ _ _ _ _ us hl => match us, hl with | [_], _ => rfl
  have MF1 := fun_mk (st := s_PPair) ml1 mc1 mk1
  have mb1 := MF1.binds (ps := ["self", "left", "right"]) fun _ _ _ _ _ _ us hl => match us, hl with | [_, _, _], _ => rfl
  have MF2 := fun_mk (st := s_PNum) ml2 mc2 mk2
  have mb2 := MF2.binds (ps := ["self", "term"]) fun _ _ _ _ _ _ us hl => match us, hl with | [_, _], _ => rfl
  have T : PoolT K mg Cp := ⟨⟨cpg, chd, cpo, csa⟩, cn0, cn1, cn2, cn3, PySem.W.mg_of X G aC⟩
  have MF0S := fun_mk (st := s_Store___init__) ml0S mc0S mk0S
  have mb0S := MF0S.binds (ps := ["self"]) fun _ _ _ _ _ _ us hl => match us, hl with | [_], _ => rfl
  have MF1S := fun_mk (st := s_Store___len__) ml1S mc1S mk1S
  have mb1S := MF1S.binds (ps := ["self"]) fun _ _ _ _ _ _ us hl => match us, hl with | [_], _ => rfl
  have MF2S := fun_mk (st := s_Store_record) ml2S mc2S mk2S
  have mb2S := MF2S.binds (ps := ["self", "contents"]) fun _ _ _ _ _ _ us hl => match us, hl with | [_, _], _ => rfl
  have MF3S := fun_mk (st := s_Store_history) ml3S mc3S mk3S
  have mb3S := MF3S.binds (ps := ["self"]) fun _ _ _ _ _ _ us hl => match us, hl with | [_], _ => rfl
  have MF4S := fun_mk (st := s_Store_term) ml4S mc4S mk4S
  have mb4S := MF4S.binds (ps := ["self", "label"]) fun _ _ _ _ _ _ us hl => match us, hl with | [_, _], _ => rfl
  have MF5S := fun_mk (st := s_Store_labels) ml5S mc5S mk5S
  have mb5S := MF5S.binds (ps := ["self"]) fun _ _ _ _ _ _ us hl => match us, hl with | [_], _ => rfl
  have MF6S := fun_mk (st := s_Store_add) ml6S mc6S mk6S
  have mb6S := MF6S.binds (ps := ["self", "label", "term"]) fun _ _ _ _ _ _ us hl => match us, hl with | [_, _, _], _ => rfl
  have MF7S := fun_mk (st := s_Store_combine) ml7S mc7S mk7S
  have mb7S := MF7S.binds (ps := ["self", "label", "left", "right"]) fun _ _ _ _ _ _ us hl => match us, hl with | [_, _, _, _], _ => rfl
  have MF8S := fun_mk (st := s_Store_delete) ml8S mc8S mk8S
  have mb8S := MF8S.binds (ps := ["self", "label"]) fun _ _ _ _ _ _ us hl => match us, hl with | [_, _], _ => rfl
  have MF9S := fun_mk (st := s_Store_undo) ml9S mc9S mk9S
  have mb9S := MF9S.binds (ps := ["self"]) fun _ _ _ _ _ _ us hl => match us, hl with | [_], _ => rfl
  have MF10S := fun_mk (st := s_Store_redo) ml10S mc10S mk10S
  have mb10S := MF10S.binds (ps := ["self"]) fun _ _ _ _ _ _ us hl => match us, hl with | [_], _ => rfl
  have MF11S := fun_mk (st := s_Store___eq__) ml11S mc11S mk11S
  have mb11S := MF11S.binds (ps := ["self", "other"]) fun _ _ _ _ _ _ us hl => match us, hl with | [_, _], _ => rfl
  have MF12S := fun_mk (st := s_Store_extract) ml12S mc12S mk12S
  have MF13S := fun_mk (st := s_Store_rewrite) ml13S mc13S mk13S
  have TS : StT K mg CpS := ⟨⟨cpgS, chdS, cpoS, csaS⟩, cn0S, cn1S, cn2S, PySem.W.mg_of X G aCS⟩
  have nC : PySem.W.notFirst K CpS (.ref CpS) = true := by
    unfold PySem.W.notFirst
    rw [beq_self_eq_true]
    rfl
  have TE : StE K CpS m11S := ⟨te1, te2, te3, te4, if_pos (beq_self_eq_true _), nC, ma11S, mi11S, ⟨⟨_, _, _, _, _, _, _, _, _, _, _, _, _, _, _, _, tlk, tok, teq, tne⟩, ⟨_, ml11S, tfn⟩⟩⟩
  have EC0 : ErrC K mg "InvalidLabel" ex0 := ⟨eq0, PySem.W.mg_of X G ea0, ek0, eb0, et0⟩
  have EC1 : ErrC K mg "InvalidTerm" ex1 := ⟨eq1, PySem.W.mg_of X G ea1, ek1, eb1, et1⟩
  have EC2 : ErrC K mg "InvalidPath" ex2 := ⟨eq2, PySem.W.mg_of X G ea2, ek2, eb2, et2⟩
  have EC3 : ErrC K mg "PathNotFound" ex3 := ⟨eq3, PySem.W.mg_of X G ea3, ek3, eb3, et3⟩
  have EC4 : ErrC K mg "NotRewritable" ex4 := ⟨eq4, PySem.W.mg_of X G ea4, ek4, eb4, et4⟩
  have EC5 : ErrC K mg "LimitReached" ex5 := ⟨eq5, PySem.W.mg_of X G ea5, ek5, eb5, et5⟩
  have EC6 : ErrC K mg "EmptyHistory" ex6 := ⟨eq6, PySem.W.mg_of X G ea6, ek6, eb6, et6⟩
  have FL5 : FunS l.prog K mg "TooLarge" "TooLarge.__init__" s_TLInit ["self", "size"] x5 tf5 _ := ⟨⟨_, _, _, _, _, _, _, _, _, _, _, _, _, _, _, _, _, _, _, _, rfl, tl5, tci5, tco5, tcf5, tpf5, tce5⟩, ttop, ⟨⟨_, _, _, _, _, _, _, _, _, _, _, _, _, _, _, tlk5, tre5⟩, tsa5, xs5, ky5, tkp5⟩, tmr5, PySem.W.mg_none_of X G z_super, tany, tks5, tva5, ti5, tt5, Binds.all fun us hl => match us, hl with | [_, _], _ => rfl, PySem.W.mg_of X G ax5⟩
  have FL14 : FunS l.prog K mg "DuplicateName" "DuplicateName.__init__" s_DNInit ["self", "name"] x14 tf14 _ := ⟨⟨_, _, _, _, _, _, _, _, _, _, _, _, _, _, _, _, _, _, _, _, rfl, tl14, tci14, tco14, tcf14, tpf14, tce14⟩, ttop, ⟨⟨_, _, _, _, _, _, _, _, _, _, _, _, _, _, _, tlk14, tre14⟩, tsa14, xs14, ky14, tkp14⟩, tmr14, PySem.W.mg_none_of X G z_super, tany, tks14, tva14, ti14, tt14, Binds.all fun us hl => match us, hl with | [_, _], _ => rfl, PySem.W.mg_of X G ax14⟩
  have FL15 : FunS l.prog K mg "UnknownName" "UnknownName.__init__" s_UNInit ["self", "name"] x15 tf15 _ := ⟨⟨_, _, _, _, _, _, _, _, _, _, _, _, _, _, _, _, _, _, _, _, rfl, tl15, tci15, tco15, tcf15, tpf15, tce15⟩, ttop, ⟨⟨_, _, _, _, _, _, _, _, _, _, _, _, _, _, _, tlk15, tre15⟩, tsa15, xs15, ky15, tkp15⟩, tmr15, PySem.W.mg_none_of X G z_super, tany, tks15, tva15, ti15, tt15, Binds.all fun us hl => match us, hl with | [_, _], _ => rfl, PySem.W.mg_of X G ax15⟩
  have FL1 : FunS l.prog K mg "InvalidText" "InvalidText.__init__" s_ITInit ["self", "position"] x1 tf1 _ := ⟨⟨_, _, _, _, _, _, _, _, _, _, _, _, _, _, _, _, _, _, _, _, rfl, tl1, tci1, tco1, tcf1, tpf1, tce1⟩, ttop, ⟨⟨_, _, _, _, _, _, _, _, _, _, _, _, _, _, _, tlk1, tre1⟩, tsa1, xs1, ky1, tkp1⟩, tmr1, PySem.W.mg_none_of X G z_super, tany, tks1, tva1, ti1, tt1, Binds.all fun us hl => match us, hl with | [_, _], _ => rfl, PySem.W.mg_of X G ax1⟩
  exact ⟨PySem.W.fnOf "law" "law" (defArgs s_law) (defBody s_law) (defScope s_law) .none kV60 dc60 pm60 an60 cd60 ct60, fun s v => .of_eq rfl, fun base _ _ => ok_law d_law (A0 := ⟨ex0, x14, x15, ex1, ex2, ex3, ex4, x5, ex5, ex6, ex0⟩) B C ⟨⟨_, PySem.W.mg_of X G q_MAX_LABELS⟩, ⟨_, PySem.W.mg_of X G q_MAX_LABEL⟩, ⟨_, PySem.W.mg_of X G q_LABEL_LETTERS⟩⟩ FL5 xf5_size FL14 xf14_name FL15 xf15_name EC0 EC1 EC2 EC3 EC4 EC5 EC6 FL1 xf1_position ⟨_, PySem.W.mg_of X G q_GENERATOR⟩ (PySem.W.mg_of X G q_MAX_PATH) T ⟨cmk, ma0, mi0, ckc⟩ MF0 mb0 MF1 mb1 ⟨ma1, mi1, mk1⟩ MF2 mb2 ⟨ma2, mi2, mk2⟩ TS ⟨cmkS, ma0S, mi0S, ckcS⟩ MF0S mb0S ma1S mi1S MF1S mb1S ⟨MF2S, mb2S, ⟨ma2S, mi2S, mk2S⟩⟩ ⟨MF3S, mb3S, ⟨ma3S, mi3S, mk3S⟩⟩ ⟨MF4S, mb4S, ⟨ma4S, mi4S, mk4S⟩⟩ ⟨MF5S, mb5S, ⟨ma5S, mi5S, mk5S⟩⟩ ⟨MF6S, mb6S, ⟨ma6S, mi6S, mk6S⟩⟩ ⟨MF7S, mb7S, ⟨ma7S, mi7S, mk7S⟩⟩ ⟨MF8S, mb8S, ⟨ma8S, mi8S, mk8S⟩⟩ ⟨MF9S, mb9S, ⟨ma9S, mi9S, mk9S⟩⟩ ⟨MF10S, mb10S, ⟨ma10S, mi10S, mk10S⟩⟩ MF12S ⟨ma12S, mi12S, mk12S⟩ kb_ext MF13S ⟨ma13S, mi13S, mk13S⟩ kb_rew TE MF11S mb11S d_is_pair d_is_term d_check_term d_check_path d_numbers_along d_expanded d_contracted d_rewritten d_rewritten_at d_rewritten_term d_generators_in d_is_label d_check_new_label d_known_term d_check_made_term d_with_new d_after_add d_after_combine d_after_extract d_after_rewrite d_after_delete d_store_of d_has_room d_read_term d_parse_term d_written d_format_term d_term_in_row d_load d_dump d__law_draws d__law_draw d__law_pick d__law_same d__law_term d__law_comb d__law_any_term d__law_size d__law_depth d__law_paths d__law_subterm d__law_replace d__law_expanded d__law_contracted d__law_rewrite d__law_steps d__law_fits d__law_labels d__law_is_label d__law_is_tree d__law_command d__law_computed d__law_rewrite_result d__law_result d__law_run d__law_matches d__law_any_store d__law_format d__law_contents d__law_snapshot⟩
theorem walk {l : PySem.W.OpenLaw} {q : Program} {loose : List Str} {XP : (Str → Option Value) → Heap → Prop} {YP : World → Heap → Prop} {d : DefRec} {K : Params → PySem.W.Frag} (hn : l.most = some 63) (hdf : d.params.defaults = [])
    (hY : ∀ (w : World) (h : Heap), YP w h → (K w.params).In h)
    (F : ∀ (w : World) (mg : Str → Option Value) (fa : Addr) (h : Heap), (K w.params).In h → h.Ns mainGlobals mg → mg d.name = some (.ref fa) →
      ∃ fd : FuncData, (∀ (s : Shared) (u : Value), BindsTo s fd ⟨[u], []⟩ [("_law_script", u)]) ∧ ∀ base : Heap, (K w.params).In base → base.Ns mainGlobals mg → FnOk l.prog w (K w.params) mg base CX0 60 fa fd ["_law_script"] (spLaw (K w.params))) :
    PySem.W.WalkO q loose XP YP l.row.toRowW d [] (fun f vs => PySem.call f vs) :=
  L2.walk_of (n := 63) (k := 60) (x := "_law_script") (CX := fun _ => CX0) (sp := fun w => spLaw (K w.params)) hn (by decide) hdf ⟨rfl, by decide, by decide⟩ hY F (fun _ _ a ns hl _ hS => ⟨a, ns, rfl, hS, fun _ => rfl⟩) fun _ _ _ _ _ z => z
/-! ### the head by kernel runs, the empty tables with it -/
def kplus (K : Params → PySem.W.Frag) (ts : List Addr) : Params → PySem.W.Frag := fun P => K P ++ ts.map fun a => (a, PySem.W.tabObj #[])
theorem kp_in_of {K : Params → PySem.W.Frag} {ts as : List Addr} {e : ∀ P, as = (kplus K ts P).map (·.1)} {w : World} {h : Heap} (Y : (PySem.W.kHook (kplus K ts) as e).says w h) : (K w.params).In h := fun a o ha => (PySem.W.kIn_of Y) a o (by
  unfold kplus
  rw [List.lookup_append, ha]
  rfl)
theorem kp_tabs_of {K : Params → PySem.W.Frag} {ts as : List Addr} {e : ∀ P, as = (kplus K ts P).map (·.1)} {w : World} {h : Heap} (Y : (PySem.W.kHook (kplus K ts) as e).says w h) {p : Addr} (n : (K w.params).lookup p = none) (m : p ∈ ts) : h.get? p = some (PySem.W.tabObj #[]) := (PySem.W.kIn_of Y) p _ (by
  unfold kplus
  rw [List.lookup_append, n, Option.none_or]
  clear Y n e
  induction ts with
  | nil => cases m
  | cons b r ih =>
    rw [List.map_cons, List.lookup_cons]
    by_cases z : p = b
    · rw [z, beq_self_eq_true]
    · rw [beq_false_of_ne z]
      exact ih (by cases m with | head => exact absurd rfl z | tail _ m => exact m))
theorem glueL {α β : Type} {f : α → β} (N : Nat) : ∀ (k : Nat) (A : List α) (v : List β), A.length ≤ k * N → v.length ≤ k * N → (∀ j, j < k → ((A.drop (j * N)).take N).map f = (v.drop (j * N)).take N) → A.map f = v
  | 0, A, v, hA, hv, _ => by
    rw [Nat.zero_mul] at hA hv
    rw [List.length_eq_zero_iff.mp (Nat.le_zero.mp hA), List.length_eq_zero_iff.mp (Nat.le_zero.mp hv)]
    rfl
  | k + 1, A, v, hA, hv, h => by
    have h0 := h 0 (by omega)
    rw [Nat.zero_mul, List.drop_zero, List.drop_zero] at h0
    rw [Nat.succ_mul] at hA hv
    have ih := glueL N k (A.drop N) (v.drop N) (by rw [List.length_drop]; omega) (by rw [List.length_drop]; omega) fun j hj => by
      have z := h (j + 1) (by omega)
      rw [Nat.succ_mul, Nat.add_comm] at z
      rw [List.drop_drop, List.drop_drop]
      exact z
    rw [← List.take_append_drop N A, List.map_append, h0, ih, List.take_append_drop]
theorem glueO {σ α β γ δ : Type} {x : Option σ} {f : σ → α} {g : σ → β} {h : σ → γ → δ} {A : List γ} {a : α} {b : β} {v : List δ} (N k : Nat) (hA : A.length ≤ k * N) (hv : v.length ≤ k * N) (h0 : x.map (fun s => (f s, g s)) = some (a, b)) (hs : ∀ j, j < k → x.map (fun s => ((A.drop (j * N)).take N).map (h s)) = some ((v.drop (j * N)).take N)) : x.map (fun s => (f s, g s, A.map (h s))) = some (a, b, v) := by
  cases x with
  | none => cases h0
  | some s =>
    have e0 := Option.some.inj h0
    simp only [Prod.mk.injEq] at e0
    have e := glueL N k A v hA hv (f := h s) fun j hj => Option.some.inj (hs j hj)
    show some (f s, g s, A.map (h s)) = _
    rw [e0.1, e0.2, e]
end U
open PySem PySem.W PyProof.Rows
section
local macro_rules | `(tactic| o_head ($f $K $as $e $ts)) => `(tactic| (have _ : PySem.W.OpenRow → Params → PySem.W.Frag := fun _ => $K; have _ : List Addr := $as ++ $ts; assumption))
local macro_rules | `(tactic| o_head ($f $K $as $e)) => `(tactic| (have _ : PySem.W.OpenRow → Params → PySem.W.Frag := fun _ => $K; have _ : List Addr := $as; assumption))
set_option maxRecDepth 100000 in
set_option maxHeartbeats 0 in
theorem U.pre (h : (PySem.W.OpenLaw.row PySem.Challenge.rw_uponboth_k71_snapshots).Holds) : True := by
  have _ : (PySem.W.OpenLaw.row PySem.Challenge.rw_uponboth_k71_snapshots).Holds := by k_head
  trivial
end
set_option maxRecDepth 100000
set_option maxHeartbeats 0
namespace U
open PySem PySem.W PySem.Calls PyProof.Rows
abbrev zzhR : OpenRow := OpenLaw.row PySem.Challenge.rw_uponboth_k71_snapshots
abbrev zzhq : Program := view zzhR.prog [90]
def zzhns : List PySem.Str := (["_wall", "__name__", "TermError", "InvalidText", "TooLarge", "DuplicateName", "UnknownName", "InvalidSnapshot", "InvalidTerm", "InvalidPath", "PathNotFound", "NotRewritable", "InvalidLabel", "LimitReached", "EmptyHistory", "MAX_SIZE", "MAX_DEPTH", "is_term", "is_pair", "check_term", "generators_in", "format_term", "written", "parse_term", "read_term", "has_room", "GENERATOR", "Pool", "MAX_PATH", "check_path"] : List PySem.Str) ++ (["numbers_along", "rewritten_term", "rewritten_at", "rewritten", "expanded", "contracted", "MAX_LABELS", "MAX_LABEL", "LABEL_LETTERS", "is_label", "check_new_label", "known_term", "check_made_term", "with_new", "after_add", "after_combine", "after_extract", "after_rewrite", "after_delete", "Store", "store_of", "dump", "load", "term_in_row", "_law_draws", "_law_draw", "_law_pick", "_law_same", "_law_term", "_law_comb"] : List PySem.Str) ++ (["_law_any_term", "_law_size", "_law_depth", "_law_format", "_law_fits", "_law_paths", "_law_subterm", "_law_replace", "_law_expanded", "_law_contracted", "_law_rewrite", "_law_steps", "_law_labels", "_law_is_label", "_law_command", "_law_computed", "_law_rewrite_result", "_law_result", "_law_run", "_law_matches", "_law_any_store", "_law_snapshot", "_law_contents", "_law_is_tree"] : List PySem.Str)
def zzhas : List Addr := ([2, 3, 15, 17, 18, 20, 21, 22, 29, 30, 31, 32, 35, 38, 43, 44, 46, 47, 49, 50, 51, 52, 53, 56, 59, 64, 65, 67, 68, 70, 71, 72, 73, 74, 77, 80, 85, 86, 88, 89] : List Addr) ++ ([91, 92, 93, 94, 95, 98, 101, 106, 107, 109, 110, 112, 113, 114, 115, 116, 119, 122, 127, 128, 130, 131, 133, 134, 135, 136, 137, 140, 147, 148, 149, 152, 159, 160, 161, 164, 171, 172, 173, 176] : List Addr) ++ ([183, 184, 185, 188, 195, 196, 197, 200, 207, 208, 209, 212, 219, 220, 221, 224, 226, 227, 229, 230, 231, 233, 234, 236, 237, 238, 240, 241, 243, 244, 245, 247, 248, 250, 251, 252, 254, 255, 257, 258] : List Addr) ++ ([259, 261, 262, 264, 265, 266, 268, 269, 271, 272, 273, 275, 276, 278, 279, 280, 282, 283, 285, 286, 294, 296, 297, 299, 300, 301, 303, 304, 306, 307, 308, 310, 311, 313, 314, 315, 317, 318, 320, 321] : List Addr) ++ ([322, 323, 324, 325, 326, 329, 331, 332, 334, 335, 336, 338, 339, 341, 342, 343, 345, 346, 348, 349, 350, 352, 353, 355, 356, 357, 359, 360, 362, 363, 364, 366, 367, 369, 370, 371, 373, 374, 376, 377] : List Addr) ++ ([378, 380, 381, 383, 384, 385, 387, 388, 390, 391, 392, 394, 395, 397, 398, 399, 401, 402, 404, 405, 406, 408, 409, 411, 412, 413, 415, 416, 418, 419, 420, 422, 423, 425, 426, 427, 429, 430, 432, 433] : List Addr) ++ ([434, 436, 437, 439, 440, 441, 444, 445, 453, 455, 456, 458, 459, 460, 462, 463, 465, 466, 467, 469, 470, 472, 473, 474, 476, 477, 479, 480, 481, 483, 484, 486, 487, 488, 490, 491, 493, 494, 495, 496] : List Addr) ++ ([498, 499, 501, 502, 503, 504, 506, 507, 509, 510, 511, 513, 514, 516, 517, 518, 520, 521, 523, 524, 525, 527, 528, 530, 531, 532, 534, 535, 537, 538, 539, 541, 542, 544, 545, 546, 548, 549, 551, 552] : List Addr) ++ ([553, 555, 556, 558, 559, 560, 562, 563, 565, 566, 567, 569, 570, 572, 573, 574, 576, 577, 579, 580, 581, 583, 584, 586, 587, 588, 590, 591, 593, 594, 595, 596, 597, 598, 599, 602, 605, 606, 607, 610] : List Addr) ++ ([611, 612, 614, 615, 617, 618, 619, 621, 622, 624, 625, 626, 628, 629, 631, 632, 633, 635, 636, 638, 639, 640, 642, 643, 645, 646, 647, 650, 651, 652, 654, 655, 657, 658, 659, 661, 662, 664, 665, 666] : List Addr) ++ ([668, 669, 671, 672, 673, 675, 676, 678, 679, 680, 682, 683, 685, 686, 687, 689, 690, 692, 693, 694, 696, 697, 699, 700, 701, 703, 704, 706, 707, 708, 710, 711, 713, 714, 715, 717, 718, 720, 721, 722] : List Addr) ++ ([724, 725, 727, 728, 729, 731, 732, 734, 735, 736, 738, 739, 741, 742, 743, 745, 746, 748, 749, 750, 753, 754, 755, 758, 759, 760, 762, 763, 765, 766, 767, 769, 770, 772, 773, 774, 777, 778, 779, 781] : List Addr) ++ ([782, 784, 785, 786, 788, 789, 791, 792, 793, 796, 797, 798, 800, 801, 803, 804, 805, 808, 809, 810, 813, 814, 815, 817, 818, 820, 821, 822, 825, 826] : List Addr)
def zzhts : List Addr := []
abbrev zzhX : Shared → Bool := fun s => xlAt zzhq [] s && recOk zzhR.toRowW.records s
noncomputable abbrev zzhE (w : World) (os : OsState) := HandSHeadRun.endF (HandSHeadRun.stepQ (HandSHeadRun.denQ HandSHeadRun.tabQ) zzhR.prog w) 9000 zzhR.prog w os
def zzhall : List Addr := zzhas ++ zzhts
noncomputable def zzhv (w : World) : List (Option Obj) := (kplus U.pre.heap_1 zzhts w.params).map fun p => some p.2
theorem zzhas_eq (P : Params) : zzhall = (kplus U.pre.heap_1 zzhts P).map (·.1) := by kernel_rfl
def zzS_zzhrun0 (w : World) (os : OsState) : Prop := (zzhE w os).map (fun s => (HandSHeadRun.looksF zzhR.prog (boot_heap w.params) s.abs, HandSHeadRun.seenQ zzhq zzhns (importedModules zzhR.prog.main.body) zzhX s.abs)) = some (true, openGood zzhq zzhns)
theorem zzhrun0_false (w : World) (os : OsState) : zzS_zzhrun0 (w.withFollow "special-get-raises" false) os := by
  delta zzS_zzhrun0
  kernel_rfl
theorem zzhrun0_true (w : World) (os : OsState) : zzS_zzhrun0 (w.withFollow "special-get-raises" true) os := by
  delta zzS_zzhrun0
  kernel_rfl
theorem zzhrun0 (w : World) (os : OsState) : (zzhE w os).map (fun s => (HandSHeadRun.looksF zzhR.prog (boot_heap w.params) s.abs, HandSHeadRun.seenQ zzhq zzhns (importedModules zzhR.prog.main.body) zzhX s.abs)) = some (true, openGood zzhq zzhns) := PySem.W.byRow2 "special-get-raises" (P := fun w => zzS_zzhrun0 w os) (fun w => zzhrun0_false w os) (fun w => zzhrun0_true w os) w
def zzS_zzhrun1 (w : World) (os : OsState) : Prop := (zzhE w os).map (fun s => ((zzhall.drop (0 * 180)).take 180).map (HandSHeadRun.getT s)) = some (((zzhv w).drop (0 * 180)).take 180)
theorem zzhrun1_false (w : World) (os : OsState) : zzS_zzhrun1 (w.withFollow "special-get-raises" false) os := by
  delta zzS_zzhrun1
  kernel_rfl
theorem zzhrun1_true (w : World) (os : OsState) : zzS_zzhrun1 (w.withFollow "special-get-raises" true) os := by
  delta zzS_zzhrun1
  kernel_rfl
theorem zzhrun1 (w : World) (os : OsState) : (zzhE w os).map (fun s => ((zzhall.drop (0 * 180)).take 180).map (HandSHeadRun.getT s)) = some (((zzhv w).drop (0 * 180)).take 180) := PySem.W.byRow2 "special-get-raises" (P := fun w => zzS_zzhrun1 w os) (fun w => zzhrun1_false w os) (fun w => zzhrun1_true w os) w
def zzS_zzhrun2 (w : World) (os : OsState) : Prop := (zzhE w os).map (fun s => ((zzhall.drop (1 * 180)).take 180).map (HandSHeadRun.getT s)) = some (((zzhv w).drop (1 * 180)).take 180)
theorem zzhrun2_false (w : World) (os : OsState) : zzS_zzhrun2 (w.withFollow "special-get-raises" false) os := by
  delta zzS_zzhrun2
  kernel_rfl
theorem zzhrun2_true (w : World) (os : OsState) : zzS_zzhrun2 (w.withFollow "special-get-raises" true) os := by
  delta zzS_zzhrun2
  kernel_rfl
theorem zzhrun2 (w : World) (os : OsState) : (zzhE w os).map (fun s => ((zzhall.drop (1 * 180)).take 180).map (HandSHeadRun.getT s)) = some (((zzhv w).drop (1 * 180)).take 180) := PySem.W.byRow2 "special-get-raises" (P := fun w => zzS_zzhrun2 w os) (fun w => zzhrun2_false w os) (fun w => zzhrun2_true w os) w
def zzS_zzhrun3 (w : World) (os : OsState) : Prop := (zzhE w os).map (fun s => ((zzhall.drop (2 * 180)).take 180).map (HandSHeadRun.getT s)) = some (((zzhv w).drop (2 * 180)).take 180)
theorem zzhrun3_false (w : World) (os : OsState) : zzS_zzhrun3 (w.withFollow "special-get-raises" false) os := by
  delta zzS_zzhrun3
  kernel_rfl
theorem zzhrun3_true (w : World) (os : OsState) : zzS_zzhrun3 (w.withFollow "special-get-raises" true) os := by
  delta zzS_zzhrun3
  kernel_rfl
theorem zzhrun3 (w : World) (os : OsState) : (zzhE w os).map (fun s => ((zzhall.drop (2 * 180)).take 180).map (HandSHeadRun.getT s)) = some (((zzhv w).drop (2 * 180)).take 180) := PySem.W.byRow2 "special-get-raises" (P := fun w => zzS_zzhrun3 w os) (fun w => zzhrun3_false w os) (fun w => zzhrun3_true w os) w
theorem zzhrun (w : World) : HandSHeadRun.RunEq zzhR zzhq (PySem.W.kHook (kplus U.pre.heap_1 zzhts) zzhall zzhas_eq) (fun s => zzhall.map (HandSHeadRun.getT s)) 9000 zzhns w := by
  intro os
  refine glueO (v := zzhv w) 180 3 (by decide +kernel) ?_ (zzhrun0 w os) ?_
  · have z : (zzhv w).length = zzhall.length := by
      unfold zzhv
      rw [List.length_map, zzhas_eq w.params, List.length_map]
    rw [z]
    decide +kernel
  · intro j hj
    have z : j = 0 ∨ j = 1 ∨ j = 2 := by omega
    rcases z with rfl | rfl | rfl
    · exact zzhrun1 w os
    · exact zzhrun2 w os
    · exact zzhrun3 w os
end U

open PySem PySem.W PyProof.Rows
set_option maxRecDepth 100000 in
set_option maxHeartbeats 0 in
theorem PySem.Challenge.cw_uponboth_k71_snapshots_holds : PySem.Challenge.rw_uponboth_k71_snapshots.Holds := by
  w_on; o_law
  refine HandSHeadRun.head_any (r := U.zzhR) (q := U.zzhq) (H := PySem.W.kHook (U.kplus U.pre.heap_1 U.zzhts) U.zzhall U.zzhas_eq) (ob := fun s => U.zzhall.map (HandSHeadRun.getT s)) (M := 9000) (loose := U.zzhns) (d := HandSHeadRun.topDef U.zzhR.prog 90) (kwd := []) (fun s => List.map_congr_left fun a _ => HandSHeadRun.getT_eq s a) (by kernel_rfl) (fun s => by kernel_rfl) U.zzhrun (by kernel_rfl) (by kernel_rfl) (by kernel_rfl) (by rfl) (by first | assumption | decide +kernel) (by decide +kernel) ⟨rfl, rfl, rfl, rfl, rfl, by decide +kernel⟩ ?hw ?hc
  case hw => w_witness2
  k_fill
  refine U.walk (l := PySem.Challenge.rw_uponboth_k71_snapshots) rfl (by kernel_rfl) (fun w h Y => U.kp_in_of Y) ?F
  case F =>
    intro w mg fa h KX G hmg0
    have hmg : mg ("law" : PySem.Str) = some (.ref fa) := by
      have e : (HandSHeadRun.topDef U.zzhR.prog 90).name = ("law" : PySem.Str) := by kernel_rfl
      rw [← e]
      exact hmg0
    refine' U.all_mk KX G hmg ?a0 ?l0 ?c0 ?k0 ?a1 ?l1 ?c1 ?k1 ?a2 ?l2 ?c2 ?k2 ?a3 ?l3 ?c3 ?k3 ?a4 ?l4 ?c4 ?k4 ?a5 ?l5 ?c5 ?k5 ?a6 ?l6 ?c6 ?k6 ?a7 ?l7 ?c7 ?k7 ?a8 ?l8 ?c8 ?k8 ?a9 ?l9 ?c9 ?k9 ?a10 ?l10 ?c10 ?k10 ?a11 ?l11 ?c11 ?k11 ?a12 ?l12 ?c12 ?k12 ?a13 ?l13 ?c13 ?k13 ?a14 ?l14 ?c14 ?k14 ?a15 ?l15 ?c15 ?k15 ?a16 ?l16 ?c16 ?k16 ?a17 ?l17 ?c17 ?k17 ?a18 ?l18 ?c18 ?k18 ?a19 ?l19 ?c19 ?k19 ?a20 ?l20 ?c20 ?k20 ?a21 ?l21 ?c21 ?k21 ?a22 ?l22 ?c22 ?k22 ?a23 ?l23 ?c23 ?k23 ?a24 ?l24 ?c24 ?k24 ?a25 ?l25 ?c25 ?k25 ?a26 ?l26 ?c26 ?k26 ?a27 ?l27 ?c27 ?k27 ?a28 ?l28 ?c28 ?k28 ?a29 ?l29 ?c29 ?k29 ?a30 ?l30 ?c30 ?k30 ?a31 ?l31 ?c31 ?k31 ?a32 ?l32 ?c32 ?k32 ?a33 ?l33 ?c33 ?k33 ?a34 ?l34 ?c34 ?k34 ?a35 ?l35 ?c35 ?k35 ?a36 ?l36 ?c36 ?k36 ?a37 ?l37 ?c37 ?k37 ?a38 ?l38 ?c38 ?k38 ?a39 ?l39 ?c39 ?k39 ?a40 ?l40 ?c40 ?k40 ?a41 ?l41 ?c41 ?k41 ?a42 ?l42 ?c42 ?k42 ?a43 ?l43 ?c43 ?k43 ?a44 ?l44 ?c44 ?k44 ?a45 ?l45 ?c45 ?k45 ?a46 ?l46 ?c46 ?k46 ?a47 ?l47 ?c47 ?k47 ?a48 ?l48 ?c48 ?k48 ?a49 ?l49 ?c49 ?k49 ?a50 ?l50 ?c50 ?k50 ?a51 ?l51 ?c51 ?k51 ?a52 ?l52 ?c52 ?k52 ?a53 ?l53 ?c53 ?k53 ?a54 ?l54 ?c54 ?k54 ?a55 ?l55 ?c55 ?k55 ?a56 ?l56 ?c56 ?k56 ?a57 ?l57 ?c57 ?k57 ?a58 ?l58 ?c58 ?k58 ?a59 ?l59 ?c59 ?k59 ?a60 ?l60 ?c60 ?k60 ?z_len ?z_list ?z_tuple ?z_dict ?z_bool ?z_isinstance ?z_max ?z_min ?z_range ?z_all ?z_sorted ?z_enumerate ?z_sum ?z_str ?z_int ?q_MAX_SIZE ?q_MAX_DEPTH ?q_GENERATOR ?q_MAX_PATH ?q_MAX_LABELS ?q_MAX_LABEL ?aC ?ma0 ?mi0 ?ml0 ?mc0 ?mk0 ?ma1 ?mi1 ?ml1 ?mc1 ?mk1 ?ma2 ?mi2 ?ml2 ?mc2 ?mk2 ?cpg ?chd ?cpo ?csa ?cmk ?ckc ?cn0 ?cn1 ?cn2 ?cn3 ?aCS ?ma0S ?mi0S ?ml0S ?mc0S ?mk0S ?ma1S ?mi1S ?ml1S ?mc1S ?mk1S ?ma2S ?mi2S ?ml2S ?mc2S ?mk2S ?ma3S ?mi3S ?ml3S ?mc3S ?mk3S ?ma4S ?mi4S ?ml4S ?mc4S ?mk4S ?ma5S ?mi5S ?ml5S ?mc5S ?mk5S ?ma6S ?mi6S ?ml6S ?mc6S ?mk6S ?ma7S ?mi7S ?ml7S ?mc7S ?mk7S ?ma8S ?mi8S ?ml8S ?mc8S ?mk8S ?ma9S ?mi9S ?ml9S ?mc9S ?mk9S ?ma10S ?mi10S ?ml10S ?mc10S ?mk10S ?ma11S ?mi11S ?ml11S ?mc11S ?mk11S ?ma12S ?mi12S ?ml12S ?mc12S ?mk12S ?ma13S ?mi13S ?ml13S ?mc13S ?mk13S ?cpgS ?chdS ?cpoS ?csaS ?cmkS ?ckcS ?cn0S ?cn1S ?cn2S ?te1 ?te2 ?te3 ?te4 ?tlk ?tok ?teq ?tne ?tfn ?ea0 ?eq0 ?ek0 ?eb0 ?et0 ?ea1 ?eq1 ?ek1 ?eb1 ?et1 ?ea2 ?eq2 ?ek2 ?eb2 ?et2 ?ea3 ?eq3 ?ek3 ?eb3 ?et3 ?ea4 ?eq4 ?ek4 ?eb4 ?et4 ?ea5 ?eq5 ?ek5 ?eb5 ?et5 ?ea6 ?eq6 ?ek6 ?eb6 ?et6 ?z_super ?tany ?ttop ?ax5 ?ky5 ?xs5 ?xf5_size ?ti5 ?tt5 ?tl5 ?tci5 ?tco5 ?tcf5 ?tpf5 ?tce5 ?tlk5 ?tre5 ?tsa5 ?tkp5 ?tmr5 ?tks5 ?tva5 ?ax14 ?ky14 ?xs14 ?xf14_name ?ti14 ?tt14 ?tl14 ?tci14 ?tco14 ?tcf14 ?tpf14 ?tce14 ?tlk14 ?tre14 ?tsa14 ?tkp14 ?tmr14 ?tks14 ?tva14 ?ax15 ?ky15 ?xs15 ?xf15_name ?ti15 ?tt15 ?tl15 ?tci15 ?tco15 ?tcf15 ?tpf15 ?tce15 ?tlk15 ?tre15 ?tsa15 ?tkp15 ?tmr15 ?tks15 ?tva15 ?ax1 ?ky1 ?xs1 ?xf1_position ?ti1 ?tt1 ?tl1 ?tci1 ?tco1 ?tcf1 ?tpf1 ?tce1 ?tlk1 ?tre1 ?tsa1 ?tkp1 ?tmr1 ?tks1 ?tva1 ?q_LABEL_LETTERS
    (case a0 => k_is)
    (case l0 => k_is)
    (case c0 => k_is)
    (case k0 => k_is)
    (case a1 => k_is)
    (case l1 => k_is)
    (case c1 => k_is)
    (case k1 => k_is)
    (case a2 => k_is)
    (case l2 => k_is)
    (case c2 => k_is)
    (case k2 => k_is)
    (case a3 => k_is)
    (case l3 => k_is)
    (case c3 => k_is)
    (case k3 => k_is)
    (case a4 => k_is)
    (case l4 => k_is)
    (case c4 => k_is)
    (case k4 => k_is)
    (case a5 => k_is)
    (case l5 => k_is)
    (case c5 => k_is)
    (case k5 => k_is)
    (case a6 => k_is)
    (case l6 => k_is)
    (case c6 => k_is)
    (case k6 => k_is)
    (case a7 => k_is)
    (case l7 => k_is)
    (case c7 => k_is)
    (case k7 => k_is)
    (case a8 => k_is)
    (case l8 => k_is)
    (case c8 => k_is)
    (case k8 => k_is)
    (case a9 => k_is)
    (case l9 => k_is)
    (case c9 => k_is)
    (case k9 => k_is)
    (case a10 => k_is)
    (case l10 => k_is)
    (case c10 => k_is)
    (case k10 => k_is)
    (case a11 => k_is)
    (case l11 => k_is)
    (case c11 => k_is)
    (case k11 => k_is)
    (case a12 => k_is)
    (case l12 => k_is)
    (case c12 => k_is)
    (case k12 => k_is)
    (case a13 => k_is)
    (case l13 => k_is)
    (case c13 => k_is)
    (case k13 => k_is)
    (case a14 => k_is)
    (case l14 => k_is)
    (case c14 => k_is)
    (case k14 => k_is)
    (case a15 => k_is)
    (case l15 => k_is)
    (case c15 => k_is)
    (case k15 => k_is)
    (case a16 => k_is)
    (case l16 => k_is)
    (case c16 => k_is)
    (case k16 => k_is)
    (case a17 => k_is)
    (case l17 => k_is)
    (case c17 => k_is)
    (case k17 => k_is)
    (case a18 => k_is)
    (case l18 => k_is)
    (case c18 => k_is)
    (case k18 => k_is)
    (case a19 => k_is)
    (case l19 => k_is)
    (case c19 => k_is)
    (case k19 => k_is)
    (case a20 => k_is)
    (case l20 => k_is)
    (case c20 => k_is)
    (case k20 => k_is)
    (case a21 => k_is)
    (case l21 => k_is)
    (case c21 => k_is)
    (case k21 => k_is)
    (case a22 => k_is)
    (case l22 => k_is)
    (case c22 => k_is)
    (case k22 => k_is)
    (case a23 => k_is)
    (case l23 => k_is)
    (case c23 => k_is)
    (case k23 => k_is)
    (case a24 => k_is)
    (case l24 => k_is)
    (case c24 => k_is)
    (case k24 => k_is)
    (case a25 => k_is)
    (case l25 => k_is)
    (case c25 => k_is)
    (case k25 => k_is)
    (case a26 => k_is)
    (case l26 => k_is)
    (case c26 => k_is)
    (case k26 => k_is)
    (case a27 => k_is)
    (case l27 => k_is)
    (case c27 => k_is)
    (case k27 => k_is)
    (case a28 => k_is)
    (case l28 => k_is)
    (case c28 => k_is)
    (case k28 => k_is)
    (case a29 => k_is)
    (case l29 => k_is)
    (case c29 => k_is)
    (case k29 => k_is)
    (case a30 => k_is)
    (case l30 => k_is)
    (case c30 => k_is)
    (case k30 => k_is)
    (case a31 => k_is)
    (case l31 => k_is)
    (case c31 => k_is)
    (case k31 => k_is)
    (case a32 => k_is)
    (case l32 => k_is)
    (case c32 => k_is)
    (case k32 => k_is)
    (case a33 => k_is)
    (case l33 => k_is)
    (case c33 => k_is)
    (case k33 => k_is)
    (case a34 => k_is)
    (case l34 => k_is)
    (case c34 => k_is)
    (case k34 => k_is)
    (case a35 => k_is)
    (case l35 => k_is)
    (case c35 => k_is)
    (case k35 => k_is)
    (case a36 => k_is)
    (case l36 => k_is)
    (case c36 => k_is)
    (case k36 => k_is)
    (case a37 => k_is)
    (case l37 => k_is)
    (case c37 => k_is)
    (case k37 => k_is)
    (case a38 => k_is)
    (case l38 => k_is)
    (case c38 => k_is)
    (case k38 => k_is)
    (case a39 => k_is)
    (case l39 => k_is)
    (case c39 => k_is)
    (case k39 => k_is)
    (case a40 => k_is)
    (case l40 => k_is)
    (case c40 => k_is)
    (case k40 => k_is)
    (case a41 => k_is)
    (case l41 => k_is)
    (case c41 => k_is)
    (case k41 => k_is)
    (case a42 => k_is)
    (case l42 => k_is)
    (case c42 => k_is)
    (case k42 => k_is)
    (case a43 => k_is)
    (case l43 => k_is)
    (case c43 => k_is)
    (case k43 => k_is)
    (case a44 => k_is)
    (case l44 => k_is)
    (case c44 => k_is)
    (case k44 => k_is)
    (case a45 => k_is)
    (case l45 => k_is)
    (case c45 => k_is)
    (case k45 => k_is)
    (case a46 => k_is)
    (case l46 => k_is)
    (case c46 => k_is)
    (case k46 => k_is)
    (case a47 => k_is)
    (case l47 => k_is)
    (case c47 => k_is)
    (case k47 => k_is)
    (case a48 => k_is)
    (case l48 => k_is)
    (case c48 => k_is)
    (case k48 => k_is)
    (case a49 => k_is)
    (case l49 => k_is)
    (case c49 => k_is)
    (case k49 => k_is)
    (case a50 => k_is)
    (case l50 => k_is)
    (case c50 => k_is)
    (case k50 => k_is)
    (case a51 => k_is)
    (case l51 => k_is)
    (case c51 => k_is)
    (case k51 => k_is)
    (case a52 => k_is)
    (case l52 => k_is)
    (case c52 => k_is)
    (case k52 => k_is)
    (case a53 => k_is)
    (case l53 => k_is)
    (case c53 => k_is)
    (case k53 => k_is)
    (case a54 => k_is)
    (case l54 => k_is)
    (case c54 => k_is)
    (case k54 => k_is)
    (case a55 => k_is)
    (case l55 => k_is)
    (case c55 => k_is)
    (case k55 => k_is)
    (case a56 => k_is)
    (case l56 => k_is)
    (case c56 => k_is)
    (case k56 => k_is)
    (case a57 => k_is)
    (case l57 => k_is)
    (case c57 => k_is)
    (case k57 => k_is)
    (case a58 => k_is)
    (case l58 => k_is)
    (case c58 => k_is)
    (case k58 => k_is)
    (case a59 => k_is)
    (case l59 => k_is)
    (case c59 => k_is)
    (case k59 => k_is)
    (case a60 => k_is)
    (case l60 => k_is)
    (case c60 => k_is)
    (case k60 => k_is)
    (case z_len => k_is)
    (case z_list => k_is)
    (case z_tuple => k_is)
    (case z_dict => k_is)
    (case z_bool => k_is)
    (case z_isinstance => k_is)
    (case z_max => k_is)
    (case z_min => k_is)
    (case z_range => k_is)
    (case z_all => k_is)
    (case z_sorted => k_is)
    (case z_enumerate => k_is)
    (case z_sum => k_is)
    (case z_str => k_is)
    (case z_int => k_is)
    (case q_MAX_SIZE => k_is)
    (case q_MAX_DEPTH => k_is)
    (case q_GENERATOR => k_is)
    (case q_MAX_PATH => k_is)
    (case q_MAX_LABELS => k_is)
    (case q_MAX_LABEL => k_is)
    (case aC => k_is)
    (case ma0 => k_is)
    (case mi0 => k_is)
    (case ml0 => k_is)
    (case mc0 => k_is)
    (case mk0 => k_is)
    (case ma1 => k_is)
    (case mi1 => k_is)
    (case ml1 => k_is)
    (case mc1 => k_is)
    (case mk1 => k_is)
    (case ma2 => k_is)
    (case mi2 => k_is)
    (case ml2 => k_is)
    (case mc2 => k_is)
    (case mk2 => k_is)
    (case cpg => k_is)
    (case chd => k_is)
    (case cpo => k_is)
    (case csa => k_is)
    (case cmk => k_is)
    (case ckc => k_is)
    (case cn0 => k_is)
    (case cn1 => k_is)
    (case cn2 => k_is)
    (case cn3 => k_is)
    (case aCS => k_is)
    (case ma0S => k_is)
    (case mi0S => k_is)
    (case ml0S => k_is)
    (case mc0S => k_is)
    (case mk0S => k_is)
    (case ma1S => k_is)
    (case mi1S => k_is)
    (case ml1S => k_is)
    (case mc1S => k_is)
    (case mk1S => k_is)
    (case ma2S => k_is)
    (case mi2S => k_is)
    (case ml2S => k_is)
    (case mc2S => k_is)
    (case mk2S => k_is)
    (case ma3S => k_is)
    (case mi3S => k_is)
    (case ml3S => k_is)
    (case mc3S => k_is)
    (case mk3S => k_is)
    (case ma4S => k_is)
    (case mi4S => k_is)
    (case ml4S => k_is)
    (case mc4S => k_is)
    (case mk4S => k_is)
    (case ma5S => k_is)
    (case mi5S => k_is)
    (case ml5S => k_is)
    (case mc5S => k_is)
    (case mk5S => k_is)
    (case ma6S => k_is)
    (case mi6S => k_is)
    (case ml6S => k_is)
    (case mc6S => k_is)
    (case mk6S => k_is)
    (case ma7S => k_is)
    (case mi7S => k_is)
    (case ml7S => k_is)
    (case mc7S => k_is)
    (case mk7S => k_is)
    (case ma8S => k_is)
    (case mi8S => k_is)
    (case ml8S => k_is)
    (case mc8S => k_is)
    (case mk8S => k_is)
    (case ma9S => k_is)
    (case mi9S => k_is)
    (case ml9S => k_is)
    (case mc9S => k_is)
    (case mk9S => k_is)
    (case ma10S => k_is)
    (case mi10S => k_is)
    (case ml10S => k_is)
    (case mc10S => k_is)
    (case mk10S => k_is)
    (case ma11S => k_is)
    (case mi11S => k_is)
    (case ml11S => k_is)
    (case mc11S => k_is)
    (case mk11S => k_is)
    (case ma12S => k_is)
    (case mi12S => k_is)
    (case ml12S => k_is)
    (case mc12S => k_is)
    (case mk12S => k_is)
    (case ma13S => k_is)
    (case mi13S => k_is)
    (case ml13S => k_is)
    (case mc13S => k_is)
    (case mk13S => k_is)
    (case cpgS => k_is)
    (case chdS => k_is)
    (case cpoS => k_is)
    (case csaS => k_is)
    (case cmkS => k_is)
    (case ckcS => k_is)
    (case cn0S => k_is)
    (case cn1S => k_is)
    (case cn2S => k_is)
    (case te1 => k_is)
    (case te2 => k_is)
    (case te3 => k_is)
    (case te4 => k_is)
    (case tlk => k_is)
    (case tok => (first | k_is | kernel_rfl | decide +kernel | rfl))
    (case teq => k_is)
    (case tne => k_is)
    (case tfn => rfl)
    (case ea0 => k_is)
    (case eq0 => k_exc)
    (case ek0 => k_is)
    (case eb0 => k_is)
    (case et0 => k_is)
    (case ea1 => k_is)
    (case eq1 => k_exc)
    (case ek1 => k_is)
    (case eb1 => k_is)
    (case et1 => k_is)
    (case ea2 => k_is)
    (case eq2 => k_exc)
    (case ek2 => k_is)
    (case eb2 => k_is)
    (case et2 => k_is)
    (case ea3 => k_is)
    (case eq3 => k_exc)
    (case ek3 => k_is)
    (case eb3 => k_is)
    (case et3 => k_is)
    (case ea4 => k_is)
    (case eq4 => k_exc)
    (case ek4 => k_is)
    (case eb4 => k_is)
    (case et4 => k_is)
    (case ea5 => k_is)
    (case eq5 => k_exc)
    (case ek5 => k_is)
    (case eb5 => k_is)
    (case et5 => k_is)
    (case ea6 => k_is)
    (case eq6 => k_exc)
    (case ek6 => k_is)
    (case eb6 => k_is)
    (case et6 => k_is)
    (case z_super => k_is)
    (case tany => k_is)
    (case ttop => (first | rfl | decide +kernel))
    (case ax5 => k_is)
    (case ky5 => k_is)
    (case xs5 => k_is)
    (case xf5_size => k_is)
    (case ti5 => k_is)
    (case tt5 => k_is)
    (case tl5 => k_is)
    (case tci5 => k_is)
    (case tco5 => k_is)
    (case tcf5 => rfl)
    (case tpf5 => (first | rfl | decide +kernel))
    (case tce5 => k_is)
    (case tlk5 => k_is)
    (case tre5 => rfl)
    (case tsa5 => k_is)
    (case tkp5 => k_is)
    (case tmr5 => k_is)
    (case tks5 => ks_is)
    (case tva5 => k_is)
    (case ax14 => k_is)
    (case ky14 => k_is)
    (case xs14 => k_is)
    (case xf14_name => k_is)
    (case ti14 => k_is)
    (case tt14 => k_is)
    (case tl14 => k_is)
    (case tci14 => k_is)
    (case tco14 => k_is)
    (case tcf14 => rfl)
    (case tpf14 => (first | rfl | decide +kernel))
    (case tce14 => k_is)
    (case tlk14 => k_is)
    (case tre14 => rfl)
    (case tsa14 => k_is)
    (case tkp14 => k_is)
    (case tmr14 => k_is)
    (case tks14 => ks_is)
    (case tva14 => k_is)
    (case ax15 => k_is)
    (case ky15 => k_is)
    (case xs15 => k_is)
    (case xf15_name => k_is)
    (case ti15 => k_is)
    (case tt15 => k_is)
    (case tl15 => k_is)
    (case tci15 => k_is)
    (case tco15 => k_is)
    (case tcf15 => rfl)
    (case tpf15 => (first | rfl | decide +kernel))
    (case tce15 => k_is)
    (case tlk15 => k_is)
    (case tre15 => rfl)
    (case tsa15 => k_is)
    (case tkp15 => k_is)
    (case tmr15 => k_is)
    (case tks15 => ks_is)
    (case tva15 => k_is)
    (case ax1 => k_is)
    (case ky1 => k_is)
    (case xs1 => k_is)
    (case xf1_position => k_is)
    (case ti1 => k_is)
    (case tt1 => k_is)
    (case tl1 => k_is)
    (case tci1 => k_is)
    (case tco1 => k_is)
    (case tcf1 => rfl)
    (case tpf1 => (first | rfl | decide +kernel))
    (case tce1 => k_is)
    (case tlk1 => k_is)
    (case tre1 => rfl)
    (case tsa1 => k_is)
    (case tkp1 => k_is)
    (case tmr1 => k_is)
    (case tks1 => ks_is)
    (case tva1 => k_is)
    (case q_LABEL_LETTERS => k_is)
