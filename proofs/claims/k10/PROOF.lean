import PyProof.Rows.All
import Wide.All
import OpenK.AllK
import Wide.FinOn
import HandS.Base
import HandS.Call
import HandS.List
import HandS.Comp
import HandS.Ends
import HandS.Words
import HandS.WordsList
import HandS.IsInst
import HandS.Codes
import HandS.ForMost
import HandS.ForExc
import HandS.FStr
import HandS.Style
import HandS.Hot
import HandS.HotCalls
import HandS.Lambda
import HandS.ExcIs
import HandS.Rev
import HandS.More
import HandS.StrMore
import PyProof.StrBlock2
import PyProof.FactsAll.list_3
import HandS.TupAny
import HandS.TupMul
import HandS.Defaults
import KE.KRevSl
import KE.KDflt
import KE.GoesMore
import HandS.EndTab
import HandS.EndOwn
import KE.KNestM
import HandS.ExcOwn
import HandS.ExcInit
import HandS.ExcField
import KE.KExcSuper
import KE.KExcIs
import KE.RegKSuper
import HandS.Dict
import HandS.More
import HandS.SuiteRaise
import HandS.RaiseFrom
import HandS.TryOnly
import HandS.TryMany
import HandS.ExcInitHot
import HandS.CallSlots
import HandS.Walk
import HandS.Conv
import KE.KStateDown
import HandS.Head0
import HandS.Head1
import HandS.Head2
import PySem.Challenge.RW_uponboth_k10_lists_of_steps
set_option Elab.async false
set_option linter.all false
set_option maxRecDepth 100000
set_option maxHeartbeats 4000000
namespace U
open PySem L2
/-! ### what stands behind the top: a def by its name; the built-in names -/
structure D (K : PySem.W.Frag) (mg : Str → Option Value) (x : Str) (st : Stmt) (ps : List Str) (f : Addr) (fd : FuncData) : Prop where
  F : Fun K x x st f fd
  b : Binds K fd ps []
  m : mg x = some (.ref f)

/-! ### trees -/
inductive Tree where
  | L
  | N (l r : Tree)
namespace Tree
def sz : Tree → Nat
  | L => 1
  | N l r => sz l + sz r
def dp : Tree → Nat
  | L => 0
  | N l r => max (dp l) (dp r) + 1
def d : Tree → PyData
  | L => .tuple []
  | N l r => .tuple [d l, d r]
theorem sz_pos : ∀ t : Tree, 0 < t.sz
  | L => Nat.zero_lt_one
  | N l r => by
    have h := sz_pos l
    show 0 < l.sz + r.sz
    omega
theorem d_lay : ∀ t : Tree, t.d.canLay0 = true
  | L => rfl
  | N l r => by
    show ((PyData.canLay0 l.d) && ((PyData.canLay0 r.d) && true)) = true
    rw [d_lay l, d_lay r]
    rfl
theorem d_depth : ∀ t : Tree, t.d.depth = t.dp + 1
  | L => rfl
  | N l r => by
    show max l.d.depth (max r.d.depth 0) + 1 = max l.dp r.dp + 1 + 1
    rw [d_depth l, d_depth r]
    omega
theorem shaped {t : Tree} (h : t.dp ≤ 63) : SeqAt.shaped t.d = true := by
  unfold SeqAt.shaped
  rw [d_lay, d_depth, decide_eq_true (by omega)]
  rfl
def isL : Tree → Bool
  | L => true
  | N _ _ => false
theorem eqvL (t : Tree) : PyData.eqv t.d (.tuple []) = t.isL := by cases t <;> rfl
end Tree
abbrev TA (K : PySem.W.Frag) (H : Hp) (v : V) (t : Tree) : Prop := Dp K H v t.d
theorem shapedE : SeqAt.shaped (.tuple []) = true := by decide +kernel

/-! ### heaps: what is a tuple stays one -/
def Tp (H H' : Hp) : Prop := ∀ b xs, Rd H b (.tup xs) → Rd H' b (.tup xs)
theorem Tp.refl (H : Hp) : Tp H H := fun _ _ h => h
theorem Tp.trans {H H1 H2 : Hp} (a : Tp H H1) (b : Tp H1 H2) : Tp H H2 := fun c o h => b c o (a c o h)
theorem Tp.same {H H' : Hp} (e : Same H H') : Tp H H' := fun b xs h => by
  rcases h with h | ⟨o, h⟩
  · exact .inl (e _ _ h)
  · exact .inr ⟨o, e _ _ h⟩
def But (r : Addr) (H H' : Hp) : Prop := ∀ b o, b ≠ r → H b = some o → H' b = some o
theorem But.trans {r : Addr} {H H1 H2 : Hp} (a : But r H H1) (b : But r H1 H2) : But r H H2 := fun c o n h => b c o n (a c o n h)
theorem But.same {r : Addr} {H H' : Hp} (e : Same H H') : But r H H' := fun b o _ h => e b o h
theorem But.set {r : Addr} {H : Hp} {o : HO} : But r H (upd H r o) := fun b z n h => by rw [upd_ne n]; exact h
theorem Tp.but {r : Addr} {H H' : Hp} {ys : List V} (hr : H r = some (.lst ys)) (e : But r H H') : Tp H H' := fun b xs h => by
  rcases h with h | ⟨o, h⟩
  · exact .inl (e _ _ (ne_of h hr (by intro z; cases z)) h)
  · exact .inr ⟨o, e _ _ (ne_of h hr (by intro z; cases z)) h⟩
theorem Same.new {H : Hp} {p : Addr} (h : H p = none) (o : HO) : Same H (upd H p o) := fun b u q => by rw [upd_ne (ne_of_none q h)]; exact q
theorem Tp.sqT {K : PySem.W.Frag} {H H' : Hp} {a : Addr} {xs : List V} (e : Tp H H') (h : SqT K H a xs) : SqT K H' a xs := by
  rcases h with h | h
  · exact .inl (e _ _ h)
  · exact .inr h
theorem SqT.here {K : PySem.W.Frag} {H : Hp} {a : Addr} {xs : List V} (h : H a = some (.tup xs)) : SqT K H a xs := .inl (.inl h)
theorem SqL.here {K : PySem.W.Frag} {H : Hp} {a : Addr} {xs : List V} (h : H a = some (.lst xs)) : SqL K H a xs := .inl (.inl h)

section
variable {K : PySem.W.Frag} {H H' : Hp}
theorem ta_leaf {a : Addr} (h : SqT K H a []) : TA K H (.ref a) .L := Dp.tup h .nil
theorem ta_node {a : Addr} {x y : V} {l r : Tree} (h : SqT K H a [x, y]) (hl : TA K H x l) (hr : TA K H y r) : TA K H (.ref a) (.N l r) := Dp.tup h (.cons hl (.cons hr .nil))
theorem ta_invL {v : V} (h : TA K H v .L) : ∃ a, v = .ref a ∧ SqT K H a [] := by
  cases h with
  | tup hs ha =>
    cases ha
    exact ⟨_, rfl, hs⟩
theorem ta_invN {v : V} {l r : Tree} (h : TA K H v (.N l r)) : ∃ a x y, v = .ref a ∧ SqT K H a [x, y] ∧ TA K H x l ∧ TA K H y r := by
  cases h with
  | tup hs ha =>
    cases ha with
    | cons h1 h2 =>
      cases h2 with
      | cons h3 h4 =>
        cases h4
        exact ⟨_, _, _, rfl, hs, h1, h3⟩
theorem ta_inv : ∀ {v : V} {t : Tree}, TA K H v t → ∃ a xs, v = .ref a ∧ SqT K H a xs
  | _, .L, h => by
    obtain ⟨a, e, q⟩ := ta_invL h
    exact ⟨a, _, e, q⟩
  | _, .N _ _, h => by
    obtain ⟨a, x, y, e, q, _⟩ := ta_invN h
    exact ⟨a, _, e, q⟩
theorem ta_mono (e : Tp H H') : ∀ {t : Tree} {v : V}, TA K H v t → TA K H' v t
  | .L, v, h => by
    obtain ⟨a, rfl, q⟩ := ta_invL h
    exact ta_leaf (e.sqT q)
  | .N l r, v, h => by
    obtain ⟨a, x, y, rfl, q, h1, h2⟩ := ta_invN h
    exact ta_node (e.sqT q) (ta_mono e h1) (ta_mono e h2)
mutual
theorem dp_same (e : Same H H') : ∀ (d : PyData) {v : V}, Dp K H v d → Dp K H' v d
  | .none, _, h => by
    cases h
    exact .non
  | .bool b, _, h => by
    cases h
    exact .bl b
  | .int i, _, h => by
    cases h
    exact .int i
  | .str x, _, h => by
    cases h
    exact .str x
  | .list ds, _, h => by
    cases h with
    | lst hs ha => exact .lst (e.seq hs) (dp_sameAll e ds ha)
  | .tuple ds, _, h => by
    cases h with
    | tup hs ha => exact .tup ((Tp.same e).sqT hs) (dp_sameAll e ds ha)
  | .dict _, _, h => by cases h
theorem dp_sameAll (e : Same H H') : ∀ (ds : List PyData) {vs : List V}, DpAll K H vs ds → DpAll K H' vs ds
  | [], _, h => by
    cases h
    exact .nil
  | d :: ds, _, h => by
    cases h with
    | cons h1 h2 => exact .cons (dp_same e d h1) (dp_sameAll e ds h2)
end
end
theorem one_le : 1 ≤ sizeLine := by decide
theorem two_le : 2 ≤ sizeLine := by decide
theorem zero_le' : 0 ≤ sizeLine := by decide
theorem four_le : 4 ≤ sizeLine := by decide
theorem ite_eq {b c : Bool} {A B : Prop} (e : b = c) (h : if c = true then A else B) : if b = true then A else B := e ▸ h
theorem ite_yes {b : Bool} {A B : Prop} (e : b = true) (h : A) : if b = true then A else B := by rw [if_pos e]; exact h
theorem ite_no {b : Bool} {A B : Prop} (e : b = false) (h : B) : if b = true then A else B := by rw [e]; exact iteF h
theorem tyx_tup {K : PySem.W.Frag} {H : Hp} {a : Addr} {xs : List V} (h : SqT K H a xs) : TyX K H (.ref a) (.type "tuple") := by
  rcases h with (h | ⟨o, h⟩) | ⟨o, its, n, h, c, _⟩
  · exact .base (.tup h)
  · exact .fTuple h
  · exact .kTuple h c
theorem tyx_lst {K : PySem.W.Frag} {H : Hp} {a : Addr} {xs : List V} (h : SqL K H a xs) : TyX K H (.ref a) (.type "list") := by
  rcases h with (h | ⟨o, h⟩) | ⟨o, its, n, h, c, _⟩
  · exact .base (.lst h)
  · exact .base (.frz h)
  · exact .kList h c
def Tree.nodes : Tree → Nat
  | .L => 1
  | .N l r => l.nodes + r.nodes + 1
/-! ### enumerate(a text): each sign in a new pair -/
def ItES (z : Str) : It :=
  ⟨fun j _ => j < z.cps.size, fun j G v G' => ∃ q c, v = .ref q ∧ G q = none ∧ G' = upd G q (.tup [.int (j : Nat), .str ⟨#[c]⟩]) ∧ z.cps[j]? = some c, fun j _ => z.cps.size ≤ j⟩
theorem draws_text {Pr : Program} {wo : World} {Ar : Around} (calm : Ar.handled = none) (it : Addr) (z : Str) (tk : Tok) :
    PySem.Draws Pr wo Ar it [it] z.cps.size (fun j v => ∃ c u, z.cps[j]? = some c ∧ v = .str ⟨#[c]⟩ u) (fun j g => g.IsStrIter it (PySem.strIterType z) z tk j) := by
  unfold PySem.strIterType
  cases z.cps.all (· < 128)
  · exact PySem.Draws.strWide calm it z tk
  · exact PySem.Draws.strAscii calm it z tk
theorem turn_ES {Pr : Program} {wo : World} {Kf : PySem.W.Frag} {ts : List Expr} {nn : Nat} {tp : Pos} (en it : Addr) (z : Str) (tk : Tok) :
    Turn Pr wo Kf (.Tuple ts nn tp) (ItES z) [en, it] en (fun j g => (∃ old, PySem.IsEnum g en it ((j : Nat) : Int) old) ∧ g.IsStrIter it (PySem.strIterType z) z tk j ∧ en ≠ it ∧ j ≤ z.cps.size) where
  mem := List.mem_cons_self
  obj := fun j g st b hb => by
    obtain ⟨⟨old, h1⟩, ⟨ob, h2, h3, h4⟩, _⟩ := st
    rcases List.mem_cons.mp hb with rfl | hb
    · exact ⟨_, h1, fun v q => nomatch q⟩
    · cases List.mem_singleton.mp hb
      refine ⟨ob, h2, fun v q => ?_⟩
      rw [h4] at q
      cases q
  keep := fun j g g' st kk => by
    obtain ⟨⟨old, h1⟩, ⟨ob, h2, h3⟩, h5⟩ := st
    exact ⟨⟨old, kk en List.mem_cons_self _ h1⟩, ⟨ob, kk it (List.mem_cons_of_mem _ List.mem_cons_self) _ h2, h3⟩, h5⟩
  item := by
    intro X e1 e2 e3 calm j pins s σ G Ex inv fp st lt
    cases e1
    cases e2
    cases e3
    obtain ⟨⟨old, h1⟩, h2, ne, le⟩ := st
    have l1 : en < s.heap.objs.size := Heap.lt_size h1
    have l2 : it < s.heap.objs.size := by
      obtain ⟨_, y, _⟩ := h2
      exact Heap.lt_size y
    refine PySem.wpAny_pyNext_enum_itemD (draws_text (show X.A.in1.handled = none from inv.ok.hd calm) it z tk) h1 h2 lt ne (fun y => ne (List.mem_singleton.mp y)) fun u g' t2 hu out h2' hT sz kp => ?_
    obtain ⟨c, u', hc, rfl⟩ := hu
    refine ⟨_, rfl, PySem.wpAny_letOwnedTupleGo_enum (s := { s with heap := g', toks := t2 + 1 }) out fun g'' h1' sb => ?_⟩
    have hT' : g''.get? s.heap.objs.size = some { cls := .type "tuple", data := .seq #[.int j t2, .str ⟨#[c]⟩ u'] } := (sb.2 _ (Nat.ne_of_gt l1)).trans hT
    have made : ObjOk X.prog X.w (upd G s.heap.objs.size (.tup [.int (j : Nat), .str ⟨#[c]⟩])) g'' s.heap.objs.size (.tup [.int (j : Nat), .str ⟨#[c]⟩]) :=
      ⟨two_le, [.int j t2, .str ⟨#[c]⟩ u'], .cons ⟨_, rfl⟩ (.cons ⟨_, rfl⟩ .nil), ⟨_, hT', rfl, _, rfl⟩⟩
    have inv' : Inv X pins σ (upd G s.heap.objs.size (.tup [.int (j : Nat), .str ⟨#[c]⟩])) { s with heap := g'', toks := t2 + 1 } := by
      refine Inv.turnedNew (ch := [en, it]) inv (fun b ob nb y => ?_) fp (Nat.le_refl _) made
      have n1 : b ≠ en := fun y => nb (by rw [y]; exact List.mem_cons_self)
      have n2 : b ≠ it := fun y => nb (by rw [y]; exact List.mem_cons_of_mem _ List.mem_cons_self)
      exact (sb.2 b n1).trans (kp b ob n1 n2 y)
    refine ⟨.ref s.heap.objs.size, _, inv', rfl, ⟨_, c, rfl, inv.hok.fresh (Nat.le_refl _), rfl, hc⟩, ⟨⟨.str ⟨#[c]⟩ u', ?_⟩, ?_, ne, lt⟩, fun b hb => ?_⟩
    · rw [show (((j + 1 : Nat) : Nat) : Int) = (j : Int) + 1 by omega]
      exact h1'
    · obtain ⟨ob, y1, y2⟩ := h2'
      exact ⟨ob, (sb.2 it (Ne.symm ne)).trans y1, y2⟩
    · have lb : b < s.heap.objs.size := by
        rcases List.mem_cons.mp hb with rfl | hb
        · exact l1
        · cases List.mem_singleton.mp hb
          exact l2
      rw [upd_ne (Nat.ne_of_lt lb)]
      exact (fp b hb).1
  done := by
    intro X e1 e2 e3 calm j pins s σ G Ex inv fp st ge
    cases e1
    cases e2
    cases e3
    obtain ⟨⟨old, h1⟩, h2, ne, le⟩ := st
    have ej : j = z.cps.size := Nat.le_antisymm le ge
    subst ej
    obtain ⟨f0, f1, f2, f3, f4, f5⟩ := fp it (List.mem_cons_of_mem _ List.mem_cons_self)
    exact PySem.wpAny_pyNext_enum_endD (draws_text (show X.A.in1.handled = none from inv.ok.hd calm) it z tk) h1 h2 fun g' eb => ⟨rfl, inv.turned (t' := s.toks) (fun b o nb y => eb b o nb y) f0 f1 f3 f4 f5⟩
  self := fun Ar j s Q Ex st y => by
    obtain ⟨⟨_, h1⟩, _⟩ := st
    exact PySem.wpAny_pyIter_enum h1 y
def iES (ta : L2.TA) : TI := fun σ G R => ta σ G fun vs G1 => ∃ z : Str, vs = [.str z] ∧ R (ItES z) G1
theorem pi_ES {X : Cx} {ex : Expr} {ta : L2.TA} {p pos tp : Pos} {ts : List Expr} {nn : Nat} (gl : Gl X "enumerate") (mm : X.mg "enumerate" = none) (ha : PA X [ex] ta) (hs : starEach [ex] X.env = [(false, eval ex X.env)] := by rfl) :
    PI X (.Tuple ts nn tp) (.Call (.Name "enumerate" p) [ex] [] pos) (iES ta) := by
  refine ⟨fun pins s σ G R inv y => ?_⟩
  refine PyProof.Rows.Call_ (ld_blt inv gl mm PyProof.Rows.boot_enumerate (PyProof.Rows.callWith_type1 (thn (ha.run pos pins s σ G _ inv y) fun us s1 ⟨vs, G1, inv1, r1, q1⟩ => ?_) hs rfl))
  obtain ⟨z, rfl, q⟩ := q1
  cases r1 with
  | cons r rr =>
    cases rr
    obtain ⟨tk, rfl⟩ := r
    refine PySem.call_enumerate_str fun g' h1 h2 sz kp => PySem.wpAny_pyIter_enum h1 ?_
    refine ⟨s1.heap.objs.size + 1, [s1.heap.objs.size + 1, s1.heap.objs.size], _, _, G1, rfl, inv1.kept (t' := s1.toks) kp, turn_ES (s1.heap.objs.size + 1) s1.heap.objs.size z tk, ⟨⟨.none, h1⟩, h2, Nat.succ_ne_self _, Nat.zero_le _⟩, fun b hb => ?_, q⟩
    have ge : s1.heap.objs.size ≤ b := by
      rcases List.mem_cons.mp hb with rfl | hb
      · exact Nat.le_succ _
      · cases List.mem_singleton.mp hb
        exact Nat.le_refl _
    exact inv1.fpOk ge (inv1.hok.fresh ge)
theorem for_ES {z : Str} {g : TG} {tb : TS} {D : Ends} {σ : L2.St} {G : Hp} (Pv : Nat → L2.St → Hp → Prop) (h0 : Pv 0 σ G)
    (hs : ∀ j c σ G, z.cps[j]? = some c → Pv j σ G → ∀ q, G q = none → g (.ref q) σ (upd G q (.tup [.int (j : Nat), .str ⟨#[c]⟩])) fun σ2 G2 => tb { D with nx := Pv (j + 1), ct := Pv (j + 1), bk := D.nx } σ2 G2) (hd : ∀ σ G, Pv z.cps.size σ G → D.nx σ G) :
    ∃ Wd : Nat → Nat → L2.St → Hp → Prop, (∃ m, Wd 0 m σ G) ∧ ∀ j m σ G, Wd j m σ G →
      ((ItES z).stop j G ∧ D.nx σ G) ∨ ((ItES z).go j G ∧ ∃ Nn : L2.St → Hp → Prop, (∀ σ' G', Nn σ' G' → ∃ m', m' < m ∧ Wd (j + 1) m' σ' G') ∧ ∀ v G', (ItES z).yld j G v G' → g v σ G' fun σ2 G2 => tb { D with nx := Nn, ct := Nn, bk := D.nx } σ2 G2) := by
  refine ⟨fun j m σ G => m = z.cps.size - j ∧ j ≤ z.cps.size ∧ Pv j σ G, ⟨_, rfl, Nat.zero_le _, h0⟩, ?_⟩
  rintro j m σ G ⟨rfl, le, pv⟩
  rcases Nat.lt_or_ge j z.cps.size with lt | ge
  · refine .inr ⟨lt, Pv (j + 1), fun σ' G' y => ⟨z.cps.size - (j + 1), by omega, rfl, lt, y⟩, fun v G' y => ?_⟩
    obtain ⟨q, c, rfl, nq, rfl, hc⟩ := y
    exact hs j c σ G hc pv q nq
  · have ej : j = z.cps.size := Nat.le_antisymm le ge
    subst ej
    exact .inl ⟨Nat.le_refl _, hd σ G pv⟩
/-! ### raising while an exception is handled that has a context itself (raise .. from None keeps it) -/
namespace HotY
open PySem.Spec PyProof.Rows
theorem bne_ref {a b : Addr} (h : a ≠ b) : ¬ ((Value.ref a == Value.ref b) = true) := fun z => h (by simpa using z)
/-- what a context may be: None, or an exception that p tells of and whose own is None -/
def Ctx2 (p : Addr → Obj → Prop) (c : Option Value) : Prop := c = some .none ∨ ∃ (y : Addr) (oy : Obj) (vy : Array Value), c = some (.ref y) ∧ p y oy ∧ oy.data = .fields vy ∧ vy[2]? = some .none
theorem Ctx2.imp {p q : Addr → Obj → Prop} {c : Option Value} (h : Ctx2 p c) (k : ∀ y oy, p y oy → (∃ vy : Array Value, oy.data = .fields vy) → q y oy) : Ctx2 q c :=
  Or.imp id (fun ⟨y, oy, vy, e, hp, d, n⟩ => ⟨y, oy, vy, e, k y oy hp ⟨vy, d⟩, d, n⟩) h
def HotAt (A : Around) (x1 : Addr) (h : Heap) : Prop := A.handled = some (.ref x1) ∧ ∃ (o : Obj) (vs : Array Value), h.get? x1 = some o ∧ o.data = .fields vs ∧ Ctx2 (fun y oy => h.get? y = some oy) vs[2]?
section
variable {prog : Program} {w : World} {A : Around} {E : Value → Shared → Prop} {s : Shared}
theorem unchained2 {x1 y a : Addr} {o1 oy : Obj} {vs1 vy : Array Value} {Q : Value → Shared → Prop} (h1 : s.heap.get? x1 = some o1) (d1 : o1.data = .fields vs1) (c1 : vs1[2]? = some (.ref y)) (hy : s.heap.get? y = some oy) (dy : oy.data = .fields vy) (cy : vy[2]? = some .none) (ya : y ≠ a) (yx : y ≠ x1) (q : Q .none s) :
    wpAny (model prog w) A (holding [Value.ref a] (runValue (.builtin "proto.unchain" ⟨[.ref a, .ref x1, .ref x1, .bool false], []⟩))) Q E s := by
  refine wpAny_holding (wpAny_runValue (codeAny_builtin HotX.entry_unchain ?_))
  show wpAny _ _ (field (.ref x1) 2 >>= _) _ _ s
  refine wpAny_bind (wpAny_field h1 d1 c1 ?_)
  rw [if_neg (show ¬ ((Value.ref y == Value.none) = true) from Bool.false_ne_true), if_neg (bne_ref ya), if_neg (bne_ref yx)]
  dsimp only
  rw [if_neg Bool.false_ne_true]
  refine wpAny_bind (wpAny_pure ?_)
  refine wpAny_pure ⟨by first | rfl | kernel_rfl | decide +kernel, codeAny_builtin HotX.entry_unchain ?_⟩
  show wpAny _ _ (field (.ref y) 2 >>= _) _ _ s
  refine wpAny_bind (wpAny_field hy dy cy ?_)
  rw [if_pos (show (Value.none == Value.none) = true from rfl)]
  first
  | exact wpAny_bind (wpAny_pure (wpAny_pure q))
  | exact wpAny_pure q
/-- the new one is not in the chain: it stands above what stood -/
theorem raiseNew_hot {α : Type} {a x1 : Addr} {old : Heap} {oe : Obj} {vs : Array Value} {Q : α → Shared → Prop} (hot : HotAt A x1 old) (up : ∀ b o, old.get? b = some o → s.heap.get? b = some o) (fr : old.get? a = none) (ha : s.heap.get? a = some oe) (da : oe.data = .fields vs) (hi : 2 < vs.size)
    (hE : E (.ref a) { s with heap := s.heap.update a (Obj.mapFields (·.setIfInBounds 2 (.ref x1))) }) : wpAny (model prog w) A (raiseNew (.ref a) : Sem α) Q E s := by
  obtain ⟨hh, o1, vs1, h1, d1, c1⟩ := hot
  have nx : x1 ≠ a := fun z => by rw [← z, h1] at fr; cases fr
  rcases c1 with c1 | ⟨y, oy, vy, c1, hy, dy, cy⟩
  · exact HotX.raiseNew_hot ⟨hh, o1, vs1, up _ _ h1, d1, c1⟩ nx ha da hi hE
  · have ny : y ≠ a := fun z => by rw [← z, hy] at fr; cases fr
    have yx : y ≠ x1 := fun z => by
      rw [z, h1] at hy
      cases hy
      rw [d1] at dy
      cases dy
      rw [c1] at cy
      cases cy
    unfold raiseNew
    refine wpAny_bind (wpAny_handled ?_)
    rw [hh]
    have hb : (Value.ref x1 != Value.ref a) = true := HotX.ref_bne nx
    first
    | (show wpAny _ _ (if (Value.ref x1 != Value.ref a) = true then _ else _) _ _ _
       rw [if_pos hb]
       first
       | exact wpAny_bind (unchained2 (up _ _ h1) d1 c1 (up _ _ hy) dy cy ny yx (wpAny_bind (HotX.chained ha da hi (wpAny_throw hE))))
       | exact wpAny_bind (wpAny_bind (unchained2 (up _ _ h1) d1 c1 (up _ _ hy) dy cy ny yx (HotX.chained ha da hi (wpAny_throw hE)))))
    | (refine wpAny_bind ?_
       show wpAny _ _ (if (Value.ref x1 != Value.ref a) = true then _ else _) _ _ _
       rw [if_pos hb]
       exact wpAny_bind (unchained2 (up _ _ h1) d1 c1 (up _ _ hy) dy cy ny yx (HotX.chained ha da hi (wpAny_throw hE))))
end
end HotY
/-! ### iterators at their end while an exception is handled -/
section
variable {Pr : Program} {wo : World} {Ar : Around} {Ex : Value → Shared → Prop} {st : Shared}
open HotY
/-- a StopIteration, made and raised there: all that stood stands -/
theorem stop_hot {α : Type} {xh : Addr} {Qa : α → Shared → Prop} (hot : HotAt Ar xh st.heap) (k : ∀ g (a : Addr), (∀ b o, st.heap.get? b = some o → g.get? b = some o) → (∃ o, g.get? a = some o ∧ o.cls = .type "StopIteration") → Ex (.ref a) { st with heap := g }) :
    wpAny (model Pr wo) Ar (newExc (.type "StopIteration") [] >>= fun e => (raiseNew e : Sem α)) Qa Ex st := by
  have fr : st.heap.get? (st.heap.objs.size + 1) = Option.none := by
    cases q : st.heap.get? (st.heap.objs.size + 1) with
    | none => rfl
    | some o =>
      have z : st.heap.objs.size + 1 < st.heap.objs.size := Heap.lt_size q
      exact absurd z (by omega)
  simp only [newExc, newTuple]
  refine wpAny_bind (wpAny_bind (wpAny_newObj_type (wpAny_bind (m := firstArgMember _ _) (wpAny_of_eq (a := Value.none) (by first | rfl | (simp only [firstArgMember]; rfl)) (wpAny_newObj_type ?_ (by size_fits)))) (by size_fits)))
  refine raiseNew_hot (x1 := xh) hot (fun b o y => Heap.get?_push_of_some _ (Heap.get?_push_of_some _ y)) (by rw [Heap.size_push]; exact fr) (Heap.get?_push_size _ rfl) rfl (by first | (simp; done) | (simp; omega)) ?_
  refine k _ _ (fun b o y => ?_) ⟨_, Heap.get?_update_self _ (Heap.get?_push_size _ rfl) rfl, rfl⟩
  rw [Heap.get?_update_other _ _ (Nat.ne_of_gt (Heap.lt_size (Heap.get?_push_of_some _ y)))]
  exact Heap.get?_push_of_some _ (Heap.get?_push_of_some _ y)
theorem list_end_hot {ite lis xh : Addr} {j : Nat} {its : Array Value} {Qn : Option Value → Shared → Prop} (hot : HotAt Ar xh st.heap) (nxi : xh ≠ ite) (hi : st.heap.IsListIter ite lis j) (hL : st.heap.IsList lis its) (out : its[j]? = none)
    (k : ∀ g, Heap.ExtBut ite st.heap g → Qn none { st with heap := g }) : wpAny (model Pr wo) Ar (pyNext (.ref ite)) Qn Ex st := by
  obtain ⟨oi, h1, h2, h3⟩ := id hi
  obtain ⟨ol, h4, _, nl, h5⟩ := hL
  obtain ⟨hh, oe, ve, e1, e2, e3⟩ := hot
  unfold pyNext
  refine wpAny_bind (wpAny_attempt (wpAny_callSpecial?_slot (name := Str.ofString "__next__") hi.typeIs PySem.slot_listiter_next (wpAny_call_entry PySem.slot_listiter_next hi.typeIs PySem.entry_listiter_next ?_ (PySem.args_listiter_next _))))
  show wpAny _ _ (field (.ref ite) 0 >>= _) _ _ st
  refine wpAny_bind (wpAny_field h1 h3 (x := .ref lis) rfl ?_)
  show wpAny _ _ (if (Value.ref lis == Value.none) = true then _ else _) _ _ st
  rw [if_neg (show ¬ ((Value.ref lis == Value.none) = true) from Bool.false_ne_true)]
  show wpAny _ _ (field (.ref ite) 1 >>= _) _ _ st
  refine wpAny_bind (wpAny_field h1 h3 (x := .int j 0) rfl ?_)
  show wpAny _ _ (seqItems? (.ref lis) >>= _) _ _ st
  refine wpAny_bind (wpAny_seqItems h4 h5 ?_)
  simp only [Int.toNat_natCast, out]
  refine wpAny_bind (wpAny_rule (wpAny_bind (wpAny_setField h1 h3 (by simp) ?_)))
  have hot' : HotAt Ar.in1 xh (st.heap.update ite (Obj.mapFields (·.setIfInBounds 0 Value.none))) := ⟨hh, oe, ve, by rw [Heap.get?_update_other _ _ nxi.symm]; exact e1, e2, e3.elim .inl fun ⟨y, oy, vy, y1, y2, y3, y4⟩ => .inr ⟨y, oy, vy, y1, by
    have ny : ite ≠ y := fun z => by
      rw [← z, h1] at y2
      cases y2
      rw [h3] at y3
      cases y3
      cases y4
    show (st.heap.update ite (Obj.mapFields (·.setIfInBounds 0 Value.none))).get? y = some oy
    rw [Heap.get?_update_other _ _ ny]
    exact y2, y3, y4⟩⟩
  refine stop_hot hot' fun g a kp ha => ?_
  obtain ⟨oa, y1, y2⟩ := ha
  refine wpAny_bind (wpAny_isInstance (T := "StopIteration") (b := true) ⟨oa, y1, y2⟩ PySem.isSubtype_stop (wpAny_pure (k _ fun b o nb y => kp b o ?_)))
  rw [Heap.get?_update_other _ _ (Ne.symm nb)]
  exact y
theorem tuple_end_hot {ite tup xh : Addr} {j : Nat} {its : Array Value} {Qn : Option Value → Shared → Prop} (hot : HotAt Ar xh st.heap) (nxi : xh ≠ ite) (hi : PyProof.Rows.IsTupIter st.heap ite tup j) (hT : PyProof.Rows.IsTup st.heap tup its) (out : its[j]? = none)
    (k : ∀ g, Heap.ExtBut ite st.heap g → Qn none { st with heap := g }) : wpAny (model Pr wo) Ar (pyNext (.ref ite)) Qn Ex st := by
  obtain ⟨oi, h1, h2, h3⟩ := id hi
  obtain ⟨ol, h4, _, nl, h5⟩ := hT
  obtain ⟨hh, oe, ve, e1, e2, e3⟩ := hot
  unfold pyNext
  refine wpAny_bind (wpAny_attempt (wpAny_callSpecial?_slot (name := Str.ofString "__next__") hi.typeIs PySem.F.slot_tuple_iterator_next (wpAny_call_entry PySem.F.slot_tuple_iterator_next hi.typeIs PySem.F.entry_tuple_iterator_next ?_ (PySem.F.args_tuple_iterator_next_1 _))))
  show wpAny _ _ (field (.ref ite) 0 >>= _) _ _ st
  refine wpAny_bind (wpAny_field h1 h3 (x := .ref tup) rfl ?_)
  show wpAny _ _ (if (Value.ref tup == Value.none) = true then _ else _) _ _ st
  rw [if_neg (show ¬ ((Value.ref tup == Value.none) = true) from Bool.false_ne_true)]
  show wpAny _ _ (field (.ref ite) 1 >>= _) _ _ st
  refine wpAny_bind (wpAny_field h1 h3 (x := .int j 0) rfl ?_)
  show wpAny _ _ (seqItems? (.ref tup) >>= _) _ _ st
  refine wpAny_bind (wpAny_seqItems h4 h5 ?_)
  simp only [Int.toNat_natCast, out]
  refine wpAny_bind (wpAny_rule (wpAny_bind (wpAny_setField h1 h3 (by simp) ?_)))
  have hot' : HotAt Ar.in1 xh (st.heap.update ite (Obj.mapFields (·.setIfInBounds 0 Value.none))) := ⟨hh, oe, ve, by rw [Heap.get?_update_other _ _ nxi.symm]; exact e1, e2, e3.elim .inl fun ⟨y, oy, vy, y1, y2, y3, y4⟩ => .inr ⟨y, oy, vy, y1, by
    have ny : ite ≠ y := fun z => by
      rw [← z, h1] at y2
      cases y2
      rw [h3] at y3
      cases y3
      cases y4
    show (st.heap.update ite (Obj.mapFields (·.setIfInBounds 0 Value.none))).get? y = some oy
    rw [Heap.get?_update_other _ _ ny]
    exact y2, y3, y4⟩⟩
  refine stop_hot hot' fun g a kp ha => ?_
  obtain ⟨oa, y1, y2⟩ := ha
  refine wpAny_bind (wpAny_isInstance (T := "StopIteration") (b := true) ⟨oa, y1, y2⟩ PySem.isSubtype_stop (wpAny_pure (k _ fun b o nb y => kp b o ?_)))
  rw [Heap.get?_update_other _ _ (Ne.symm nb)]
  exact y
/-- a, b = a tuple, there -/
theorem unpack_hot {tup xh : Addr} {its : Array Value} {Ql : List Value → Shared → Prop} (hot : HotAt Ar xh st.heap) (hT : PyProof.Rows.IsTup st.heap tup its)
    (k : ∀ g, Heap.ExtBut st.heap.objs.size st.heap g → Ql its.toList { st with heap := g }) : wpAny (model Pr wo) Ar (unpackItems (.ref tup) its.size none) Ql Ex st := by
  have nt : tup ≠ st.heap.objs.size := by
    obtain ⟨o, y, _⟩ := hT
    exact Nat.ne_of_lt (Heap.lt_size y)
  obtain ⟨hh, oe, ve, e1, e2, e3⟩ := hot
  have nx : xh ≠ st.heap.objs.size := Nat.ne_of_lt (Heap.lt_size e1)
  unfold unpackItems
  refine wpAny_bind ?_
  unfold notIterableAtAll
  refine wpAny_bind (wpAny_specialOf hT.typeIs PyProof.Rows.slot_tuple_iter.lookup (wpAny_pure ?_))
  simp only [Bool.false_eq_true, if_false]
  refine wpAny_bind (wpAny_holding (PyProof.Rows.iter_tuple hT (wpAny_bind (wpAny_holding (PyProof.Rows.draw_tuple nt its.size 0 _ _ ⟨_, Heap.get?_push_size _ rfl, rfl, rfl⟩ (hT.push _) (by omega) fun g1 hi1 sb1 => ?_)))))
  rw [show List.take its.size (List.drop 0 its.toList) = its.toList by rw [List.drop_zero]; exact List.take_of_length_le (by simp), if_neg (by simp)]
  have hT1 : PyProof.Rows.IsTup g1 tup its := (hT.push _).extBut sb1.extBut nt
  have hot1 : HotAt Ar xh g1 := ⟨hh, oe, ve, sb1.extBut _ _ nx (Heap.get?_push_of_some _ e1), e2, e3.imp fun y oy y2 _ => sb1.extBut _ _ (Nat.ne_of_lt (Heap.lt_size y2)) (Heap.get?_push_of_some _ y2)⟩
  refine wpAny_bind (wpAny_holding (tuple_end_hot (st := { st with heap := g1 }) hot1 nx hi1 hT1 (by simp) fun g2 eb2 => ?_))
  simp only [Option.isSome_none, Bool.false_eq_true, if_false]
  exact wpAny_pure (k g2 fun b o nb y => eb2 b o nb (sb1.extBut b o nb (Heap.get?_push_of_some _ y)))
end
/-! ### a context in which an exception is handled that stood when it began -/
structure HotB (X : Cx) (xh : Addr) (oh : Obj) : Prop where
  hnd : X.A.handled = some (.ref xh)
  obj : X.s_0.heap.get? xh = some oh
  dat : ∃ vs : Array Value, oh.data = .fields vs ∧ HotY.Ctx2 (fun y oy => X.s_0.heap.get? y = some oy ∧ X.H_0 y = Option.none ∧ y ∉ X.fs ∧ y ∉ X.ex) vs[2]?
  unt : X.H_0 xh = none
  nfs : xh ∉ X.fs
  nex : xh ∉ X.ex
section
variable {X : Cx} {pins : List (Addr × Obj)} {σ : L2.St} {H : Hp} {s : Shared} {xh : Addr} {oh : Obj}
theorem HotB.get (h : HotB X xh oh) (I : Inv X pins σ H s) : s.heap.get? xh = some oh := I.base.keep xh oh h.obj h.unt h.nfs h.nex
theorem HotB.hot (h : HotB X xh oh) (I : Inv X pins σ H s) : HotY.HotAt X.A xh s.heap := by
  obtain ⟨vs, d1, d2⟩ := h.dat
  exact ⟨h.hnd, oh, vs, h.get I, d1, d2.imp fun y oy k _ => I.base.keep y oy k.1 k.2.1 k.2.2.1 k.2.2.2⟩
theorem HotB.none (h : HotB X xh oh) (I : Inv X pins σ H s) : H xh = Option.none := I.base.free xh oh h.obj h.unt h.nex
theorem HotB.nloc (h : HotB X xh oh) (I : Inv X pins σ H s) : xh ≠ X.env.locals := fun z => by
  obtain ⟨m, ⟨o, es, ep, e1, e2, _⟩, _⟩ := I.loc
  obtain ⟨vs, d1, _⟩ := h.dat
  have g := h.get I
  rw [z, e1] at g
  cases g
  rw [d1] at e2
  cases e2
theorem nloc_of {y : Addr} {oy : Obj} (I : Inv X pins σ H s) (g : s.heap.get? y = some oy) (hd : ∃ vy : Array Value, oy.data = .fields vy) : y ≠ X.env.locals := fun z => by
  obtain ⟨m, ⟨o, es, ep, e1, e2, _⟩, _⟩ := I.loc
  obtain ⟨vs, d1⟩ := hd
  rw [z, e1] at g
  cases g
  rw [d1] at e2
  cases e2
theorem big_of {p : Addr → Obj → Prop} {vs : Array Value} (c : HotY.Ctx2 p vs[2]?) : 2 < vs.size := by
  rcases c with c | ⟨y, oy, vy, c, _⟩
  · exact (Array.getElem?_eq_some_iff.mp c).1
  · exact (Array.getElem?_eq_some_iff.mp c).1
theorem HotB.blk (h : HotB X xh oh) (I : Inv X pins σ H s) (scope : Scope) (ce : Env) {fp : List Addr} (hf : ∀ (b : Addr) (o : Obj) (vs : Array Value), s.heap.get? b = some o → o.data = .fields vs → 2 < vs.size → b ∉ fp) : HotB (X.blk s H scope ce fp) xh oh := by
  obtain ⟨vs, d1, d2⟩ := h.dat
  refine ⟨h.hnd, h.get I, ⟨vs, d1, ?_⟩, h.none I, fun z => (List.mem_cons.mp (I.stkSub xh z)).elim (h.nloc I) h.nfs, hf xh oh vs (h.get I) d1 (big_of d2)⟩
  rcases d2 with d2 | ⟨y, oy, vy, c, ⟨k1, k2, k3, k4⟩, dy, cy⟩
  · exact .inl d2
  · have gy := I.base.keep y oy k1 k2 k3 k4
    exact .inr ⟨y, oy, vy, c, ⟨gy, I.base.free y oy k1 k2 k4, fun z => (List.mem_cons.mp (I.stkSub y z)).elim (nloc_of I gy ⟨vy, dy⟩) k3, hf y oy vy gy dy (Array.getElem?_eq_some_iff.mp cy).1⟩, dy, cy⟩
/-- (a, b) = a tuple, there -/
theorem pg_tupB {es : List Expr} {k : Nat} {t : TGs} {n : Nat} {pos : Pos} (hb : HotB X xh oh) (h : PGs X es t)
    (hn : (assignEach es X.env).length = n := by rfl) (hst : (assignEach es X.env).findIdx? (·.1) = Option.none := by rfl) : PG X (.Tuple es k pos) (gTup X.K n t) := by
  refine ⟨fun pins s σ H v u Q I r y => ?_⟩
  obtain ⟨a, xs, rfl, hq, hl, y⟩ := y
  cases r
  obtain ⟨its, rv, hT, hz⟩ := I.tuple hq
  have e1 : (assignEach es X.env).length = its.toArray.size := by
    rw [List.size_toArray, hn, ← hl, rv.length]
  rw [PyProof.Rows.assign_Tuple]
  refine wpAny_bind (wpAny_standAt ?_)
  unfold unpack
  rw [e1, hst]
  refine wpAny_bind (wpAny_holding (unpack_hot (hb.hot I) hT fun g eb => ?_))
  have I1 : Inv X pins σ H { s with heap := g } := I.kept (t' := s.toks) fun b o e => eb b o (Nat.ne_of_lt (Heap.lt_size e)) e
  exact h.run pins _ σ H xs _ Q I1 (by simpa using rv) y
/-- [elt for tg in a list if ..], there -/
def tLcB (K : PySem.W.Frag) (tl : TE) (g : TG) (tt : TT) (te : TE) (vs : List Nat) : TE := fun σ H Q => tl σ H fun x H1 => ∃ a xs, x = .ref a ∧ SqL K H1 a xs ∧ ∀ D, H1 D = Option.none → ∃ Pv : Nat → Hp → Prop, Pv 0 (upd H1 D (.lst [])) ∧ (∀ i G, i ≤ xs.length → Pv i G → SqL K G a xs) ∧
  (∀ i v G, xs[i]? = some v → Pv i G → g v (wipe σ vs) G fun σ2 G2 => wipe σ2 vs = wipe σ vs ∧ tt σ2 G2 fun b G3 => if b = true then te σ2 G3 fun y G4 => ∃ acc, G4 D = some (.lst acc) ∧ acc.length < sizeLine ∧ Pv (i + 1) (upd G4 D (.lst (acc ++ [y]))) else Pv (i + 1) G3) ∧ ∀ G, Pv xs.length G → Q (.ref D) G
theorem pe_lcB {elt tg iter : Expr} {ifs : List Expr} {scope : Scope} {own : List (Str × Nat)} {pos : Pos} {tl : TE} {g : TG} {tt : TT} {te : TE} (hb : HotB X xh oh) (hN : X.N.Nodup) (hi : PE X iter tl) (ok : BlkOk X.N X.env.scope scope own)
    (hg : ∀ (s : Shared) (H : Hp) (C : Addr) (cl : List (Str × Addr)) (fp : List Addr), HotB (X.blk s H scope (compEnvC scope cl C X.env) fp) xh oh → PG (X.blk s H scope (compEnvC scope cl C X.env) fp) tg g)
    (ht : ∀ (s : Shared) (H : Hp) (C : Addr) (cl : List (Str × Addr)) (fp : List Addr), PTs (X.blk s H scope (compEnvC scope cl C X.env) fp) ifs tt)
    (he : ∀ (s : Shared) (H : Hp) (C : Addr) (cl : List (Str × Addr)) (fp : List Addr), PE (X.blk s H scope (compEnvC scope cl C X.env) fp) elt te) (hs : ∀ x, foldedSetIterable iter X.env x = pure x := by intro _; rfl) :
    PE X (.ListComp elt [⟨tg, iter, ifs, 0⟩] scope pos) (tLcB X.K tl g tt te (own.map (·.2))) := by
  refine ⟨fun pins s σ H Q I h => ?_⟩
  rw [eval_ListComp]
  have hfree : ∀ y ∈ scope.names, y.2 = .free → ∃ c, X.env.cells.lookup y.1 = some c := fun y hy e => (ok.free y hy e).elim (fun k => I.ok.has _ (.inl k)) (fun k => I.ok.has _ (.inr k))
  refine wpAny_comprehension_free (use := Option.none) rfl hs (closure_ok hfree) ok.kind (fun y hy e => by rw [ok.uniq y hy, e]) (thn (hi.run pins s σ H _ I h) fun xv s1 ⟨x, H1, I1, r1, a, xs, ex, hL, k⟩ => ?_)
  subst ex
  cases r1
  obtain ⟨its, rv, hl, hz⟩ := I1.list hL
  refine PySem.wpAny_pyIter_list hl.isList ?_
  -- the iterator's object, the new list, the block's frame
  have I2 : Inv X pins σ H1 { s1 with heap := s1.heap.push { cls := .type "list_iterator", data := .fields #[.ref a, .int 0 0] } } := I1.kept (t' := s1.toks) fun b o e => Heap.get?_push_of_some _ e
  have hit2 : ({ s1 with heap := s1.heap.push { cls := .type "list_iterator", data := .fields #[.ref a, .int 0 0] } } : Shared).heap.IsListIter s1.heap.objs.size a 0 := ⟨_, Heap.get?_push_size _ rfl, rfl, rfl⟩
  have it0 : H1 s1.heap.objs.size = Option.none := I1.hok.fresh (Nat.le_refl _)
  have fit : FpOk X pins H1 s1.heap.objs.size := I1.fpOk (Nat.le_refl _) it0
  have nxi : xh ≠ s1.heap.objs.size := Nat.ne_of_lt (Heap.lt_size (hb.get I1))
  have ltit : s1.heap.objs.size < ({ s1 with heap := s1.heap.push { cls := .type "list_iterator", data := .fields #[.ref a, .int 0 0] } } : Shared).heap.objs.size := by
    show _ < (s1.heap.push _).objs.size
    rw [Heap.size_push]
    exact Nat.lt_succ_self _
  generalize ({ s1 with heap := s1.heap.push { cls := .type "list_iterator", data := .fields #[.ref a, .int 0 0] } } : Shared) = s2 at *
  generalize s1.heap.objs.size = it at *
  refine wpAny_newObj_type (newEnv_comp ?_) (by show 0 ≤ sizeLine; decide)
  obtain ⟨Pv, p0, pl, pt, pd⟩ := k s2.heap.objs.size (I2.hok.fresh (Nat.le_refl _))
  have I3 : Inv X pins σ (upd H1 s2.heap.objs.size (.lst [])) { s2 with heap := s2.heap.push { cls := .type "list", data := .seq ([] : List Value).toArray } } :=
    I2.laid (t' := s2.toks) (fun b o e => Heap.get?_push_of_some _ e) (Nat.le_refl _) ⟨Nat.zero_le _, [], 0, .nil, Heap.get?_push_size _ rfl⟩
  have hit3 : ({ s2 with heap := s2.heap.push { cls := .type "list", data := .seq ([] : List Value).toArray } } : Shared).heap.IsListIter it a 0 := by
    obtain ⟨o, y1, y2⟩ := hit2
    exact ⟨o, Heap.get?_push_of_some _ y1, y2⟩
  have lt3 : it < ({ s2 with heap := s2.heap.push { cls := .type "list", data := .seq ([] : List Value).toArray } } : Shared).heap.objs.size := by
    show _ < (s2.heap.push _).objs.size
    rw [Heap.size_push]
    exact Nat.lt_succ_of_lt ltit
  have fit3 : FpOk X pins (upd H1 s2.heap.objs.size (.lst [])) it := ⟨by rw [upd_ne (Nat.ne_of_lt ltit)]; exact it0, fit.2⟩
  generalize hDD : s2.heap.objs.size = D at *
  generalize ({ s2 with heap := s2.heap.push { cls := .type "list", data := .seq ([] : List Value).toArray } } : Shared) = s3 at *
  generalize upd H1 D (.lst []) = H3 at *
  have I4 := block_start I3 ok hN (fp := [it]) fun b hm => by
    rw [List.mem_singleton.mp hm]
    exact ⟨fit3, lt3⟩
  -- the block's context, by letters
  have hotB := fun ce => hb.blk I3 scope ce (fp := [it]) fun b o vs e1 e2 e3 z => by
    obtain ⟨oi, i1, _, i3⟩ := hit3
    rw [List.mem_singleton.mp z, i1] at e1
    cases e1
    rw [i3] at e2
    cases e2
    exact absurd (show 2 < 2 from e3) (by omega)
  have pg := fun cl => hg s3 H3 s3.heap.objs.size cl [it] (hotB _)
  have pts := fun cl => ht s3 H3 s3.heap.objs.size cl [it]
  have pe := fun cl => he s3 H3 s3.heap.objs.size cl [it]
  have hit4 : ({ s3 with heap := pushCells (s3.heap.push { cls := .type "dict", data := .dict #[] }) scope.names } : Shared).heap.IsListIter it a 0 := by
    obtain ⟨o, y1, y2⟩ := hit3
    exact ⟨o, pushCells_keeps _ _ _ _ (Heap.get?_push_of_some _ y1), y2⟩
  show codeAny _ _ (.compStart (.ListComp elt [⟨tg, iter, ifs, 0⟩] scope pos) 0 (.ref it) (.ref D) (compEnvC scope (cellsFrom (s3.heap.objs.size + 1) scope.names (cloFrom X.env.cells scope.names [])) s3.heap.objs.size X.env)) (compPost (model X.prog X.w) X.A X.xe Option.none (EP X pins σ Q) (.ref D) s3.heap.objs.size) { s3 with heap := pushCells (s3.heap.push { cls := .type "dict", data := .dict #[] }) scope.names }
  specialize pg (cellsFrom (s3.heap.objs.size + 1) scope.names (cloFrom X.env.cells scope.names []))
  specialize pts (cellsFrom (s3.heap.objs.size + 1) scope.names (cloFrom X.env.cells scope.names []))
  specialize pe (cellsFrom (s3.heap.objs.size + 1) scope.names (cloFrom X.env.cells scope.names []))
  have eL : (compEnvC scope (cellsFrom (s3.heap.objs.size + 1) scope.names (cloFrom X.env.cells scope.names [])) s3.heap.objs.size X.env).locals = s3.heap.objs.size := rfl
  generalize compEnvC scope (cellsFrom (s3.heap.objs.size + 1) scope.names (cloFrom X.env.cells scope.names [])) s3.heap.objs.size X.env = ce at *
  generalize ({ s3 with heap := pushCells (s3.heap.push { cls := .type "dict", data := .dict #[] }) scope.names } : Shared) = s4 at *
  have hb4 := hotB ce
  have mem1 : it ∈ [it] := List.mem_singleton.mpr rfl
  have fpk : ∀ {σ' : L2.St} {G : Hp} {s' : Shared}, Inv (X.blk s3 H3 scope ce [it]) [] σ' G s' → G it = Option.none → FpOk (X.blk s3 H3 scope ce [it]) [] G it := fun {σ' G s'} J g0 =>
    ⟨g0, (J.ok.exf it mem1).1, J.ok.exfs it mem1, .inl mem1, fun y c e => (J.ok.exf it mem1).2 y c e, fun p hp => absurd (show p ∈ ([] : List (Addr × Obj)) ++ [] from hp) (by simp)⟩
  have loop : ∀ s4 : Shared, Inv (X.blk s3 H3 scope ce [it]) [] (wipe σ (own.map (·.2))) H3 s4 → s4.heap.IsListIter it a 0 → codeAny (model X.prog X.w) X.A (.compLoop (.ListComp elt [⟨tg, iter, ifs, 0⟩] scope pos) 0 (.ref it) (.ref D) ce) (compPost (model X.prog X.w) X.A X.xe Option.none (EP X pins σ Q) (.ref D) s3.heap.objs.size) s4 := by
    intro s4 I4 hit4
    refine compLoop_any (fun n s' => ∃ j G, n = xs.length - j ∧ j ≤ xs.length ∧ Inv (X.blk s3 H3 scope ce [it]) [] (wipe σ (own.map (·.2))) G s' ∧ s'.heap.IsListIter it a j ∧ G it = Option.none ∧ Pv j G) ?_ _ ⟨0, H3, rfl, Nat.zero_le _, I4, hit4, fit3.1, p0⟩
    rintro n s5 ⟨j, G, rfl, le, I5, hi5, g5, pv⟩
    have hL5 : SqL (X.blk s3 H3 scope ce [it]).K G a xs := pl j G le pv
    obtain ⟨its5, rv5, hl5, hz5⟩ := I5.list hL5
    obtain ⟨f0, f1, f2, f3, f4, f5⟩ := fpk I5 g5
    rcases Nat.lt_or_ge j xs.length with lt | ge
    · obtain ⟨u, hu, ru⟩ := rv5.get (List.getElem?_eq_getElem lt)
      refine PySem.wpAny_pyNext_list_item hi5 hl5.isList (x := u) (by simpa using hu) fun g6 hi6 sb6 => ?_
      have I6 : Inv (X.blk s3 H3 scope ce [it]) [] (wipe σ (own.map (·.2))) G { s5 with heap := g6 } := I5.turned (t' := s5.toks) (fun b o nb e => (sb6.2 b nb).trans e) f0 f1 f3 f4 f5
      obtain ⟨o6, y1, y2, y3⟩ := id hi6
      refine go_of (s := { s5 with heap := g6 }) y1 y2 y3 (by decide) ?_
      have I6p := I6.pinned (fp := [it]) (fun b hm => by rw [List.mem_singleton.mp hm]; exact fpk I6 g5) (fun b hm => by rw [List.mem_singleton.mp hm]; exact ⟨o6, y1, fun v z => by rw [y3] at z; cases z⟩)
      refine thnF (pg.run _ _ _ G _ u _ I6p ru (pt j _ G (List.getElem?_eq_getElem lt) pv)) fun _ s8 ⟨σ8, H8, I8, hw8, q8⟩ => ?_
      refine thnF (pts.run _ s8 σ8 H8 _ I8 q8) fun b s9 ⟨H9, I9, q9⟩ => ?_
      have fin : ∀ {s' : Shared} {G' : Hp}, Inv (X.blk s3 H3 scope ce [it]) ([] ++ pinsAt [it] g6) σ8 G' s' → Pv (j + 1) G' → ∃ m, m < xs.length - j ∧ ∃ j' G', m = xs.length - j' ∧ j' ≤ xs.length ∧ Inv (X.blk s3 H3 scope ce [it]) [] (wipe σ (own.map (·.2))) G' s' ∧ s'.heap.IsListIter it a j' ∧ G' it = Option.none ∧ Pv j' G' := fun {s' G'} J nx => by
        have pin := J.pin (it, o6) (List.mem_append_right _ (List.mem_append_right _ (mem_pinsAt mem1 y1)))
        have hln : (wipe σ (own.map (·.2))).length = σ8.length := by rw [← hw8, wipe_length]
        refine ⟨xs.length - (j + 1), by omega, j + 1, G', rfl, lt, (J.unpinned (pins := [])).weak hln (fun i v e => ?_), ⟨o6, pin.1, y2, y3⟩, pin.2.1, nx⟩
        rw [← hw8] at e
        exact (wipe_some e).1
      cases b with
      | false =>
        simp only [Bool.false_eq_true, if_false] at q9 ⊢
        exact fin I9 q9
      | true =>
        simp only [if_true] at q9 ⊢
        refine thnF (pe.run _ s9 σ8 H9 _ I9 q9) fun z s10 ⟨yv, H10, I10, r10, acc, hD10, hz10, nx⟩ => ?_
        exact app_ok (X := X.blk s3 H3 scope ce [it]) I10 hD10 hz10 r10 fun s11 I11 => fin I11 nx
    · have ej : j = xs.length := Nat.le_antisymm le ge
      subst ej
      refine list_end_hot (hb4.hot I5) nxi hi5 hl5.isList (by have := rv5.length; simp; omega) fun g6 eb => ?_
      have I6 : Inv (X.blk s3 H3 scope ce [it]) [] (wipe σ (own.map (·.2))) G { s5 with heap := g6 } := I5.turned (t' := s5.toks) (fun b o nb e => eb b o nb e) f0 f1 f3 f4 f5
      have I7 : Inv X pins σ G { s5 with heap := g6 } := I3.call' (ch := [it]) I6.os I6.base I6.hok I6.bare fun b hm => by
        rw [List.mem_singleton.mp hm]
        exact ⟨fit3.2.2.2.1, fit3.2.1, fit3.2.2.2.2.1, fit3.2.2.2.2.2⟩
      have nC : G s3.heap.objs.size = Option.none := by
        have z : G ce.locals = Option.none := I6.free
        rw [eL] at z
        exact z
      obtain ⟨m, hn, _⟩ := I6.loc
      have hn : g6.Ns ce.locals m := hn
      rw [eL] at hn
      obtain ⟨k0, k1, k2, k3, k4, k5⟩ := I3.fpOk (Nat.le_refl _) nC
      exact ⟨m, hn, fun g7 sb => ⟨.ref D, G, I7.turned (t' := s5.toks) (fun b o nb e => (sb.2 b nb).trans e) k0 k1 k3 k4 k5, rfl, pd G pv⟩⟩
  refine codeAny_compStart_list (loop s4 I4 hit4) ?_
  exact PySem.wpAny_pyIter_listiter hit4 (loop s4 I4 hit4)
end
open PySem.Spec PyProof.Rows
/-! ### isinstance of the handled exception, wherever it was handed -/
def rIsB (K : PySem.W.Frag) (D xh : Addr) : List V → Hp → VK → Prop := fun vs H Q => ∃ (c : V) (u : Value) (b : Bool), vs = [.ref xh, c] ∧ ClsV c u ∧ PySem.W.kitOne K (.ref D) u = some b ∧ Q (.bl b) H
theorem call_isB {X : Cx} {xh D : Addr} {oh : Obj} (hb : HotB X xh oh) (C : ExcC X.K D) (hc : oh.cls = .ref D) (hd : oh.dict = none) : CallR X (.builtin "isinstance") (rIsB X.K D xh) := by
  intro pins s σ H vs us Q I r y
  obtain ⟨c, u, b, rfl, kc, e, q⟩ := y
  obtain ⟨u1, u2, rfl, r1, r2⟩ := vals2 r
  cases (show u1 = Value.ref xh from r1)
  have e2 := kc.eq r2
  subst e2
  obtain ⟨ws, d1, _⟩ := hb.dat
  have J : PySem.W.InstAt s.heap xh oh D none := by
    have g := hb.get I
    obtain ⟨oc, od, oda, osl⟩ := oh
    dsimp only at hc hd d1
    subst hc hd d1
    exact ⟨g, rfl, rfl, trivial⟩
  exact PySem.W.kia_one (PySem.W.handS_kitx_exc C.hg C.hk C.hs C.hd C.ha C.hn C.ht C.hm) I.kIn J e (fun z => nomatch z) fun tk => ⟨.bl b, H, I.tok tk, rfl, q⟩
/-! ### a def called while an exception is handled, that exception told -/
structure HotP (A : Around) (outer : List Env) (H : Hp) (s : Shared) (xh : Addr) (oh : Obj) : Prop where
  hnd : A.handled = some (.ref xh)
  dat : ∃ vs : Array Value, oh.data = .fields vs ∧ HotY.Ctx2 (fun y oy => L2H.PinOk outer H s (y, oy)) vs[2]?
  pin : L2H.PinOk outer H s (xh, oh)
theorem HotP.b {CX : CXT} {P : Program} {w : World} {K : PySem.W.Frag} {mg : Str → Option Value} {base : Heap} {N : List Str} {qual : Str} {scope : Scope} {f : Addr} {cd : Value} {A : Around} {outer : List Env} {s : Shared} {H : Hp} {E : XK} {xh : Addr} {oh : Obj} (h : HotP A outer H s xh oh) :
    HotB (L2H.cxH CX P w K mg base N qual scope f cd A outer s H E (xh, oh)) xh oh := ⟨h.hnd, h.pin.get, h.dat.imp fun vs d => ⟨d.1, d.2.imp fun y oy k _ => ⟨k.get, k.free, k.nofs, fun z => nomatch (show y ∈ ([] : List Addr) from z)⟩⟩, h.pin.free, h.pin.nofs, fun z => nomatch (show xh ∈ ([] : List Addr) from z)⟩
/-- its promise: sp with the exception told -/
def FnB (P : Program) (w : World) (K : PySem.W.Frag) (mg : Str → Option Value) (base : Heap) (k : Nat) (f : Addr) (fd : FuncData) (ps : List Str) (sp : Addr → Value → Option Addr → Sp) : Prop :=
  ∀ (A : Around) (outer : List Env) (s : Shared) (H : Hp) (args : Args) (us : List Value) (vs : List V) (Q : VK) (xh : Addr) (oh : Obj), L2H.RoomH k A → HotP A outer H s xh oh → Env0 P w K mg base A outer s H → BindsTo s fd args (ps.zip us) → Vals vs us → vs.length = ps.length → sp xh oh.cls oh.dict vs H Q E0 →
    codeAny (model P w) A (.call (.ref f) args) (CR CX0 outer P w H s Q E0) s
theorem Fun.okB {P : Program} {w : World} {K : PySem.W.Frag} {mg : Str → Option Value} {base : Heap} {x qual : Str} {st : Stmt} {f : Addr} {fd : FuncData} {N ps : List Str} {k : Nat} {sp : Addr → Value → Option Addr → Sp} (F : L2.Fun K x qual st f fd) (S : FnScope N ps (defScope st))
    (body : ∀ (cdv : Value) (A : Around) (outer : List Env) (s : Shared) (H : Hp) (vs : List V) (Q : VK) (xh : Addr) (oh : Obj), L2H.RoomH k (A.deeper (PyProof.Rows.envOfC qual (defScope st) s.heap.objs.size f cdv)) → HotB (L2H.cxH CX0 P w K mg base N qual (defScope st) f cdv A outer s H E0 (xh, oh)).nox xh oh → sp xh oh.cls oh.dict vs H Q E0 →
      ∃ t, PSs (L2H.cxH CX0 P w K mg base N qual (defScope st) f cdv A outer s H E0 (xh, oh)).nox (defBody st) t ∧ t { nx := fun _ H' => Q .non H', rt := Q } (L2.start N vs) H) : FnB P w K mg base (k + 1) f fd ps sp := by
  obtain ⟨oc, od, kV, doc, pm, an, cdv, ct, osl, rfl, lk, hcd⟩ := F.ex
  intro A outer s H args us vs Q xh oh hr hp e0 hb r hl hsp
  have KX : K.In s.heap := e0.mod.kin.keeps fun b o e => (e0.bs b o e).1
  have hkind : ∀ y ∈ ps.zip us, (defScope st).names.lookup y.1 = some .local ∨ ((defScope st).names.lookup y.1 = some .cell ∧ ((cellsFrom (s.heap.objs.size + 1) (defScope st).names []).lookup y.1).isSome = true) := by
    rintro ⟨n, v⟩ hy
    exact (S.par n (List.of_mem_zip hy).1).imp id fun q => ⟨q, PySem.W.cellsFrom_some _ _ _ (.inl q)⟩
  refine codeAny_call_function hr.depth (KX _ _ lk) rfl S.co S.gen rfl (PySem.W.codeRec_of KX hcd) (hb _ _ _ _ (wpAny_newFunctionEnv_cells S.kind hkind fun env he s1 y => ?_))
  subst he
  refine ⟨(e0.mod.nolimit.keeps fun b o e => (e0.bs b o e).1).keeps y.toInCall.keep, codeAny_func ?_⟩
  have hB := hp.b (CX := CX0) (P := P) (w := w) (K := K) (mg := mg) (base := base) (N := N) (qual := qual) (scope := defScope st) (f := f) (cd := cdv) (E := E0)
  obtain ⟨t, ht, hq⟩ := body cdv A outer s H vs Q xh oh (hr.deeper _) ⟨hB.hnd, hB.obj, hB.dat, hB.unt, hB.nfs, hB.nex⟩ hsp
  have I : Inv (L2H.cxH CX0 P w K mg base N qual (defScope st) f cdv A outer s H E0 (xh, oh)) [] (L2.start N vs) H s1 := L2H.inv_startH S hp.pin e0 hl r y
  refine wpAny_mono (ht.run [] s1 (L2.start N vs) H _ (I.wish _) hq) (fun fl s' z => ?_) fun _ _ z => z.elim
  have z' : SP (L2H.cxH CX0 P w K mg base N qual (defScope st) f cdv A outer s H E0 (xh, oh)) [] { nx := fun _ H' => Q .non H', rt := Q } fl s' := z.unwish
  cases fl with
  | ret u =>
    obtain ⟨v, σ', H', J, rv, q⟩ := z'
    exact ⟨v, H', J.os, J.bare, J.base, J.hok, rv, q⟩
  | next =>
    obtain ⟨σ', H', J, q⟩ := z'
    exact ⟨V.non, H', J.os, J.bare, J.base, J.hok, rfl, q⟩
  | brk => exact z'.elim fun _ y => y.elim fun _ y => y.2.elim
  | cont => exact z'.elim fun _ y => y.elim fun _ y => y.2.elim
/-! ### calls of such defs, out of the suite or out of another such def -/
structure HotG (X : Cx) (xh : Addr) (oh : Obj) : Prop where
  hnd : X.A.handled = some (.ref xh)
  dat : ∃ vs : Array Value, oh.data = .fields vs ∧ HotY.Ctx2 (fun y oy => ∀ {pins : List (Addr × Obj)} {σ : L2.St} {H : Hp} {s : Shared}, Inv X pins σ H s → s.heap.get? y = some oy ∧ H y = none ∧ y ≠ X.env.locals ∧ y ∉ X.fs) vs[2]?
  at_ : ∀ {pins : List (Addr × Obj)} {σ : L2.St} {H : Hp} {s : Shared}, Inv X pins σ H s → s.heap.get? xh = some oh ∧ H xh = none ∧ xh ≠ X.env.locals ∧ xh ∉ X.fs
theorem HotB.g {X : Cx} {xh : Addr} {oh : Obj} (h : HotB X xh oh) : HotG X xh oh := ⟨h.hnd, h.dat.imp fun vs d => ⟨d.1, d.2.imp fun y oy k e => fun {pins σ H s} I => ⟨I.base.keep y oy k.1 k.2.1 k.2.2.1 k.2.2.2, I.base.free y oy k.1 k.2.1 k.2.2.2, nloc_of I (I.base.keep y oy k.1 k.2.1 k.2.2.1 k.2.2.2) e, k.2.2.1⟩⟩, fun I => ⟨h.get I, h.none I, h.nloc I, h.nfs⟩⟩
theorem hotG_suite {X : Cx} {a : Addr} {oe : Obj} {pn : List (Addr × Obj)} {cls : Value} {d : Option Addr} (hz : L2N.Zn cls d oe) (hf : ∃ vs, oe.data = .fields vs) : HotG (X.suite a ((a, oe) :: pn)) a oe := by
  obtain ⟨vs, e⟩ := hf
  refine ⟨rfl, ⟨vs, e, .inl (hz.2.2 vs e)⟩, fun I => ?_⟩
  obtain ⟨h1, h2, h3, h4, _⟩ := I.pin (a, oe) (List.mem_append_left _ List.mem_cons_self)
  exact ⟨h1, h2, h3, h4⟩
/-- the same where its context stands among the pins -/
theorem hotG_suite2 {X : Cx} {a : Addr} {oe : Obj} {pn : List (Addr × Obj)} (hf : ∃ vs : Array Value, oe.data = .fields vs ∧ HotY.Ctx2 (fun y oy => (y, oy) ∈ pn) vs[2]?) : HotG (X.suite a ((a, oe) :: pn)) a oe := by
  obtain ⟨vs, e, c⟩ := hf
  refine ⟨rfl, ⟨vs, e, c.imp fun y oy m _ => fun {pins σ H s} I => ?_⟩, fun I => ?_⟩
  · obtain ⟨h1, h2, h3, h4, _⟩ := I.pin (y, oy) (List.mem_append_left _ (List.mem_cons_of_mem _ m))
    exact ⟨h1, h2, h3, h4⟩
  · obtain ⟨h1, h2, h3, h4, _⟩ := I.pin (a, oe) (List.mem_append_left _ List.mem_cons_self)
    exact ⟨h1, h2, h3, h4⟩
theorem HotG.p {X : Cx} {xh : Addr} {oh : Obj} (h : HotG X xh oh) {pins : List (Addr × Obj)} {σ : L2.St} {H : Hp} {s : Shared} (I : Inv X pins σ H s) : HotP X.A X.stack H s xh oh := by
  obtain ⟨h1, h2, h3, h4⟩ := h.at_ I
  obtain ⟨vs, d1, d2⟩ := h.dat
  exact ⟨h.hnd, ⟨vs, d1, d2.imp fun y oy k e => by
    obtain ⟨k1, k2, k3, k4⟩ := k I
    obtain ⟨vy, dy⟩ := e
    exact ⟨k1, k2, fun z => (List.mem_cons.mp (I.stkSub y z)).elim k3 k4, fun v z => by rw [dy] at z; cases z⟩⟩, h1, h2, fun z => (List.mem_cons.mp (I.stkSub xh z)).elim h3 h4, fun v z => by rw [d1] at z; cases z⟩
def tCallG (sp : Addr → Value → Option Addr → Sp) (xh : Addr) (cls : Value) (dd : Option Addr) (n : Nat) (t : L2.TA) : TE := fun σ H Q => t σ H fun vs H1 => vs.length = n ∧ sp xh cls dd vs H1 Q E0
theorem pe_callG {X : Cx} {k : Nat} {f : Addr} {fd : FuncData} {ps : List Str} {sp : Addr → Value → Option Addr → Sp} {xh : Addr} {oh : Obj} {x : Str} {p pos : Pos} {e : Expr} {es : List Expr} {t : L2.TA} (G : FnB X.prog X.w X.K X.mg X.base k f fd ps sp) (hr : L2H.RoomH k X.A) (hg : HotG X xh oh) {cls : Value} {dd : Option Addr} (hcl : oh.cls = cls) (hdd : oh.dict = dd) (gl : Gl X x) (hm : X.mg x = some (.ref f)) (hk : PySem.W.keepIn X.K (.ref f) = true) (hb : Binds X.K fd ps [])
    (ha : PA X (e :: es) t) (hdb : (x == ("__debug__" : Str)) = false := by decide) (he : starEach (e :: es) X.env = (false, eval e X.env) :: starEach es X.env := by rfl) (hpl : (backTo pos (starEach es X.env)).any (·.1) = false := by rfl) :
    PE X (.Call (.Name x p) (e :: es) [] pos) (tCallG sp xh cls dd ps.length t) := by
  subst hcl hdd
  refine ⟨fun pins s σ H Q I y => ?_⟩
  refine wpAny_Call_Name_kw (ld_glob I gl hm (PySem.W.callWith_K (h₀ := X.base) I.ok.mod.kin hk (thn (ha.run pos pins s σ H _ I y) fun us s1 ⟨vs, H1, I1, r, q⟩ => ⟨I1.kIn, ?_⟩) he hpl) hdb)
  obtain ⟨hl, q⟩ := q
  have hu : us.length = ps.length := by rw [← r.length, hl]
  have hbb : BindsTo s1 fd ⟨us, []⟩ (ps.zip us) := by
    have z := hb s1 us I1.kIn (by rw [List.append_nil]; exact hu)
    rw [List.append_nil] at z
    exact z
  refine wpAny_call (codeAny_mono (G X.A X.stack s1 H1 ⟨us, []⟩ us vs Q xh oh hr (hg.p I1) I1.env0 hbb r hl q) fun rs s' hq => ?_)
  cases rs with
  | error e => exact False.elim hq
  | ok fl =>
    cases fl with
    | ret u => exact I1.after hq
    | next => exact False.elim hq
    | brk => exact False.elim hq
    | cont => exact False.elim hq
/-! ### exceptions in flight whose context stands on the ground (raise .. from None leaves the handled one there) -/
namespace L2C
open PySem.Spec PyProof.Rows L2
def Zx (B : Heap) (H : Hp) (cls : Value) (d : Option Addr) : Obj → Prop := fun o => o.cls = cls ∧ o.dict = d ∧ ∀ vs : Array Value, o.data = .fields vs → HotY.Ctx2 (fun y oy => B.get? y = some oy ∧ H y = none) vs[2]?
theorem fld2 {o : Obj} {v : Value} {vs : Array Value} (e : (o.mapFields (·.setIfInBounds 1 v)).data = .fields vs) : ∃ vs0 : Array Value, o.data = .fields vs0 ∧ vs[2]? = vs0[2]? := by
  obtain ⟨c, d, dt, sl⟩ := o
  cases dt with
  | fields vs0 =>
    have e2 : vs0.setIfInBounds 1 v = vs := Data.fields.inj e
    refine ⟨vs0, rfl, ?_⟩
    rw [← e2]
    first
    | exact Array.getElem?_setIfInBounds_ne (by decide)
    | simp [Array.getElem?_setIfInBounds]
  | _ =>
    first
    | exact Data.noConfusion e
    | cases e
theorem Zx.steady {B : Heap} {H : Hp} {cls : Value} {d : Option Addr} : PXN.Steady1 (Zx B H cls d) := fun o v h => ⟨PXN.steady_cls o v h.1, PXN.steady_dict o v h.2.1, fun vs e => by
  obtain ⟨vs0, e0, e2⟩ := fld2 e
  rw [e2]
  exact h.2.2 vs0 e0⟩
theorem zx_ofN {B : Heap} {H : Hp} {cls : Value} {d : Option Addr} {o : Obj} (h : L2N.Zn cls d o) : Zx B H cls d o := ⟨h.1, h.2.1, fun vs e => .inl (h.2.2 vs e)⟩
theorem traced_imp {h B : Heap} {a : Addr} {Z Z' : Obj → Prop} {fl : Value} (z : ∀ o, Z o → Z' o) (x : HandSPX.TracedZ h B a Z fl) : HandSPX.TracedZ h B a Z' fl := by
  obtain ⟨oe, vs, T, oT, ts, he, hz, r⟩ := x
  exact ⟨oe, vs, T, oT, ts, he, z _ hz, r⟩
theorem sky_imp {B : Heap} {l : List Env} {a L : Addr} {Z Z' : Obj → Prop} {h : Heap} (z : ∀ o, Z o → Z' o) (x : Sky B l a Z L h) : Sky B l a Z' L h := by
  rcases x with ⟨x1, x2, x3, oe, vs, x4, x5, x6⟩ | ⟨x1, x2, x3, x4⟩ | ⟨x1, x2, x3, x4⟩
  · exact .inl ⟨x1, x2, x3, oe, vs, x4, z _ x5, x6⟩
  · exact .inr (.inl ⟨x1, x2, x3, traced_imp z x4⟩)
  · exact .inr (.inr ⟨x1, x2, x3, traced_imp z x4⟩)
/-- in the air of X -/
def XE (X : Cx) (W : WX) (u : Value) (s' : Shared) : Prop :=
  ∃ (a : Addr) (B : Heap) (sI : Shared) (pins : List (Addr × Obj)) (σ : L2.St) (H : Hp) (cls : Value) (d : Option Addr),
    u = .ref a ∧ Inv X pins σ H sI ∧ (∀ b o, sI.heap.get? b = some o → b ∉ frs X.stack → B.get? b = some o) ∧ sI.heap.UpToSlots s'.heap ∧ Sky B X.stack a (Zx B H cls d) X.env.locals s'.heap ∧ H a = none ∧ s'.os = sI.os ∧ AllBare s'.gens ∧ W cls d σ H
def Takes (X : Cx) (W : WX) : Prop := ∀ u s', XE X W u s' → X.xe u s'
theorem XE.ofN {X : Cx} {W : WX} {u : Value} {s' : Shared} (x : L2N.XE X W u s') : XE X W u s' := by
  obtain ⟨a, B, sI, pins, σ, H, cls, d, x1, x2, x3, x4, x5, r⟩ := x
  exact ⟨a, B, sI, pins, σ, H, cls, d, x1, x2, x3, x4, sky_imp (fun o => zx_ofN) x5, r⟩
theorem Takes.n {X : Cx} {W : WX} (t : Takes X W) : L2N.Takes X W := fun u s' x => t u s' (XE.ofN x)
/-- behind a call that let one out -/
def CX (P : Program) (w : World) (outer : List Env) (H : Hp) (s : Shared) (E : XK) (u : Value) (s' : Shared) : Prop :=
  ∃ (a : Addr) (B : Heap) (H' : Hp) (cls : Value) (d : Option Addr), u = .ref a ∧ HandSPX.FlyingZ B outer a (Zx B H' cls d) s'.heap ∧ HOk P w H' B ∧ UB (frs outer) H H' s.heap B s'.heap ∧ H' a = none ∧ s'.os = s.os ∧ AllBare s'.gens ∧ E cls d H'
theorem CX.ofN {P : Program} {w : World} {outer : List Env} {H : Hp} {s : Shared} {E : XK} {u : Value} {s' : Shared} (c : L2N.CX P w outer H s E u s') : CX P w outer H s E u s' := by
  obtain ⟨a, B, H', cls, d, e, ⟨f1, f2, f3, f4⟩, r⟩ := c
  exact ⟨a, B, H', cls, d, e, ⟨f1, f2, f3, traced_imp (fun o => zx_ofN) f4⟩, r⟩
/-- what lets out none but such as have no context may stand among those -/
theorem fn_up {P : Program} {w : World} {K : PySem.W.Frag} {mg : Str → Option Value} {base : Heap} {k : Nat} {f : Addr} {fd : FuncData} {ps : List Str} {sp : Sp} (F : FnOk P w K mg base (L2N.CX P w) k f fd ps sp) : FnOk P w K mg base (CX P w) k f fd ps sp :=
  ⟨F.len, fun A outer s H args us vs Q E hr e0 hb r hsp => codeAny_mono (F.run A outer s H args us vs Q E hr e0 hb r hsp) fun rs s' hq => by
    cases rs with
    | error e => exact CX.ofN hq
    | ok fl => cases fl <;> exact hq⟩
section
variable {X : Cx} {pins : List (Addr × Obj)} {σ : L2.St} {H : Hp} {s s' : Shared} {W : WX} {E : XK} {u : Value}
/-- what a call let out is in the caller's air: the ground and the callers' frames, taken for themselves, are a state of ours -/
theorem XE.of_call (I : Inv X pins σ H s) (hW : ∀ cls d H', E cls d H' → W cls d σ H') (c : CX X.prog X.w X.stack H s E u s') : XE X W u s' := by
  obtain ⟨a, B, H', cls, d, rfl, fl, hok, ub, na, os, ag, hE⟩ := c
  have up0 : B.StaysIn s'.heap := fl.1
  obtain ⟨G, yes, no⟩ := restrict s'.heap fun b => (B.get? b).isSome || decide (b ∈ frs X.stack)
  have inB : ∀ b o, B.get? b = some o → G.get? b = some o := fun b o e => (yes b (by rw [e]; rfl)).trans (up0 b o e)
  have inF : ∀ b, b ∈ frs X.stack → G.get? b = s'.heap.get? b := fun b m => yes b (by rw [decide_eq_true m, Bool.or_true])
  have back : ∀ b o, G.get? b = some o → s'.heap.get? b = some o := fun b o e => by
    cases q : ((B.get? b).isSome || decide (b ∈ frs X.stack)) with
    | true => exact (yes b q).symm.trans e
    | false => exact absurd ((no b q).symm.trans e) (by simp)
  have J : Inv X pins σ H' { s with heap := G, gens := s'.gens, drawn := s'.drawn, toks := s'.toks } :=
    I.call (ch := []) ⟨fun b o e n m _ => inB b o (ub.keep b o e n m), fun b o e _ m _ => (ub.slot b o e m).imp fun sl q => (inF b m).trans q, fun b o e n _ => ub.free b o e n, fun b o e _ => by
      by_cases m : b ∈ frs X.stack
      · obtain ⟨sl, q⟩ := ub.slot b o e m
        exact ⟨_, (inF b m).trans q⟩
      · obtain ⟨o', q⟩ := ub.there b o e m
        exact ⟨o', inB b o' q⟩, ub.tups, ub.frzs, ub.tbls⟩ (hok.kept inB) ag fun _ z => nomatch z
  refine ⟨a, B, _, pins, σ, H', cls, d, rfl, J, fun b o e m => ?_, Heap.UpToSlots.of_keeps back, .inr (.inl fl), na, os, ag, hW _ _ _ hE⟩
  cases q : B.get? b with
  | some o' => exact ((up0 b o' q).symm.trans (back b o e)) ▸ rfl
  | none =>
    have z := no b (by rw [q, decide_eq_false m]; rfl)
    exact absurd (z.symm.trans e) (by simp)
/-- it leaves the def -/
theorem XE.leave (hs : X.stack = X.env :: X.outer) (hf : X.env.frame = some X.env.locals) (hex : X.ex = []) {E₁ : Value → Shared → Prop} (x : XE X (fun cls d _ H => E cls d H) u s') :
    wpAny (model X.prog X.w) X.A (leaving X.env u) (fun _ s'' => CX X.prog X.w X.outer X.H_0 X.s_0 E u s'') E₁ s' := by
  obtain ⟨a, B, sI, pins, σ, H, cls, d, rfl, I, nb, up, sky, na, os, ag, w⟩ := x
  have fr : X.A.frames = some (X.env :: X.outer) := by rw [I.ok.frames, hs]
  have noex : ∀ b, b ∉ X.ex := fun b m => by rw [hex] at m; exact nomatch m
  have offs : ∀ b o, X.s_0.heap.get? b = some o → b ∉ X.fs → b ∉ frs X.stack := fun b o e n m => (List.mem_cons.mp (I.stkSub b m)).elim (fun z => by
    have h1 := Heap.lt_size e
    have h2 := I.ok.above
    rw [z] at h1
    exact absurd (Nat.lt_of_lt_of_le h1 h2) (Nat.lt_irrefl _)) n
  have ground := I.inGround nb
  have done : ∀ g, HandSPX.FlyingZ B X.outer a (Zx B H cls d) g → s'.heap.UpToSlots g → CX X.prog X.w X.outer X.H_0 X.s_0 E (.ref a) { s' with heap := g } := fun g fl up' =>
    ⟨a, B, H, cls, d, rfl, fl, ground, ⟨fun b o e n m => nb b o (I.base.keep b o e n m (noex b)) (offs b o e m), fun b o e m => by
      obtain ⟨_, o₀, e₀, nf⟩ := I.ok.funs.mem m
      rw [e] at e₀
      cases e₀
      obtain ⟨_, y1⟩ := I.base.slot b o e (I.ok.frf b m) m (noex b)
      obtain ⟨_, y2⟩ := up b _ y1 nf
      obtain ⟨sl3, y3⟩ := up' b _ y2 nf
      exact ⟨sl3, y3⟩, fun b o e n => I.base.free b o e n (noex b), fun b o e m => (I.base.there b o e (noex b)).imp fun o' y => nb b o' y (offs b o e m), I.base.tups, I.base.frzs, I.base.tbls⟩, na, os.trans I.os, ag, w⟩
  rw [hs] at sky
  rcases sky with ⟨y1, y2, y3, oe, vs, y4, y5, y6, y7⟩ | fl | hd
  · exact PXN.leaving_firstZ Zx.steady fr y3 hf y4 y1 y2 y6 y7 y5 done
  · exact PXN.leaves_onZ Zx.steady fr hf fl done
  · exact HandSPX.leaves_heldZ hf hd done
theorem takes_of (hs : X.stack = X.env :: X.outer) (hf : X.env.frame = some X.env.locals) (hex : X.ex = []) {E₁ : Value → Shared → Prop}
    (hx : X.xe = fun e s' => wpAny (model X.prog X.w) X.A (leaving X.env e) (fun _ s'' => CX X.prog X.w X.outer X.H_0 X.s_0 E e s'') E₁ s') : Takes X (fun cls d _ H => E cls d H) := fun u s' x => by
  rw [hx]
  exact XE.leave hs hf hex x
theorem passes (tk : Takes X (fun cls d _ H => E cls d H)) : Passes (CX X.prog X.w) X E := fun _ _ _ _ _ _ I c => tk _ _ (XE.of_call I (fun _ _ _ h => h) c)
theorem passesN (tk : Takes X (fun cls d _ H => E cls d H)) : Passes (L2N.CX X.prog X.w) X E := fun _ _ _ _ _ _ I c => tk _ _ (XE.of_call I (fun _ _ _ h => h) (CX.ofN c))
end
/-- of a caught one: its context is None or stands among the pins -/
def CtxP (pn : List (Addr × Obj)) (o : Obj) : Prop := ∃ vs : Array Value, o.data = .fields vs ∧ HotY.Ctx2 (fun y oy => (y, oy) ∈ pn) vs[2]?
/-- try: .. except C as e: of a clause that names all that may come -/
theorem ps_try_as {X : Cx} {x n : Str} {c : Value} {i : Nat} {body suite : List Stmt} {b₀ : Stmt} {np pos pos' : Pos} {tb : WX → TS} {ts : Addr → Value → Option Addr → TS} (hs : X.stack = X.env :: X.outer) (hf : X.env.frame = some X.env.locals) (hN : X.N.Nodup) (hi : X.N[i]? = some n) (hln : X.env.kindOf n = some .local) (hc : Names X x c)
    (hb : ∀ (W : WX) (pn : List (Addr × Obj)) (xe : Value → Shared → Prop), Takes (X.tr pn xe) W → PassesOwn (model X.prog X.w) X.A X.env xe → PSs (X.tr pn xe) body (tb W))
    (hsu : ∀ (a : Addr) (oe : Obj) (cls : Value) (d : Option Addr) (pn : List (Addr × Obj)), oe.cls = cls → oe.dict = d → CtxP pn oe → PSs (X.suite a ((a, oe) :: pn)) (b₀ :: suite) (ts a cls d)) :
    PS X (.Try body [.ExceptHandler (some (.Name x np)) (some n) (b₀ :: suite) pos'] [] [] pos) (fun D σ H => tb (wAs X.K c i ts (fun _ _ _ _ => False) D) D σ H) := by
  refine ⟨fun pins s σ H D I h => ?_⟩
  have ok := I.ok
  have fr : X.A.frames = some (X.env :: X.outer) := by rw [ok.frames, hs]
  refine wpAny_Try_except (wpAny_mono ((hb (wAs X.K c i ts (fun _ _ _ _ => False) D) (X.pn ++ pins) (fun e s₁ => wpAny (model X.prog X.w) X.A (noteFrame e X.env) (fun _ s₂ => wpAny (model X.prog X.w) X.A (setFlight e none) (fun _ s₃ => wpAny (model X.prog X.w) X.A (handleBy e X.env [.ExceptHandler (some (.Name x np)) (some n) (b₀ :: suite) pos']) (SP X pins D) X.xe s₃) X.xe s₂) X.xe s₁) (fun u s' xx => ?_) PassesOwn.looking).run [] s σ H D (I.toTry _) h) (fun f s1 hsp => ?_) fun e s1 he => he)
  · obtain ⟨a, B, sI, _, σ', H', cls, d, rfl, JT, nb, up, sky, na, os, ag, b, hm, hyes, hno⟩ := xx
    obtain rfl : b = true := by
      cases b with
      | true => rfl
      | false => exact (hno rfl).elim
    have J : Inv X pins σ' H' sI := JT.ofTry ok
    show wpAny (model X.prog X.w) X.A (noteFrame (.ref a) X.env) _ _ _
    refine L2N.Sky.land Zx.steady fr hf (show Sky B (X.env :: X.outer) a (Zx B H' cls d) X.env.locals s'.heap by rw [← hs]; exact sky) fun g1 fl1 up1 => ?_
    obtain ⟨o1, w1, eo1, z1, d1⟩ := fl1.there
    have offF : ∀ {B2 h2 : Heap} {o2 : Obj} {w2 : Array Value} {a2 : Addr}, h2.FunFrames B2 (X.env :: X.outer) → h2.get? a2 = some o2 → o2.data = .fields w2 → a2 ∉ frs (X.env :: X.outer) := fun ff eq dq hq => by
      obtain ⟨_, o', e', hd'⟩ := ff.mem hq
      rw [eq] at e'
      cases e'
      exact hd' _ dq
    have offL : ∀ {b : Addr}, b ∉ frs (X.env :: X.outer) → b ≠ X.env.locals := fun off z => off (List.mem_filterMap.mpr ⟨X.env, List.mem_cons_self, by rw [hf, z]⟩)
    have offS : ∀ {b : Addr}, b ∉ frs (X.env :: X.outer) → b ∉ X.fs := fun off hq => by
      obtain ⟨e, he, hq⟩ := List.mem_filterMap.mp hq
      exact off (List.mem_filterMap.mpr ⟨e, List.mem_cons_of_mem _ he, hq⟩)
    have off := offF fl1.2.2.1 eo1 d1
    have J1 : Inv X pins σ' H' { s' with heap := g1 } := J.landed nb fl1.1 (up.trans up1) os ag
    have LT : PySem.W.Looks (model X.prog X.w) g1 (typeOf (.ref a)) cls := fun A Q E s k q => wpAny_typeOf_ref (k _ _ eo1) (by rw [z1.1]; exact q)
    refine wpAny_handleBy_cons (codeAny_handlers_test ?_) (by intro q; cases q)
    have test : ∀ {Q : Value → Shared → Prop} {E : Value → Shared → Prop}, Q c { s' with heap := g1 } → wpAny (model X.prog X.w) (X.A.mark (some (.ref a))) (eval (.Name x np) X.env) Q E { s' with heap := g1 } := fun {Q E} q => by
      have S1 := J1.suite eo1 d1 na (offL off) (offS off)
      obtain ⟨hg, hdbg, hm | ⟨hm, hv, hnn⟩⟩ := hc
      · exact ld_glob (X := X.suite a ((a, o1) :: (X.pn ++ pins))) S1 hg hm q hdbg
      · exact ld_blt (X := X.suite a ((a, o1) :: (X.pn ++ pins))) S1 hg hm hv q hnn hdbg
    refine test ((PySem.W.exm_one (M := model X.prog X.w) J1.kIn LT hm).here ?_)
    refine codeAny_handlers_suite_as (HandSPX.lands_againZ fl1 fun g2 fl2 up2 => ?_)
    obtain ⟨o2, w2, eo2, z2, d2⟩ := fl2.there
    have J2 : Inv X pins σ' H' { s' with heap := g2 } := J.landed nb fl2.1 ((up.trans up1).trans up2) os ag
    -- the context joins the pins
    obtain ⟨pl, cx, hpl⟩ : ∃ pl : List (Addr × Obj), HotY.Ctx2 (fun y oy => (y, oy) ∈ pl) w2[2]? ∧ ∀ p ∈ pl, g2.get? p.1 = some p.2 ∧ H' p.1 = none ∧ ∃ vy : Array Value, p.2.data = .fields vy := by
      rcases z2.2.2 w2 d2 with c0 | ⟨y, oy, vy, c0, ⟨by1, hy⟩, dy, cy⟩
      · exact ⟨[], .inl c0, fun _ m => nomatch m⟩
      · refine ⟨[(y, oy)], .inr ⟨y, oy, vy, c0, List.mem_singleton.mpr rfl, dy, cy⟩, fun p m => ?_⟩
        obtain rfl := List.mem_singleton.mp m
        exact ⟨fl2.1 y oy by1, hy, vy, dy⟩
    have J3 : Inv X (pl ++ pins) σ' H' { s' with heap := g2 } := J2.pins_of fun p m => by
      rcases List.mem_append.mp m with m | m
      · obtain ⟨q1, q2, vy, q3⟩ := hpl p m
        have o' := offF (h2 := g2) fl2.2.2.1 q1 q3
        exact ⟨q1, q2, offL o', offS o', fun v z => by rw [q3] at z; cases z⟩
      · exact J2.pin p (List.mem_append_right _ m)
    have S3 := J3.suite eo2 d2 na (offL off) (offS off)
    have wk : ∀ {σ6 : L2.St} {H6 : Hp} {s6 : Shared}, Inv (X.suite a ((a, o2) :: (X.pn ++ (pl ++ pins)))) [] σ6 H6 s6 → Inv X pins σ6 H6 s6 := fun S6 => (S6.unsuite ok).pins_of fun p m => (S6.unsuite ok).pin p (List.mem_append_right _ (List.mem_append_right _ m))
    refine store_ok (X := X.suite a ((a, o2) :: (X.pn ++ (pl ++ pins)))) (v := .ref a) S3 hN hi (.inl hln) rfl (fun s5 S5 => ?_) (.inr hln)
    refine wpAny_mono ((hsu a o2 cls d (X.pn ++ (pl ++ pins)) z2.1 z2.2.1 ⟨w2, d2, cx.imp fun y oy m _ => List.mem_append_right _ (List.mem_append_left _ m)⟩).run [] s5 _ H' _ S5 (hyes rfl a na)) (fun f s6 hq => ?_) fun _ _ z => False.elim z
    cases f with
    | next =>
      obtain ⟨σ6, H6, S6, q6⟩ := hq
      exact gone_ok (wk S6) hN hi hln fun s7 J7 => ⟨_, _, J7, q6⟩
    | brk =>
      obtain ⟨σ6, H6, S6, q6⟩ := hq
      exact gone_ok (wk S6) hN hi hln fun s7 J7 => ⟨_, _, J7, q6⟩
    | cont =>
      obtain ⟨σ6, H6, S6, q6⟩ := hq
      exact gone_ok (wk S6) hN hi hln fun s7 J7 => ⟨_, _, J7, q6⟩
    | ret u =>
      obtain ⟨v6, σ6, H6, S6, r6, q6⟩ := hq
      exact gone_ok (wk S6) hN hi hln fun s7 J7 => ⟨_, _, _, J7, r6, q6⟩
  · cases f with
    | next => exact hsp.elim fun σ6 y => y.elim fun H6 y => wpAny_execs_nil ⟨σ6, H6, y.1.ofTry ok, y.2⟩
    | brk => exact hsp.elim fun σ6 y => y.elim fun H6 y => ⟨σ6, H6, y.1.ofTry ok, y.2⟩
    | cont => exact hsp.elim fun σ6 y => y.elim fun H6 y => ⟨σ6, H6, y.1.ofTry ok, y.2⟩
    | ret u => exact hsp.elim fun v6 y => y.elim fun σ6 y => y.elim fun H6 y => ⟨v6, σ6, H6, y.1.ofTry ok, y.2⟩
end L2C
/-! ### a lambda without parameters handed to a def, its errors told with their context -/
def lamCxN (X : Cx) (A : Around) (outer : List Env) (s : Shared) (H : Hp) (E : XK) (scope : Scope) (f c : Addr) : Cx :=
  (LamX.lamCx X A outer s H E scope f c).wish fun e s' => wpAny (model X.prog X.w) (A.deeper (LamX.lamEnv X scope s.heap.objs.size f c)) (leaving (LamX.lamEnv X scope s.heap.objs.size f c) e) (fun _ s2 => L2C.CX X.prog X.w outer H s E e s2) (fun e2 s2 => L2C.CX X.prog X.w outer H s E e2 s2) s'
theorem pe_actN {X : Cx} {pins : List (Addr × Obj)} {σ : L2.St} {H : Hp} {s : Shared} {CXg : CXT} {Eg : XK} {Ng : List Str} {qg : Str} {sg : Scope} {g f c : Addr} {cdg pm ctv : Value} {params : Arguments} {body : Expr} {scope : Scope} {k i : Nat} {a : Str} {pn : List (Addr × Obj)} {xe : Value → Shared → Prop} {W : WX} {E : L2.St → XK} {tb : XK → TE} {p1 p2 : Pos}
    (I : Inv X pins σ H s) (L : LamX.LamS X.env.scope scope) (hf : s.heap.get? f = some (PySem.W.kla_obj "<lambda>" (X.env.qual ++ "<lambda>") params body scope (cloFrom X.env.cells scope.names []) pm c ctv)) (hfn : H f = none) (hfr : f ∉ frs X.stack)
    (hbind : bindArgs (PySem.W.kla_fn "<lambda>" (X.env.qual ++ "<lambda>") params body scope (cloFrom X.env.cells scope.names []) pm (.ref c) ctv) ⟨[], []⟩ = pure [])
    (tk : L2C.Takes ((cxOf CXg X.prog X.w X.K X.mg X.base Ng qg sg g cdg X.A X.stack s H Eg).tr pn xe) W) (hW : ∀ cls d σ2 H2, E σ2 cls d H2 → W cls d σ2 H2) (hr : Room (k + 1) (X.A.deeper (envOfC qg sg s.heap.objs.size g cdg)))
    (hbody : ∀ (A : Around) (outer : List Env) (s : Shared) (H : Hp) (E : XK), Room k (A.deeper (LamX.lamEnv X scope s.heap.objs.size f c)) → PE (lamCxN X A outer s H E scope f c) body (tb E))
    (hN : Ng[i]? = some a) (hv : Vis sg a) (hd : (a == ("__debug__" : Str)) = false := by decide) (hcd : (a == ("__classdict__" : Str)) = false := by decide) :
    PE ((cxOf CXg X.prog X.w X.K X.mg X.base Ng qg sg g cdg X.A X.stack s H Eg).tr pn xe) (.Call (.Name a p1) [] [] p2) (fun σZ HZ Q => σZ[i]? = some (some (.ref f)) ∧ HZ c = some (LamX.CodeO c (X.env.qual ++ "<lambda>")) ∧ tb (E σZ) σ HZ Q) := by
  refine ⟨fun pz sz σz Hz Q Iz ⟨hs, hc, y⟩ => ?_⟩
  refine wpAny_Call_Name_kw (thn ((pe_var (pos := p1) (i := i) hN hv hd hcd).run pz sz σz Hz (fun v H1 => v = .ref f ∧ H1 = Hz) Iz ⟨.ref f, hs, rfl, rfl⟩) fun u s1 ⟨v, H1, I1, r1, ev, eH⟩ => ?_)
  subst ev eH
  cases (show u = Value.ref f from r1)
  have of1 := I1.base.keep f _ hf hfn hfr (fun z => nomatch (show f ∈ ([] : List Addr) from z))
  refine PySem.W.callWith_F0 ⟨_, _, _, _, of1⟩ ?_
  obtain ⟨⟨oc, vs, t, hoc, hdc, hvc⟩, _, _⟩ := I1.hok c _ hc
  have run : codeAny (model X.prog X.w) (X.A.deeper (envOfC qg sg s.heap.objs.size g cdg)) (.call (.ref f) ⟨[], []⟩) (CR (L2C.CX X.prog X.w) (envOfC qg sg s.heap.objs.size g cdg :: X.stack) X.prog X.w H1 s1 Q (E σz)) s1 := by
    refine PySem.W.kla_callFunE hr.depth of1 rfl L.co L.gen rfl ⟨c, oc, vs, t, rfl, hoc, hdc, hvc⟩ ?_
    rw [hbind]
    refine wpAny_pure (wpAny_newFunctionEnv (fun y hy => (L.own y hy).2) (fun y hy => absurd hy (by simp)) (fun g1 hns hsb => ⟨I1.nolimit.fresh _ hsb, ?_⟩) L.kind)
    have kp : ∀ b o, s1.heap.get? b = some o → g1.get? b = some o := fun b o e => hsb.extBut b o (Nat.ne_of_lt (Heap.lt_size e)) (Heap.get?_push_of_some _ e)
    have J := LamX.lam_start2 (E := E σz) (f := f) (c' := c) (tk := s1.toks + ([] : List (Str × Value)).length) I L I1.env0 hr.hd I1.base hns kp
    refine PySem.W.kla_codeExpr (wpAny_mono ((hbody _ _ s1 H1 (E σz) (hr.deeper _)).run [] _ _ H1 Q (J.wish _) y) (fun v s3 ⟨w3, H3, J3, rv, q⟩ => ⟨w3, H3, J3.os, J3.bare, J3.base, J3.hok, rv, q⟩) fun e s3 z => z)
  refine wpAny_call (codeAny_mono run fun rs s2 hq => ?_)
  cases rs with
  | error e => exact tk e s2 (L2C.XE.of_call I1 (fun cls d H' h => hW cls d σz H' h) hq)
  | ok fl =>
    cases fl with
    | ret u => exact I1.after hq
    | next => exact False.elim hq
    | brk => exact False.elim hq
    | cont => exact False.elim hq
/-- the def that calls what it got; TT: what it makes of the lambda's reading -/
def GivesN (X : Cx) (Ng : List Str) (x : Str) (sg : Scope) (g : Addr) (cdg : Value) (bg : List Stmt) (a q : Str) (TT : (XK → Hp → VK → Prop) → Hp → VK → Prop) : Prop :=
  ∀ (k : Nat) (f c : Addr) (s : Shared) (H : Hp) (Q : VK) (tl : XK → Hp → VK → Prop), Room k (X.A.deeper (envOfC x sg s.heap.objs.size g cdg)) → 40 ≤ k →
    (∀ (W : WX) (pn : List (Addr × Obj)) (xe : Value → Shared → Prop) (E : L2.St → XK) (p1 p2 : Pos), L2C.Takes ((cxOf CX0 X.prog X.w X.K X.mg X.base Ng x sg g cdg X.A X.stack s H E0).tr pn xe) W → (∀ cls d σ2 H2, E σ2 cls d H2 → W cls d σ2 H2) →
      PE ((cxOf CX0 X.prog X.w X.K X.mg X.base Ng x sg g cdg X.A X.stack s H E0).tr pn xe) (.Call (.Name a p1) [] [] p2) (fun σZ HZ Q => σZ[0]? = some (some (.ref f)) ∧ HZ c = some (LamX.CodeO c q) ∧ tl (E σZ) HZ Q)) →
    H c = some (LamX.CodeO c q) → TT tl H Q →
    ∃ t, PSs (cxOf CX0 X.prog X.w X.K X.mg X.base Ng x sg g cdg X.A X.stack s H E0).nox bg t ∧ t { nx := fun _ H' => Q .non H', rt := Q } (L2.start Ng [.ref f]) H
theorem pe_lamN {X : Cx} {T : List (Addr × Str)} {TT : (XK → Hp → VK → Prop) → Hp → VK → Prop} {x a : Str} {g c P : Addr} {k : Nat} {pg : Arguments} {bg : List Stmt} {sg : Scope} {dV kV doc pm cdv ct oc : Value} {an od : Option Addr} {osl : Array (Option Value)} {Ng : List Str}
    {params : Arguments} {body : Expr} {scope : Scope} {t : XK → TE} {p lpos pos : Pos} (hg : Gl X x) (hm : X.mg x = some (.ref g)) (hk : PySem.W.keepIn X.K (.ref g) = true)
    (lk : X.K.lookup g = some ⟨oc, od, .func (PySem.W.fnOf x x pg bg sg dV kV doc pm an cdv ct), osl⟩) (hcg : PySem.W.codeIn X.K cdv x = true) (hb : Binds X.K (PySem.W.fnOf x x pg bg sg dV kV doc pm an cdv ct) [a] []) (Sg : FnScope Ng [a] sg) (hNg : Ng[0]? = some a) (hva : Vis sg a)
    (hG : GivesN X Ng x sg g cdv bg a (X.env.qual ++ "<lambda>") TT) (TB : LamX.TabB X.base X.mg c P) (hcode : X.env.code = .ref c) (hmT : (P, X.env.qual ++ "<lambda>") ∈ T) (hu : ∀ p ∈ T, p.1 = P → p.2 = X.env.qual ++ "<lambda>") (hr : Room (k + 2) X.A) (k40 : 40 ≤ k + 1) (L : LamX.LamS X.env.scope scope) (hdef : defaultsOf params X.env = ([], []))
    (hbind : ∀ (q : Str) (cl : List (Str × Addr)) (pm cv ctv : Value), bindArgs (PySem.W.kla_fn "<lambda>" q params body scope cl pm cv ctv) ⟨[], []⟩ = pure [])
    (hbody : ∀ (A : Around) (outer : List Env) (s : Shared) (H : Hp) (E : XK) (f c2 : Addr), Room k (A.deeper (LamX.lamEnv X scope s.heap.objs.size f c2)) → PE (lamCxN X A outer s H E scope f c2) body (t E))
    (hdb : (x == ("__debug__" : Str)) = false := by decide) (hd : (a == ("__debug__" : Str)) = false := by decide) (hcd : (a == ("__classdict__" : Str)) = false := by decide) :
    PE X (.Call (.Name x p) [.Lambda params body scope lpos] [] pos) (LamX.tLam T TT t) := by
  refine ⟨fun pins s σ H Q I ⟨hT, y⟩ => ?_⟩
  refine wpAny_Call_Name_kw (ld_glob I hg hm (PySem.W.callWith_K (h₀ := X.base) I.ok.mod.kin hk ?_ (by rfl) (by rfl)) hdb)
  show wpAny _ _ (spliced ((false, eval (.Lambda params body scope lpos) X.env) :: backTo pos (starEach [] X.env))) _ _ s
  refine Calls.spliced_cons (LamX.lam_make2 I TB hcode hmT hu hT hdef (L.has I.ok) fun f c2 pm2 ctv H1 s1 I1 eN T1 hf hfn hfr hco => Calls.spliced_nil ⟨I1.kIn, ?_⟩)
  have run : codeAny (model X.prog X.w) X.A (.call (.ref g) ⟨[.ref f], []⟩) (CR CX0 X.stack X.prog X.w H1 s1 Q E0) s1 := by
    refine LamX.run_ofS (N := Ng) (ps := [a]) (us := [.ref f]) (vs := [.ref f]) lk hcg Sg hr I1.env0 (hb s1 [.ref f] I1.kIn rfl) (.cons rfl .nil) rfl fun hr2 => ?_
    obtain ⟨t2, ht2, hq2⟩ := hG _ f c2 s1 H1 Q (fun E H' Q' => t E σ H' Q') hr2 k40 (fun W pn xe E p1 p2 tk hW => pe_actN (i := 0) I1 L hf hfn hfr (hbind _ _ _ _ _) tk hW hr2 (fun A outer s H E hr3 => hbody A outer s H E f c2 hr3) hNg hva hd hcd) hco (y H1 eN T1)
    exact ⟨t2, ht2.nox, hq2⟩
  refine wpAny_call (codeAny_mono run fun rs s2 hq => ?_)
  cases rs with
  | error e => exact (show False from hq).elim
  | ok fl =>
    cases fl with
    | ret u => exact I1.after hq
    | next => exact False.elim hq
    | brk => exact False.elim hq
    | cont => exact False.elim hq
/-! ### try: return ('value', ask()) / except TermError as e: the error's word and field -/
/-- a class that TermError names -/
structure Wd (K : PySem.W.Frag) (CT D : Addr) (dd : Option Addr) : Prop where
  exc : ExcC K D
  nod : dd = none
  mat : PySem.W.exmOne K (.ref D) (.ref CT) = some true
def spName (K : PySem.W.Frag) (CT : Addr) (word : Addr → Option Str) : Addr → Value → Option Addr → Sp := fun xh cls dd vs H Q _ => ∃ (D : Addr) (nm : Str), cls = .ref D ∧ Wd K CT D dd ∧ word D = some nm ∧ vs = [.ref xh] ∧ ∀ H', Same H H' → Q (.str nm) H'
def spField (word : Addr → Option Str) (fld : Addr → Option Addr → Hp → V → Prop) : Addr → Value → Option Addr → Sp := fun xh cls dd vs H Q _ => ∃ (D : Addr) (nm : Str) (v : V), cls = .ref D ∧ word D = some nm ∧ fld D dd H v ∧ vs = [.ref xh, .str nm] ∧ ∀ H', Same H H' → Q v H'
def tSuite (K : PySem.W.Frag) (CT : Addr) (word : Addr → Option Str) (fld : Addr → Option Addr → Hp → V → Prop) (a : Addr) (cls : Value) (d : Option Addr) : TS :=
  tSeq (tAsg (tCallG (spName K CT word) a cls d 1 (tCons (tVar 1) tNil)) (gName 2)) (tRet (tTup (tCons (tVar 2) (tCons (tCallG (spField word fld) a cls d 2 (tCons (tVar 1) (tCons (tVar 2) tNil))) tNil))))
def TTry (K : PySem.W.Frag) (CT : Addr) (word : Addr → Option Str) (fld : Addr → Option Addr → Hp → V → Prop) : (XK → Hp → VK → Prop) → Hp → VK → Prop := fun tl H Q =>
  ∀ f : Addr, tl (fun cls d H2 => wAs K (.ref CT) 1 (tSuite K CT word fld) (fun _ _ _ _ => False) { nx := fun _ H' => Q .non H', rt := Q } cls d [some (.ref f), none, none] H2) H
    (fun v H' => 2 ≤ sizeLine ∧ ∀ p, H' p = none → Q (.ref p) (upd H' p (.tup [.str ("value" : Str), v])))
theorem wTry {K : PySem.W.Frag} {CT : Addr} {word : Addr → Option Str} {fld : Addr → Option Addr → Hp → V → Prop} {Q : VK} {n : L2.St → Hp → Prop} {cls : Value} {dd : Option Addr} {f D : Addr} {nm : Str} {v : V} {H' : Hp}
    (hst : ∀ D dd H H' v, Same H H' → fld D dd H v → fld D dd H' v) (e : cls = .ref D) (hw : Wd K CT D dd) (ew : word D = some nm) (hf : fld D dd H' v) (h : ∀ (p : Addr) (H2 : Hp), Same H' H2 → H2 p = none → Q (.ref p) (upd H2 p (.tup [.str nm, v]))) :
    wAs K (.ref CT) 1 (tSuite K CT word fld) (fun _ _ _ _ => False) { nx := n, rt := Q } cls dd [some (.ref f), none, none] H' := by
  subst e
  refine ⟨true, hw.mat, fun _ a _ => ?_, fun z => nomatch z⟩
  refine ⟨_, rfl, rfl, D, nm, rfl, hw, ew, rfl, fun H1 k1 => ?_⟩
  refine ⟨_, rfl, _, rfl, _, rfl, rfl, D, nm, v, rfl, ew, hst _ _ _ _ _ k1 hf, rfl, fun H2 k2 => ⟨by show 2 ≤ sizeLine; decide, fun p hp => h p H2 (k1.trans k2) hp⟩⟩
theorem try_gives {X : Cx} {x q : Str} {sg : Scope} {g CT fN fF : Addr} {cdg : Value} {fdN fdF : FuncData} {word : Addr → Option Str} {fld : Addr → Option Addr → Hp → V → Prop} {j1 n1 n2 : Nat} {q1 q2 q3 q4 q5 q6 q7 q8 q9 p1 p2 p3 p4 p5 p6 p7 p8 p9 q10 q11 : Pos}
    (s0 : sg.names.lookup ("_law_ask" : Str) = some .local) (s1 : sg.names.lookup ("_law_e" : Str) = some .local) (s2 : sg.names.lookup ("_law_word" : Str) = some .local) (g1 : sg.names.lookup ("TermError" : Str) = some .globalImplicit) (g2 : sg.names.lookup ("_law_error_name" : Str) = some .globalImplicit) (g3 : sg.names.lookup ("_law_error_field" : Str) = some .globalImplicit)
    (mT : X.mg ("TermError" : Str) = some (.ref CT)) (mN : X.mg ("_law_error_name" : Str) = some (.ref fN)) (mF : X.mg ("_law_error_field" : Str) = some (.ref fF)) (kN : PySem.W.keepIn X.K (.ref fN) = true) (kF : PySem.W.keepIn X.K (.ref fF) = true) (bN : Binds X.K fdN [("_law_e" : Str)] []) (bF : Binds X.K fdF [("_law_e" : Str), "_law_word"] [])
    (GN : FnB X.prog X.w X.K X.mg X.base 3 fN fdN [("_law_e" : Str)] (spName X.K CT word)) (GF : FnB X.prog X.w X.K X.mg X.base 3 fF fdF [("_law_e" : Str), "_law_word"] (spField word fld)) :
    GivesN X [("_law_ask" : Str), "_law_e", "_law_word"] x sg g cdg [.Try [.Return (some (.Tuple [.Constant (.str ("value" : Str)) j1 p1, .Call (.Name ("_law_ask" : Str) p2) [] [] p3] n1 p4)) p5] [.ExceptHandler (some (.Name ("TermError" : Str) p6)) (some ("_law_e" : Str)) [.Assign [.Name ("_law_word" : Str) q1] (.Call (.Name ("_law_error_name" : Str) q2) [.Name ("_law_e" : Str) q3] [] q4) q5, .Return (some (.Tuple [.Name ("_law_word" : Str) q6, .Call (.Name ("_law_error_field" : Str) q7) [.Name ("_law_e" : Str) q8, .Name ("_law_word" : Str) q9] [] p7] n2 p8)) p9] q10] [] [] q11] ("_law_ask" : Str) q (TTry X.K CT word fld) := by
  intro k f c s H Q tl hr k40 act hc y
  have hr3 := hr.mono (show 3 ≤ k by omega)
  have nd : ([("_law_ask" : Str), "_law_e", "_law_word"] : List Str).Nodup := by decide +kernel
  refine ⟨_, pss_one (L2C.ps_try_as (i := 1) (c := .ref CT) (tb := fun W => tRet (tTup (tCons (tC (.str ("value" : Str))) (tCons (fun σZ HZ Q => σZ[0]? = some (some (.ref f)) ∧ HZ c = some (LamX.CodeO c q) ∧ tl (fun cls d H2 => W cls d σZ H2) HZ Q) tNil))))
    (ts := tSuite X.K CT word fld) rfl rfl nd rfl s1 ⟨g1, by decide +kernel, .inl mT⟩
    (fun W pn xe tk _ => pss_one (ps_ret (pe_tup (pa_cons pe_str (pa_cons (act W pn xe (fun σ2 cls d H2 => W cls d σ2 H2) _ _ tk (fun _ _ _ _ h => h)) pa_nil)))))
    (fun a oe cls d pn hz1 hz2 hf => pss_cons (ps_set (i := 2) nd rfl (.inl s2) (by exact pe_callG (X := Cx.suite (cxOf CX0 X.prog X.w X.K X.mg X.base [("_law_ask" : Str), "_law_e", "_law_word"] x sg g cdg X.A X.stack s H E0).nox a ((a, oe) :: pn)) GN ⟨hr3.dp, hr3.un⟩ (hotG_suite2 hf) hz1 hz2 g2 mN kN bN (pa_cons (pe_var (i := 1) rfl (.inl s1)) pa_nil)))
      (pss_one (ps_ret (pe_tup (pa_cons (pe_var (i := 2) rfl (.inl s2)) (pa_cons (by exact pe_callG (X := Cx.suite (cxOf CX0 X.prog X.w X.K X.mg X.base [("_law_ask" : Str), "_law_e", "_law_word"] x sg g cdg X.A X.stack s H E0).nox a ((a, oe) :: pn)) GF ⟨hr3.dp, hr3.un⟩ (hotG_suite2 hf) hz1 hz2 g3 mF kF bF (pa_cons (pe_var (i := 1) rfl (.inl s1)) (pa_cons (pe_var (i := 2) rfl (.inl s2)) pa_nil))) pa_nil))))))), ?_⟩
  exact ⟨rfl, hc, y f⟩
section OPN
open PySem PySem.Spec PyProof.Rows
/-! ### an own exception whose __init__ says super().__init__(text), then self.f = x -/
/-- the context of such a body: its only cell is __class__'s, in the written part -/
def cxS (CX : CXT) (P : Program) (w : World) (K : PySem.W.Frag) (mg : Str → Option Value) (base : Heap) (N : List Str) (qual : Str) (scope : Scope) (f : Addr) (cd : Value) (cc : Addr) (A : Around) (outer : List Env) (s : Shared) (H : Hp) (E : XK) : Cx where
  prog := P
  w := w
  K := K
  mg := mg
  base := base
  A := A.deeper (PySem.W.ksEnv qual scope s.heap.objs.size f cd cc)
  N := N
  s_0 := s
  H_0 := H
  env := PySem.W.ksEnv qual scope s.heap.objs.size f cd cc
  outer := outer
  stack := PySem.W.ksEnv qual scope s.heap.objs.size f cd cc :: outer
  ex := []
  calm := true
  fn := fun _ => false
  pn := []
  xe := fun e s' => wpAny (model P w) (A.deeper (PySem.W.ksEnv qual scope s.heap.objs.size f cd cc)) (leaving (PySem.W.ksEnv qual scope s.heap.objs.size f cd cc) e) (fun _ s'' => CX outer H s E e s'') (fun e' s'' => CX outer H s E e' s'') s'
/-- the scope of such a def -/
structure SupScope (ps : List Str) (sc : Scope) : Prop where
  kind : sc.kind = .function
  co : sc.isCoroutine = false
  gen : sc.isGenerator = false
  nd : ps.Nodup
  par : ∀ x ∈ ps, sc.names.lookup x = some .local
  sup : sc.names.lookup ("super" : Str) = some .globalImplicit
  cls : sc.names.lookup ("__class__" : Str) = some .free
  noc : ∀ y ∈ sc.names, y.2 ≠ .cell
  fre : ∀ x, sc.names.lookup x = some .free → x = ("__class__" : Str)
theorem rev_lookup {ps : List Str} {us : List Value} {i : Nat} {y : Str} {u : Value} (nd : ps.Nodup) (hp : ps[i]? = some y) (hu : us[i]? = some u) : (ps.zip us).reverse.lookup y = some u := by
  have gen : ∀ {l : List (Str × Value)} {n : Str} {c : Value}, (l.map (·.1)).Nodup → (n, c) ∈ l → l.lookup n = some c := fun {l n c} => by
    induction l with
    | nil => intro _ h; cases h
    | cons p r ih =>
      intro hn h
      obtain ⟨k, d⟩ := p
      rw [List.map_cons, List.nodup_cons] at hn
      rw [List.lookup_cons]
      rcases List.mem_cons.mp h with e | h2
      · cases e
        rw [beq_self_eq_true]
      · have ne : (n == k) = false := by
          rw [beq_eq_false_iff_ne]
          rintro rfl
          exact hn.1 (List.mem_map.mpr ⟨_, h2, rfl⟩)
        rw [ne]
        exact ih hn.2 h2
  refine gen ?_ ?_
  · rw [List.map_reverse]
    unfold List.Nodup
    rw [List.pairwise_reverse]
    have e : (ps.zip us).map (·.1) = ps.take us.length := by
      clear hp hu nd
      induction ps generalizing us with
      | nil => simp
      | cons a r ih =>
        cases us with
        | nil => rfl
        | cons b s =>
          rw [List.zip_cons_cons, List.map_cons, ih]
          rfl
    rw [e]
    exact (nd.sublist (List.take_sublist _ _)).imp fun h z => h z.symm
  · rw [List.mem_reverse]
    refine List.mem_of_getElem? (i := i) ?_
    rw [List.getElem?_zip_eq_some]
    exact ⟨hp, hu⟩
theorem inv_startS {CX : CXT} {P : Program} {w : World} {K : PySem.W.Frag} {mg : Str → Option Value} {base : Heap} {ps : List Str} {qual : Str} {scope : Scope} {f cc D : Addr} {cd cl : Value} {cld : Option Addr} {csl : Array (Option Value)} {A : Around} {outer : List Env} {s : Shared} {h1 : Heap} {tk : Nat} {H : Hp} {E : XK} {us : List Value} {vs : List V}
    (S : SupScope ps scope) (hcell : K.lookup cc = some ⟨cl, cld, .cell (some (.ref D)), csl⟩) (hd : A.handled = none) (e0 : Env0 P w K mg base A outer s H) (hl : vs.length = ps.length) (r : Vals vs us)
    (ns : h1.Ns s.heap.objs.size (fun x => (ps.zip us).reverse.lookup x)) (hk : ∀ b o, s.heap.get? b = some o → h1.get? b = some o) :
    Inv (cxS CX P w K mg base ps qual scope f cd cc A outer s H E) [] (vs.map some) H { s with heap := h1, toks := tk } := by
  have KX : K.In s.heap := e0.mod.kin.keeps fun b o e => (e0.bs b o e).1
  have noA : ∀ b : Addr, b ∉ (cxS CX P w K mg base ps qual scope f cd cc A outer s H E).ex := fun b z => absurd (show b ∈ ([] : List Addr) from z) (by simp)
  have look1 : ∀ y c, (cxS CX P w K mg base ps qual scope f cd cc A outer s H E).env.cells.lookup y = some c → y = ("__class__" : Str) ∧ c = cc := fun y c h => by
    have h : List.lookup y [(("__class__" : Str), cc)] = some c := h
    rw [List.lookup_cons] at h
    by_cases q : (y == ("__class__" : Str)) = true
    · rw [q] at h
      exact ⟨eq_of_beq q, (Option.some.inj h).symm⟩
    · rw [Bool.not_eq_true] at q
      rw [q] at h
      cases h
  have base0 : base.get? cc = some ⟨cl, cld, .cell (some (.ref D)), csl⟩ := e0.mod.kin _ _ hcell
  refine ⟨⟨e0.mod, S.kind, rfl, rfl, Nat.le_refl _, fun y z c h1 h2 => ?_, fun y hy => ?_, fun y c h => ?_, fun _ => hd, Around.frames_deeper e0.frames, .inr ⟨rfl, rfl⟩, fun b z => absurd z (noA b), e0.bs, e0.bsz, fun b _ _ => noA b, fun b z => absurd z (noA b), e0.funs, e0.frf⟩,
    rfl, e0.bare, Un.kept hk, ⟨_, ns, fun i y v h1 h2 h3 => ?_⟩, fun y c h => ?_, e0.hok.fresh (Nat.le_refl _), fun y c h => ?_, fun p hp => absurd (show p ∈ ([] : List (Addr × Obj)) from hp) (by simp), e0.hok.kept hk, ?_⟩
  · rw [(look1 _ _ h1).1, (look1 _ _ h2).1]
  · have hy : scope.names.lookup y = some .cell ∨ scope.names.lookup y = some .free := hy
    rcases hy with hy | hy
    · exact absurd rfl (S.noc _ (PySem.mem_of_lookup hy))
    · exact ⟨cc, by rw [S.fre _ hy]; rfl⟩
  · exact nomatch h
  · have ha : vs[i]? = some v := by
      rw [List.getElem?_map] at h2
      cases e : vs[i]? with
      | none => rw [e] at h2; cases h2
      | some a => rw [e] at h2; cases h2; rfl
    obtain ⟨u, hu, rv⟩ := r.get ha
    have hp : ps[i]? = some y := h1
    refine ⟨u, rv, .inl ⟨S.par y (List.mem_of_getElem? hp), ?_⟩⟩
    exact rev_lookup S.nd hp hu
  · obtain ⟨rfl, rfl⟩ := look1 _ _ h
    exact ⟨_, _, hk _ _ (KX _ _ hcell), rfl⟩
  · obtain ⟨rfl, rfl⟩ := look1 _ _ h
    exact (e0.bs _ _ base0).2
  · show (vs.map some).length = ps.length
    rw [List.length_map, hl]
/-- the bound ValueError.__init__, called -/
theorem call_mw {X : Cx} {pins : List (Addr × Obj)} {σ : L2.St} {H : Hp} {s : Shared} {a C u : Addr} {us : List Value} {A : Around} {E : Value → Shared → Prop} {Q : Value → Shared → Prop} (T : OexC X.K C) (I : Inv X pins σ H s) (e : H a = some (exo a C none)) (hu : s.heap.get? u = some (PySem.W.kxs_mw "ValueError.__init__" a)) (hl : us.length ≤ sizeLine) (h : ∀ s', Inv X pins σ H s' → Q .none s') :
    wpAny (model X.prog X.w) A (call (.ref u) us) Q E s := by
  obtain ⟨nm, q, N, bs, bm, sn, sub, ab, col, dd, k0, k1, k2, k3, k5, hC, hbm⟩ := T.cls
  obtain ⟨t1, ho⟩ := exo_at I.hok e
  obtain ⟨hp, g, d, t, os⟩ := s
  refine wpAny_call (codeAny_of_tree ?_)
  show wpAny _ A.in1 (callAny (.ref u) ⟨us, []⟩) _ _ _
  simp only [callAny]
  refine wpAny_bind (wpAny_load hu ?_)
  simp only [PySem.W.kxs_mw, show (Value.type "method-wrapper" == Value.type "method" || Value.type "method-wrapper" == Value.type "builtin_function_or_method" || Value.type "method-wrapper" == Value.type "method-wrapper") = true by decide, if_true]
  refine PySem.W.KFB.if_so (by decide) ?_
  refine wpAny_bind (PySem.W.check_bound_init PySem.F.excBase_ValueError.toExcCallFacts (I.kIn _ _ hC) ho rfl ?_)
  refine wpAny_bind (wpAny_pure (wpAny_pure ?_))
  refine ⟨plainId_quiet PySem.F.excBase_ValueError.init.plain _, codeAny_builtin PySem.F.excBase_ValueError.initEntry ?_⟩
  refine PySem.W.exc_init_tree (cls := .ref C) (t0 := t1) (dv := none) (c2 := .none) (c3 := .none) (b4 := .bool false) ho hl fun h' k hx _ => ?_
  have J := I.write (t' := t) (x := a) (e := a) (o := exo a C none) (by rw [e]; exact True.intro) (.inl rfl) k ⟨_, hx⟩ (exo_ok hx)
  have eu : upd H a (exo a C none) = H := by
    funext b
    by_cases hb : b = a
    · rw [hb, upd_same, e]
    · rw [upd_ne hb]
  rw [eu] at J
  exact h _ J
theorem cw1 {M : Model} {A : Around} {E : Value → Shared → Prop} {s : Shared} {pos : Pos} {u x : Addr} {i : String} {env : Env} {e : Expr} {Q : Value → Shared → Prop} (h : wpAny M A (spliced (backTo pos (starEach [e] env))) (fun vs s₁ => PySem.W.KxsAt i u x s₁.heap ∧ wpAny M A (call (.ref u) vs) Q E s₁) E s)
    (he : starEach [e] env = [(false, eval e env)]) : wpAny M A (callWith pos (.ref u) [] (backTo pos (starEach [e] env)) []) Q E s := by
  rw [he] at h ⊢
  exact PySem.W.kxs_callWith (i := i) (x := x) rfl (PySem.Calls.evalArgs_plain h)
/-- such an __init__: the exception gets its dict, with the one field -/
def spS (C : Addr) (fld : Str) (okv : V → Prop) : Sp := fun vs H Q _ => ∃ (a : Addr) (v : V), vs = [.ref a, v] ∧ H a = some (exo a C none) ∧ okv v ∧ ∀ dx, H dx = none → dx ≠ a → Q .non (upd (upd H dx (exd dx [(fld, v)])) a (exo a C (some dx)))
open PySem.W in
theorem ok_sup {CX : CXT} {P : Program} {w : World} {K : PySem.W.Frag} {mg : Str → Option Value} {base : Heap} {f cda cc C : Addr} {name qual sf xn fld file : Str} {params : Arguments} {scope : Scope} {dV kV doc pm ct oc cl ccl : Value} {an od cld cdd : Option Addr} {osl csl ccs : Array (Option Value)} {cvs : Array Value} {tf : Tok} {ar : Arg} {e : Expr} {okv : V → Prop} {p0 p1 p2 p3 p4 q1 q2 q3 q4 : Pos}
    (lk : K.lookup f = some ⟨oc, od, .func (ksFn name qual params [.Expr (.Call (.Attribute (.Call (.Name ("super" : Str) p0) [] [] p1) ("__init__" : Str) p2) [e] [] p3) p4, .Assign [.Attribute (.Name sf q1) fld q2] (.Name xn q3) q4] scope dV kV doc pm an (.ref cda) ct cc), osl⟩)
    (hcd : codeIn K (.ref cda) qual = true) (S : SupScope [sf, xn] scope) (hp : (params.posonlyargs ++ params.args).head? = some ar) (har : ar.arg = sf)
    (hcode : K.lookup cda = some ⟨ccl, cdd, .fields cvs, ccs⟩) (hvs : cvs[2]? = some (.str file tf)) (hfile : ((P.main.file : Str) == file) = true) (htop : (P.main.scope.names.lookup ("super" : Str)).isSome = false)
    (hcell : K.lookup cc = some ⟨cl, cld, .cell (some (.ref C)), csl⟩) (T : OexC K C) (hsub : mroIn K C (.ref C) = some true) (hsuper : mg ("super" : Str) = none) (ho : nsIn K cStatics "thirdparty.any" = some none)
    (hm : ks_superIn K C C "__init__" = some (some (.builtin "ValueError.__init__"))) (hB : subIn K (.ref C) (.type "ValueError") = some true) (hno : findIn K (.ref C) fld = some none)
    (he : ∀ (A : Around) (outer : List Env) (s : Shared) (H : Hp) (E : XK) (a : Addr) (v : V), okv v → ∃ ta, PA (cxS CX P w K mg base [sf, xn] qual scope f (.ref cda) cc A outer s H E) [e] ta ∧ ta [some (.ref a), some v] H fun ws H2 => ws.length ≤ 1000 ∧ H2 = H)
    (hev : ∀ env : Env, ∃ pl : Sem Bool, eval (.Call (.Attribute (.Call (.Name ("super" : Str) p0) [] [] p1) ("__init__" : Str) p2) [e] [] p3) env = (do
      let ov ← attributeBase (.Call (.Name ("super" : Str) p0) [] [] p1) ("__init__" : Str) env (eval (.Call (.Name ("super" : Str) p0) [] [] p1) env)
      standAt p2.atName
      let (f, first) ← holding [ov] (getMethod ov ("__init__" : Str) pl)
      callWith p3 f first (backTo p3 (starEach [e] env)) []) := by exact fun _ => ⟨_, rfl⟩)
    (hsw : ∀ env : Env, swapsWith (.Call (.Attribute (.Call (.Name ("super" : Str) p0) [] [] p1) ("__init__" : Str) p2) [e] [] p3) none p4.line env = pure false := by exact fun _ => rfl)
    (hstar : ∀ env, starEach [e] env = [(false, eval e env)] := by exact fun _ => rfl) (hsw2 : ∀ env : Env, swapsWith (.Name xn q3) (some (.Attribute (.Name sf q1) fld q2)) q4.line env = pure false := by exact fun _ => rfl)
    (n1 : (sf == ("__debug__" : Str)) = false := by decide) (n2 : (sf == ("__classdict__" : Str)) = false := by decide) (n3 : (xn == ("__debug__" : Str)) = false := by decide) (n4 : (xn == ("__classdict__" : Str)) = false := by decide) :
    FnOk P w K mg base CX 1 f (ksFn name qual params [.Expr (.Call (.Attribute (.Call (.Name ("super" : Str) p0) [] [] p1) ("__init__" : Str) p2) [e] [] p3) p4, .Assign [.Attribute (.Name sf q1) fld q2] (.Name xn q3) q4] scope dV kV doc pm an (.ref cda) ct cc) [sf, xn] (spS C fld okv) := by
  refine ⟨fun vs H Q E h => ?_, fun A outer s H args us vs Q E hr e0 hb r hsp => ?_⟩
  · obtain ⟨_, _, rfl, _⟩ := h
    rfl
  obtain ⟨a, v, rfl, ha, hv, q⟩ := hsp
  have KX : K.In s.heap := e0.mod.kin.keeps fun b o e => (e0.bs b o e).1
  have lim : s.heap.NoLimit := e0.mod.nolimit.keeps fun b o e => (e0.bs b o e).1
  have hloc : ∀ y ∈ [sf, xn].zip us, scope.names.lookup y.1 = some .local := fun ⟨n, v⟩ hy => S.par n (List.of_mem_zip hy).1
  refine ks_codeAny_call_defAt (body := [.Expr (.Call (.Attribute (.Call (.Name ("super" : Str) p0) [] [] p1) ("__init__" : Str) p2) [e] [] p3) p4, .Assign [.Attribute (.Name sf q1) fld q2] (.Name xn q3) q4]) (binds := [sf, xn].zip us) hr.depth (KX _ _ lk) rfl lim (codeRec_of KX hcd) rfl hb S.noc hloc (fun h1 hns hk => ?_) S.co S.gen S.kind
  have I := inv_startS (CX := CX) (qual := qual) (f := f) (cd := .ref cda) (tk := s.toks + ([sf, xn].zip us).length) (E := E) S hcell hr.hd e0 rfl r hns hk
  obtain ⟨ta, hpa, hta⟩ := he A outer s H E a v hv
  obtain ⟨u, rfl, ru⟩ : ∃ u, us = [.ref a, u] ∧ RelV v u := by
    cases r with
    | cons r1 r2 =>
      cases r2 with
      | cons r3 r4 =>
        cases r4
        obtain rfl := (show _ = Value.ref a from r1)
        exact ⟨_, rfl, r3⟩
  have hz : ([sf, xn].zip [Value.ref a, u]).reverse.lookup sf = some (.ref a) := rev_lookup (i := 0) S.nd rfl rfl
  obtain ⟨mb, b1, b2⟩ := I.mod.blt
  obtain ⟨nm, qn, N, bs, bm, sn, sub, ab, col, dd, k0, k1, k2, k3, k5, hC, hbm⟩ := id T.cls
  have hcl : clsIn K C = some { name := nm, bases := bs, mro := .ref C :: bm, ns := N, qualname := qn, hasDict := true, slotNames := sn, subclasses := sub, abstract := ab, collection := col, hasDel := false } := by unfold clsIn; rw [hC] <;> rfl
  have hD1 := I.kIn _ _ hC
  obtain ⟨t1, ho1⟩ := exo_at I.hok ha
  obtain ⟨pl, hev1⟩ := hev (ksEnv qual scope s.heap.objs.size f (.ref cda) cc)
  refine ks_wpAt_execs_cons (ks_wpAt_Expr_any (ks_wpAt_MethodCall (pl := pl) ?_ hev1) (by show (scope.kind == .module && _) = false; rw [S.kind]; rfl) (hsw _))
  refine ks_wpAt_super_base (env := ksEnv qual scope s.heap.objs.size f (.ref cda) cc) S.sup S.cls (by decide) rfl (I.kIn _ _ lk) rfl hp rfl (I.kIn _ _ hcode) rfl hvs hfile htop ?_
  refine ks_loadName_global S.kind S.sup (Calls.loadGlobal_builtin (env := ksEnv qual scope s.heap.objs.size f (.ref cda) cc) (I.mod.glob.keeps I.bk) hsuper (b1.keeps I.bk) ((b2 _ (by decide)).trans PyProof.Rows.Boot.«super») ⟨rfl, ?_⟩)
  refine wpAny_loadName_free S.kind S.cls rfl ⟨_, I.kIn _ _ hcell, rfl⟩ ?_
  refine wpAny_loadName_local S.kind (by rw [har]; exact S.par sf (by simp)) hns (by rw [har]; exact hz) ?_
  refine ks_wpAny_isType_cls hD1 rfl ⟨rfl, ?_⟩
  refine ks_wpAny_call_super hD1 rfl ho1 rfl (fun c z => nomatch z) (looks_mroIn I.kIn hsub) (fun h2 e2 k2 => ?_)
  have I2 := I.kept (t' := s.toks + ([sf, xn].zip [Value.ref a, u]).length) k2
  have inst : InstAt h2 a { cls := .ref C, dict := none, data := .fields #[.ref t1, .none, .none, .none, .bool false, .none] } C none := ⟨k2 _ _ ho1, rfl, rfl, trivial⟩
  have hI : Looks (model P w) h2 (isInstance (.ref a) (.type "ValueError")) true := inst.type.andThen (looks_subIn I2.kIn hB)
  have hm1 : alongIn K "__init__" (((Value.ref C :: bm).dropWhile (· != .ref C)).drop 1) = some (some (.builtin "ValueError.__init__")) := by
    have z := hm
    unfold ks_superIn at z
    rw [hcl] at z
    exact z
  refine kxs_getMethod kxs_ValueError e2 (looks_opaque I2.kIn ho) (l₀ := .ref C :: bm) (fun A Q E s k q => wpAny_bind ((looks_clsIn I2.kIn hcl) A _ E s k (wpAny_pure q))) rfl I2.kIn hm1 hI (ks_ne I2.kIn inst hcl) (by decide) ?_
  have I3 := (I2.kept (t' := s.toks + ([sf, xn].zip [Value.ref a, u]).length + 1) (h' := h2.push (kxs_mw "ValueError.__init__" a)) fun b o z => Heap.get?_push_of_some _ z).pins_of (pins' := [(h2.objs.size, kxs_mw "ValueError.__init__" a)]) fun p hp => by
    obtain rfl : p = (h2.objs.size, kxs_mw "ValueError.__init__" a) := by simpa using hp
    exact ⟨Heap.get?_push_at rfl rfl, I2.hok.fresh (Nat.le_refl _), Nat.ne_of_gt I2.lt, I2.nofs (Nat.le_refl _), fun v z => nomatch z⟩
  refine cw1 (i := "ValueError.__init__") (x := a) (thn (hpa.run p3 _ _ _ _ _ I3 hta) fun us s4 ⟨vs, H1, I4, r4, hlen, hH⟩ => ?_) (hstar _)
  subst hH
  have hu := (I4.pin _ (List.mem_append_right _ (List.mem_singleton.mpr rfl))).1
  refine ⟨hu, call_mw T I4 ha hu (by rw [← Paired.length r4, sizeLine_eq]; omega) fun s5 J => ?_⟩
  have P2 : PS (cxS CX P w K mg base [sf, xn] qual scope f (.ref cda) cc A outer s H1 E) (.Assign [.Attribute (.Name sf q1) fld q2] (.Name xn q3) q4) (tOst K fld (tVar 0) (tVar 1)) := ps_ost (pe_var rfl (.inl (S.par sf (by simp))) n1 n2) (pe_var rfl (.inl (S.par xn (by simp))) n3 n4) (hsw2 _)
  refine ks_wpAt_execs_cons (wpAt_of_wpAny (thn (P2.run _ s5 _ _ { nx := fun _ H' => Q .non H', rt := Q } J ⟨_, rfl, _, rfl, a, C, rfl, T, hno, .inl ⟨ha, q⟩⟩) fun fl s6 hs => ?_))
  cases fl with
  | ret u =>
    obtain ⟨v, σ', H', J, rv, q⟩ := hs
    exact ⟨v, H', J.os, J.bare, J.base, J.hok, rv, q⟩
  | next =>
    obtain ⟨σ', H', J, q⟩ := hs
    exact wpAt_of_wpAny (wpAny_pure ⟨.non, H', J.os, J.bare, J.base, J.hok, rfl, q⟩)
  | brk =>
    obtain ⟨_, _, _, q⟩ := hs
    exact False.elim q
  | cont =>
    obtain ⟨_, _, _, q⟩ := hs
    exact False.elim q
end OPN
section OPN
open PySem PySem.Spec PyProof.Rows
/-! ### the handled exception with a dict: isinstance, its fields -/
def rIsF (K : PySem.W.Frag) (D xh : Addr) (dd : Option Addr) : List V → Hp → VK → Prop := fun vs H Q => (∀ d, dd = some d → ∃ fs, H d = some (.xd fs)) ∧ rIsB K D xh vs H Q
theorem hot_inst {X : Cx} {pins : List (Addr × Obj)} {σ : L2.St} {H : Hp} {s : Shared} {xh D : Addr} {oh : Obj} (hb : HotB X xh oh) (I : Inv X pins σ H s) (hc : oh.cls = .ref D) (hd : ∀ d, oh.dict = some d → ∃ fs, H d = some (.xd fs)) : ∃ od, PySem.W.InstAt s.heap xh oh D od := by
  have g := hb.get I
  obtain ⟨ws, d1, _⟩ := hb.dat
  have nc : PySem.W.notCls oh = true := by unfold PySem.W.notCls; rw [d1] <;> rfl
  cases e : oh.dict with
  | none => exact ⟨none, g, hc, nc, by rw [e]; trivial⟩
  | some d =>
    obtain ⟨fs, hfs⟩ := hd d e
    have hx : ObjOk X.prog X.w H s.heap d (.xd fs) := I.hok d _ hfs
    obtain ⟨mA, hns, _⟩ := hx
    obtain ⟨od, ho, _⟩ := lookIn_ns hns
    exact ⟨some od, g, hc, nc, by rw [e]; exact ho⟩
theorem call_isF {X : Cx} {xh D : Addr} {oh : Obj} (hb : HotB X xh oh) (C : ExcC X.K D) (hc : oh.cls = .ref D) : CallR X (.builtin "isinstance") (rIsF X.K D xh oh.dict) := by
  intro pins s σ H vs us Q I r y
  obtain ⟨hd, c, u, b, rfl, kc, e, q⟩ := y
  obtain ⟨u1, u2, rfl, r1, r2⟩ := vals2 r
  cases (show u1 = Value.ref xh from r1)
  have e2 := kc.eq r2
  subst e2
  obtain ⟨od, J⟩ := hot_inst hb I hc hd
  have hcl : (PySem.W.clsIn X.K D).isSome = true := by
    obtain ⟨cd, h, _⟩ := PySem.W.any_some C.hd
    rw [h]
    rfl
  exact PySem.W.kia_one (PySem.W.kitx_exc hcl C.hg C.hk C.hs C.ha C.hn C.ht C.hm) I.kIn J e (fun z => nomatch z) fun tk => ⟨.bl b, H, I.tok tk, rfl, q⟩
/-- e.f, e the handled exception -/
def tXfB (xh : Addr) (dd : Option Addr) (f : Str) (te : TE) : TE := fun σ H Q => te σ H fun x H1 => x = .ref xh ∧ ∃ (d : Addr) (fs : List (Str × V)) (v : V), dd = some d ∧ H1 d = some (.xd fs) ∧ fs.lookup f = some v ∧ Q v H1
theorem pe_xfB {X : Cx} {xh C : Addr} {oh : Obj} {e : Expr} {te : TE} {pos : Pos} {n : Str} (hb : HotB X xh oh) (T : XfC X.K C) (hno : PySem.W.findIn X.K (.ref C) n = some none) (hc : oh.cls = .ref C) (he : PE X e te) (hab : attributeBase e n X.env (eval e X.env) = eval e X.env := by rfl) :
    PE X (.Attribute e n pos) (tXfB xh oh.dict n te) := by
  refine ⟨fun pins s σ H Q I h => ?_⟩
  refine attr_of hab (thn (he.run pins s σ H _ I h) fun u s1 hh => ?_)
  obtain ⟨x, H1, I1, rx, ex, dd, fs, v, ed, ea, l, q⟩ := hh
  subst ex
  obtain rfl : u = Value.ref xh := rx
  have hx : ObjOk X.prog X.w H1 s1.heap dd (.xd fs) := I1.hok dd _ ea
  obtain ⟨mA, hns, hr⟩ := hx
  obtain ⟨od, ho, hl⟩ := lookIn_ns hns
  obtain ⟨u, hu, ru⟩ := RelO.some_of (v := v) (o := mA n) (by rw [← l]; exact hr n)
  obtain ⟨ws, d1, _⟩ := hb.dat
  have J : PySem.W.InstAt s1.heap xh oh C (some od) := ⟨hb.get I1, hc, by unfold PySem.W.notCls; rw [d1] <;> rfl, by rw [ed]; exact ho⟩
  exact HandSPX.exc_get I1.kIn J T.ga T.gg T.exC (PySem.W.findObj_own T.hdC hno rfl (by rw [hl, hu])) (handed_of ru) ⟨v, H1, I1.tok _, ru, q⟩
end OPN
section OPN
open PySem PySem.Spec PyProof.Rows
/-! ### the handled exception may have a dict: isinstance asks only that the dict is there -/
theorem call_isB2 {X : Cx} {xh D : Addr} {oh : Obj} (hb : HotB X xh oh) (C : ExcC X.K D) (hc : oh.cls = .ref D) (hd : ∀ d, oh.dict = some d → (∃ o, X.s_0.heap.get? d = some o) ∧ d ∉ X.ex) : CallR X (.builtin "isinstance") (rIsB X.K D xh) := by
  intro pins s σ H vs us Q I r y
  obtain ⟨c, u, b, rfl, kc, e, q⟩ := y
  obtain ⟨u1, u2, rfl, r1, r2⟩ := vals2 r
  cases (show u1 = Value.ref xh from r1)
  have e2 := kc.eq r2
  subst e2
  have g := hb.get I
  obtain ⟨ws, d1, _⟩ := hb.dat
  have nc : PySem.W.notCls oh = true := by unfold PySem.W.notCls; rw [d1] <;> rfl
  have J : ∃ od, PySem.W.InstAt s.heap xh oh D od := by
    cases e : oh.dict with
    | none => exact ⟨none, g, hc, nc, by rw [e]; trivial⟩
    | some d =>
      obtain ⟨⟨o, ho⟩, nx⟩ := hd d e
      obtain ⟨o', ho'⟩ := I.base.there d o ho nx
      exact ⟨some o', g, hc, nc, by rw [e]; exact ho'⟩
  obtain ⟨od, J⟩ := J
  have hcl : (PySem.W.clsIn X.K D).isSome = true := by
    obtain ⟨cd, h, _⟩ := PySem.W.any_some C.hd
    rw [h]
    rfl
  exact PySem.W.kia_one (PySem.W.kitx_exc hcl C.hg C.hk C.hs C.ha C.hn C.ht C.hm) I.kIn J e (fun z => nomatch z) fun tk => ⟨.bl b, H, I.tok tk, rfl, q⟩
theorem xd_there {P : Program} {w : World} {H : Hp} {h : Heap} {d : Addr} {fs : List (Str × V)} (k : HOk P w H h) (e : H d = some (.xd fs)) : ∃ o, h.get? d = some o := by
  have hx : ObjOk P w H h d (.xd fs) := k d _ e
  obtain ⟨mA, hns, _⟩ := hx
  obtain ⟨od, ho, _⟩ := lookIn_ns hns
  exact ⟨od, ho⟩
theorem Fun.okB2 {P : Program} {w : World} {K : PySem.W.Frag} {mg : Str → Option Value} {base : Heap} {x qual : Str} {st : Stmt} {f : Addr} {fd : FuncData} {N ps : List Str} {k : Nat} {sp : Addr → Value → Option Addr → Sp} (F : L2.Fun K x qual st f fd) (S : FnScope N ps (defScope st))
    (body : ∀ (cdv : Value) (A : Around) (outer : List Env) (s : Shared) (H : Hp) (vs : List V) (Q : VK) (xh : Addr) (oh : Obj), L2H.RoomH k (A.deeper (PyProof.Rows.envOfC qual (defScope st) s.heap.objs.size f cdv)) → HotB (L2H.cxH CX0 P w K mg base N qual (defScope st) f cdv A outer s H E0 (xh, oh)).nox xh oh → HOk P w H s.heap → sp xh oh.cls oh.dict vs H Q E0 →
      ∃ t, PSs (L2H.cxH CX0 P w K mg base N qual (defScope st) f cdv A outer s H E0 (xh, oh)).nox (defBody st) t ∧ t { nx := fun _ H' => Q .non H', rt := Q } (L2.start N vs) H) : FnB P w K mg base (k + 1) f fd ps sp := by
  obtain ⟨oc, od, kV, doc, pm, an, cdv, ct, osl, rfl, lk, hcd⟩ := F.ex
  intro A outer s H args us vs Q xh oh hr hp e0 hb r hl hsp
  have KX : K.In s.heap := e0.mod.kin.keeps fun b o e => (e0.bs b o e).1
  have hkind : ∀ y ∈ ps.zip us, (defScope st).names.lookup y.1 = some .local ∨ ((defScope st).names.lookup y.1 = some .cell ∧ ((cellsFrom (s.heap.objs.size + 1) (defScope st).names []).lookup y.1).isSome = true) := by
    rintro ⟨n, v⟩ hy
    exact (S.par n (List.of_mem_zip hy).1).imp id fun q => ⟨q, PySem.W.cellsFrom_some _ _ _ (.inl q)⟩
  refine codeAny_call_function hr.depth (KX _ _ lk) rfl S.co S.gen rfl (PySem.W.codeRec_of KX hcd) (hb _ _ _ _ (wpAny_newFunctionEnv_cells S.kind hkind fun env he s1 y => ?_))
  subst he
  refine ⟨(e0.mod.nolimit.keeps fun b o e => (e0.bs b o e).1).keeps y.toInCall.keep, codeAny_func ?_⟩
  have hB := hp.b (CX := CX0) (P := P) (w := w) (K := K) (mg := mg) (base := base) (N := N) (qual := qual) (scope := defScope st) (f := f) (cd := cdv) (E := E0)
  obtain ⟨t, ht, hq⟩ := body cdv A outer s H vs Q xh oh (hr.deeper _) ⟨hB.hnd, hB.obj, hB.dat, hB.unt, hB.nfs, hB.nex⟩ e0.hok hsp
  have I : Inv (L2H.cxH CX0 P w K mg base N qual (defScope st) f cdv A outer s H E0 (xh, oh)) [] (L2.start N vs) H s1 := L2H.inv_startH S hp.pin e0 hl r y
  refine wpAny_mono (ht.run [] s1 (L2.start N vs) H _ (I.wish _) hq) (fun fl s' z => ?_) fun _ _ z => z.elim
  have z' : SP (L2H.cxH CX0 P w K mg base N qual (defScope st) f cdv A outer s H E0 (xh, oh)) [] { nx := fun _ H' => Q .non H', rt := Q } fl s' := z.unwish
  cases fl with
  | ret u =>
    obtain ⟨v, σ', H', J, rv, q⟩ := z'
    exact ⟨v, H', J.os, J.bare, J.base, J.hok, rv, q⟩
  | next =>
    obtain ⟨σ', H', J, q⟩ := z'
    exact ⟨V.non, H', J.os, J.bare, J.base, J.hok, rfl, q⟩
  | brk => exact z'.elim fun _ y => y.elim fun _ y => y.2.elim
  | cont => exact z'.elim fun _ y => y.elim fun _ y => y.2.elim

end OPN
section OPN
open PySem.Spec PyProof.Rows
/-! ### try: return ('value', ask()) / except TermError as e: the error's word and field -/
/-- a class that TermError names -/
structure Wd2 (K : PySem.W.Frag) (CT D : Addr) (dd : Option Addr) (H : Hp) : Prop where
  exc : ExcC K D
  nod : ∀ d, dd = some d → ∃ fs, H d = some (.xd fs)
  mat : PySem.W.exmOne K (.ref D) (.ref CT) = some true
def spName2 (K : PySem.W.Frag) (CT : Addr) (word : Addr → Option Str) : Addr → Value → Option Addr → Sp := fun xh cls dd vs H Q _ => ∃ (D : Addr) (nm : Str), cls = .ref D ∧ Wd2 K CT D dd H ∧ word D = some nm ∧ vs = [.ref xh] ∧ ∀ H', Same H H' → Q (.str nm) H'
def tSuite2 (K : PySem.W.Frag) (CT : Addr) (word : Addr → Option Str) (fld : Addr → Option Addr → Hp → V → Prop) (a : Addr) (cls : Value) (d : Option Addr) : TS :=
  tSeq (tAsg (tCallG (spName2 K CT word) a cls d 1 (tCons (tVar 1) tNil)) (gName 2)) (tRet (tTup (tCons (tVar 2) (tCons (tCallG (spField word fld) a cls d 2 (tCons (tVar 1) (tCons (tVar 2) tNil))) tNil))))
def TTry2 (K : PySem.W.Frag) (CT : Addr) (word : Addr → Option Str) (fld : Addr → Option Addr → Hp → V → Prop) : (XK → Hp → VK → Prop) → Hp → VK → Prop := fun tl H Q =>
  ∀ f : Addr, tl (fun cls d H2 => wAs K (.ref CT) 1 (tSuite2 K CT word fld) (fun _ _ _ _ => False) { nx := fun _ H' => Q .non H', rt := Q } cls d [some (.ref f), none, none] H2) H
    (fun v H' => 2 ≤ sizeLine ∧ ∀ p, H' p = none → Q (.ref p) (upd H' p (.tup [.str ("value" : Str), v])))
theorem wTry2 {K : PySem.W.Frag} {CT : Addr} {word : Addr → Option Str} {fld : Addr → Option Addr → Hp → V → Prop} {Q : VK} {n : L2.St → Hp → Prop} {cls : Value} {dd : Option Addr} {f D : Addr} {nm : Str} {v : V} {H' : Hp}
    (hst : ∀ D dd H H' v, Same H H' → fld D dd H v → fld D dd H' v) (e : cls = .ref D) (hw : Wd2 K CT D dd H') (ew : word D = some nm) (hf : fld D dd H' v) (h : ∀ (p : Addr) (H2 : Hp), Same H' H2 → H2 p = none → Q (.ref p) (upd H2 p (.tup [.str nm, v]))) :
    wAs K (.ref CT) 1 (tSuite2 K CT word fld) (fun _ _ _ _ => False) { nx := n, rt := Q } cls dd [some (.ref f), none, none] H' := by
  subst e
  refine ⟨true, hw.mat, fun _ a _ => ?_, fun z => nomatch z⟩
  refine ⟨_, rfl, rfl, D, nm, rfl, hw, ew, rfl, fun H1 k1 => ?_⟩
  refine ⟨_, rfl, _, rfl, _, rfl, rfl, D, nm, v, rfl, ew, hst _ _ _ _ _ k1 hf, rfl, fun H2 k2 => ⟨by show 2 ≤ sizeLine; decide, fun p hp => h p H2 (k1.trans k2) hp⟩⟩
theorem try_gives2 {X : Cx} {x q : Str} {sg : Scope} {g CT fN fF : Addr} {cdg : Value} {fdN fdF : FuncData} {word : Addr → Option Str} {fld : Addr → Option Addr → Hp → V → Prop} {j1 n1 n2 : Nat} {q1 q2 q3 q4 q5 q6 q7 q8 q9 p1 p2 p3 p4 p5 p6 p7 p8 p9 q10 q11 : Pos}
    (s0 : sg.names.lookup ("_law_ask" : Str) = some .local) (s1 : sg.names.lookup ("_law_e" : Str) = some .local) (s2 : sg.names.lookup ("_law_word" : Str) = some .local) (g1 : sg.names.lookup ("TermError" : Str) = some .globalImplicit) (g2 : sg.names.lookup ("_law_error_name" : Str) = some .globalImplicit) (g3 : sg.names.lookup ("_law_error_field" : Str) = some .globalImplicit)
    (mT : X.mg ("TermError" : Str) = some (.ref CT)) (mN : X.mg ("_law_error_name" : Str) = some (.ref fN)) (mF : X.mg ("_law_error_field" : Str) = some (.ref fF)) (kN : PySem.W.keepIn X.K (.ref fN) = true) (kF : PySem.W.keepIn X.K (.ref fF) = true) (bN : Binds X.K fdN [("_law_e" : Str)] []) (bF : Binds X.K fdF [("_law_e" : Str), "_law_word"] [])
    (GN : FnB X.prog X.w X.K X.mg X.base 3 fN fdN [("_law_e" : Str)] (spName2 X.K CT word)) (GF : FnB X.prog X.w X.K X.mg X.base 3 fF fdF [("_law_e" : Str), "_law_word"] (spField word fld)) :
    GivesN X [("_law_ask" : Str), "_law_e", "_law_word"] x sg g cdg [.Try [.Return (some (.Tuple [.Constant (.str ("value" : Str)) j1 p1, .Call (.Name ("_law_ask" : Str) p2) [] [] p3] n1 p4)) p5] [.ExceptHandler (some (.Name ("TermError" : Str) p6)) (some ("_law_e" : Str)) [.Assign [.Name ("_law_word" : Str) q1] (.Call (.Name ("_law_error_name" : Str) q2) [.Name ("_law_e" : Str) q3] [] q4) q5, .Return (some (.Tuple [.Name ("_law_word" : Str) q6, .Call (.Name ("_law_error_field" : Str) q7) [.Name ("_law_e" : Str) q8, .Name ("_law_word" : Str) q9] [] p7] n2 p8)) p9] q10] [] [] q11] ("_law_ask" : Str) q (TTry2 X.K CT word fld) := by
  intro k f c s H Q tl hr k40 act hc y
  have hr3 := hr.mono (show 3 ≤ k by omega)
  have nd : ([("_law_ask" : Str), "_law_e", "_law_word"] : List Str).Nodup := by decide +kernel
  refine ⟨_, pss_one (L2C.ps_try_as (i := 1) (c := .ref CT) (tb := fun W => tRet (tTup (tCons (tC (.str ("value" : Str))) (tCons (fun σZ HZ Q => σZ[0]? = some (some (.ref f)) ∧ HZ c = some (LamX.CodeO c q) ∧ tl (fun cls d H2 => W cls d σZ H2) HZ Q) tNil))))
    (ts := tSuite2 X.K CT word fld) rfl rfl nd rfl s1 ⟨g1, by decide +kernel, .inl mT⟩
    (fun W pn xe tk _ => pss_one (ps_ret (pe_tup (pa_cons pe_str (pa_cons (act W pn xe (fun σ2 cls d H2 => W cls d σ2 H2) _ _ tk (fun _ _ _ _ h => h)) pa_nil)))))
    (fun a oe cls d pn hz1 hz2 hf => pss_cons (ps_set (i := 2) nd rfl (.inl s2) (by exact pe_callG (X := Cx.suite (cxOf CX0 X.prog X.w X.K X.mg X.base [("_law_ask" : Str), "_law_e", "_law_word"] x sg g cdg X.A X.stack s H E0).nox a ((a, oe) :: pn)) GN ⟨hr3.dp, hr3.un⟩ (hotG_suite2 hf) hz1 hz2 g2 mN kN bN (pa_cons (pe_var (i := 1) rfl (.inl s1)) pa_nil)))
      (pss_one (ps_ret (pe_tup (pa_cons (pe_var (i := 2) rfl (.inl s2)) (pa_cons (by exact pe_callG (X := Cx.suite (cxOf CX0 X.prog X.w X.K X.mg X.base [("_law_ask" : Str), "_law_e", "_law_word"] x sg g cdg X.A X.stack s H E0).nox a ((a, oe) :: pn)) GF ⟨hr3.dp, hr3.un⟩ (hotG_suite2 hf) hz1 hz2 g3 mF kF bF (pa_cons (pe_var (i := 1) rfl (.inl s1)) (pa_cons (pe_var (i := 2) rfl (.inl s2)) pa_nil))) pa_nil))))))), ?_⟩
  exact ⟨rfl, hc, y f⟩
end OPN
section OPT
open PySem.Spec PyProof.Rows
theorem try_givesH2 {X : Cx} {x q : Str} {sg : Scope} {g CT fN fF : Addr} {cdg : Value} {fdN fdF : FuncData} {word : Addr → Option Str} {fld : Addr → Option Addr → Hp → V → Prop} {j1 n1 n2 : Nat} {q1 q2 q3 q4 q5 q6 q7 q8 q9 p1 p2 p3 p4 p5 p6 p7 p8 p9 q10 q11 : Pos}
    (s0 : sg.names.lookup ("_law_ask" : Str) = some .local) (s1 : sg.names.lookup ("_law_e" : Str) = some .local) (s2 : sg.names.lookup ("_law_word_here" : Str) = some .local) (g1 : sg.names.lookup ("TermError" : Str) = some .globalImplicit) (g2 : sg.names.lookup ("_law_error_name" : Str) = some .globalImplicit) (g3 : sg.names.lookup ("_law_error_field" : Str) = some .globalImplicit)
    (mT : X.mg ("TermError" : Str) = some (.ref CT)) (mN : X.mg ("_law_error_name" : Str) = some (.ref fN)) (mF : X.mg ("_law_error_field" : Str) = some (.ref fF)) (kN : PySem.W.keepIn X.K (.ref fN) = true) (kF : PySem.W.keepIn X.K (.ref fF) = true) (bN : Binds X.K fdN [("_law_e" : Str)] []) (bF : Binds X.K fdF [("_law_e" : Str), "_law_word_here"] [])
    (GN : FnB X.prog X.w X.K X.mg X.base 3 fN fdN [("_law_e" : Str)] (spName2 X.K CT word)) (GF : FnB X.prog X.w X.K X.mg X.base 3 fF fdF [("_law_e" : Str), "_law_word_here"] (spField word fld)) :
    GivesN X [("_law_ask" : Str), "_law_e", "_law_word_here"] x sg g cdg [.Try [.Return (some (.Tuple [.Constant (.str ("value" : Str)) j1 p1, .Call (.Name ("_law_ask" : Str) p2) [] [] p3] n1 p4)) p5] [.ExceptHandler (some (.Name ("TermError" : Str) p6)) (some ("_law_e" : Str)) [.Assign [.Name ("_law_word_here" : Str) q1] (.Call (.Name ("_law_error_name" : Str) q2) [.Name ("_law_e" : Str) q3] [] q4) q5, .Return (some (.Tuple [.Name ("_law_word_here" : Str) q6, .Call (.Name ("_law_error_field" : Str) q7) [.Name ("_law_e" : Str) q8, .Name ("_law_word_here" : Str) q9] [] p7] n2 p8)) p9] q10] [] [] q11] ("_law_ask" : Str) q (TTry2 X.K CT word fld) := by
  intro k f c s H Q tl hr k40 act hc y
  have hr3 := hr.mono (show 3 ≤ k by omega)
  have nd : ([("_law_ask" : Str), "_law_e", "_law_word_here"] : List Str).Nodup := by decide +kernel
  refine ⟨_, pss_one (L2C.ps_try_as (i := 1) (c := .ref CT) (tb := fun W => tRet (tTup (tCons (tC (.str ("value" : Str))) (tCons (fun σZ HZ Q => σZ[0]? = some (some (.ref f)) ∧ HZ c = some (LamX.CodeO c q) ∧ tl (fun cls d H2 => W cls d σZ H2) HZ Q) tNil))))
    (ts := tSuite2 X.K CT word fld) rfl rfl nd rfl s1 ⟨g1, by decide +kernel, .inl mT⟩
    (fun W pn xe tk _ => pss_one (ps_ret (pe_tup (pa_cons pe_str (pa_cons (act W pn xe (fun σ2 cls d H2 => W cls d σ2 H2) _ _ tk (fun _ _ _ _ h => h)) pa_nil)))))
    (fun a oe cls d pn hz1 hz2 hf => pss_cons (ps_set (i := 2) nd rfl (.inl s2) (by exact pe_callG (X := Cx.suite (cxOf CX0 X.prog X.w X.K X.mg X.base [("_law_ask" : Str), "_law_e", "_law_word_here"] x sg g cdg X.A X.stack s H E0).nox a ((a, oe) :: pn)) GN ⟨hr3.dp, hr3.un⟩ (hotG_suite2 hf) hz1 hz2 g2 mN kN bN (pa_cons (pe_var (i := 1) rfl (.inl s1)) pa_nil)))
      (pss_one (ps_ret (pe_tup (pa_cons (pe_var (i := 2) rfl (.inl s2)) (pa_cons (by exact pe_callG (X := Cx.suite (cxOf CX0 X.prog X.w X.K X.mg X.base [("_law_ask" : Str), "_law_e", "_law_word_here"] x sg g cdg X.A X.stack s H E0).nox a ((a, oe) :: pn)) GF ⟨hr3.dp, hr3.un⟩ (hotG_suite2 hf) hz1 hz2 g3 mF kF bF (pa_cons (pe_var (i := 1) rfl (.inl s1)) (pa_cons (pe_var (i := 2) rfl (.inl s2)) pa_nil))) pa_nil))))))), ?_⟩
  exact ⟨rfl, hc, y f⟩
end OPT
section OPN
open PySem PySem.Spec PyProof.Rows PySem.W
/-! ### the def __init__ of such a class, and its raise -/
structure FunS (P : Program) (K : PySem.W.Frag) (mg : Str → Option Value) (x qual : Str) (st : Stmt) (ps : List Str) (C f : Addr) (fd : FuncData) : Prop where
  ex : ∃ (oc : Value) (od : Option Addr) (dV kV doc pm : Value) (an : Option Addr) (cda : Addr) (ct : Value) (osl : Array (Option Value)) (cc : Addr) (cl : Value) (cld : Option Addr) (csl : Array (Option Value)) (ccl : Value) (cdd : Option Addr) (cvs : Array Value) (ccs : Array (Option Value)) (file : Str) (tf : Tok),
    fd = ksFn "__init__" qual (defArgs st) (defBody st) (defScope st) dV kV doc pm an (.ref cda) ct cc ∧ K.lookup f = some ⟨oc, od, .func fd, osl⟩ ∧ codeIn K (.ref cda) qual = true ∧ K.lookup cda = some ⟨ccl, cdd, .fields cvs, ccs⟩ ∧ cvs[2]? = some (.str file tf) ∧ ((P.main.file : Str) == file) = true ∧ K.lookup cc = some ⟨cl, cld, .cell (some (.ref C)), csl⟩
  top : (P.main.scope.names.lookup ("super" : Str)).isSome = false
  T : OexC K C
  mro : mroIn K C (.ref C) = some true
  sup : mg ("super" : Str) = none
  any : nsIn K cStatics "thirdparty.any" = some none
  ini : ks_superIn K C C "__init__" = some (some (.builtin "ValueError.__init__"))
  val : subIn K (.ref C) (.type "ValueError") = some true
  iC : findIn K (.ref C) "__init__" = some (some (.ref f))
  tI : typeIn K (.ref f) = some (.type "function")
  b : Binds K fd ps []
  m : mg x = some (.ref C)
def okInt (v : V) : Prop := ∃ n : Int, v = .int n ∧ 0 ≤ n ∧ n < 10 ^ 12
end OPN
section OPN
open PySem PySem.Spec PyProof.Rows
/-- C(e, ..), the context told: the made exception has no context yet -/
theorem pmkN_oex {X : Cx} {CX : CXT} {x : Str} {e : Expr} {es : List Expr} {ta : L2.TA} {p pos : Pos} {C fI : Addr} {k : Nat} {fd : FuncData} {ps : List Str} {sp : Sp} (T : OexC X.K C) (iC : PySem.W.findIn X.K (.ref C) "__init__" = some (some (.ref fI))) (tI : PySem.W.typeIn X.K (.ref fI) = some (.type "function"))
    (F1 : FnOk X.prog X.w X.K X.mg X.base CX k fI fd ps sp) (hr : Room (k + 1) X.A) (hb : Binds X.K fd ps []) (hx : Passes CX X (fun _ _ _ => False)) (hg : Gl X x) (hm : X.mg x = some (.ref C)) (ha : PA X (e :: es) ta)
    (hdb : (x == ("__debug__" : Str)) = false := by decide) (he : starEach (e :: es) X.env = (false, eval e X.env) :: starEach es X.env := by rfl) (hpl : (backTo pos (starEach es X.env)).any (·.1) = false := by rfl) :
    L2N.PMk X (.Call (.Name x p) (e :: es) [] pos) (tMkO C sp [] ta) := by
  intro pins s σ H Q I h
  obtain ⟨nm, q, N, bs, bm, sn, sub, ab, col, dd, k0, k1, k2, k3, k5, hC, hbm⟩ := T.cls
  refine wpAny_Call_Name_kw (ld_glob I hg hm ?_ hdb)
  refine PySem.W.callWith_K (h₀ := X.base) I.ok.mod.kin T.kC (thn (ha.run pos pins s σ H _ I h) fun us s1 ⟨vs, H1, I1, r1, hz, q1⟩ => ⟨I1.kIn, ?_⟩) he hpl
  show wpAny _ _ (call (.ref C) us) _ _ _
  obtain ⟨hp, g, dr, tk, os⟩ := s1
  have hsz : hp.objs.size ≤ hp.objs.size + 1 := Nat.le_succ _
  have hq := q1 (hp.objs.size + 1) (I1.hok.fresh hsz)
  rw [List.append_nil] at hq
  have kk : ∀ b o, hp.get? b = some o → ((hp.push (PySem.W.kdv_tup us)).push (PySem.HandSPX.excO C hp.objs.size)).get? b = some o := fun b o z => Heap.get?_push_of_some _ (Heap.get?_push_of_some _ z)
  have hget : ((hp.push (PySem.W.kdv_tup us)).push (PySem.HandSPX.excO C hp.objs.size)).get? (hp.objs.size + 1) = some (PySem.HandSPX.excO C hp.objs.size) := by heap_get
  have I2 : Inv X pins σ (upd H1 (hp.objs.size + 1) (exo (hp.objs.size + 1) C none)) ⟨(hp.push (PySem.W.kdv_tup us)).push (PySem.HandSPX.excO C hp.objs.size), g, dr, tk, os⟩ :=
    I1.laid (t' := tk) (a := hp.objs.size + 1) (o := exo (hp.objs.size + 1) C none) (h' := (hp.push (PySem.W.kdv_tup us)).push (PySem.HandSPX.excO C hp.objs.size)) kk hsz (exo_ok hget)
  have r2 : Vals (V.ref (hp.objs.size + 1) :: vs) (Value.ref (hp.objs.size + 1) :: us) := .cons rfl r1
  have hl : (Value.ref (hp.objs.size + 1) :: us ++ []).length = ps.length := by
    have z := r2.length
    rw [F1.len _ _ _ _ hq] at z
    rw [List.append_nil]
    exact z.symm
  have hus : us.length ≤ sizeLine := by
    rw [← Paired.length r1, sizeLine_eq]
    omega
  have b2 := hb _ (Value.ref (hp.objs.size + 1) :: us) I2.kIn hl
  rw [List.append_nil] at b2
  refine wpAny_call (PySem.HandSPX.call_own PySem.F.excBase_ValueError (fun Y => PySem.HandSPX.refsVE_contains Y bm hbm) (I1.kIn _ _ hC) (PySem.W.looks_findIn I1.kIn iC) (fun self => PySem.W.bind_fn I1.kIn self tI) hus
    (codeAny_mono (F1.run _ X.stack _ _ ⟨Value.ref (hp.objs.size + 1) :: us, []⟩ (Value.ref (hp.objs.size + 1) :: us) _ _ (fun _ _ _ => False) (hr.make C us []) (I2.env0.make C us []) b2 r2 hq) fun r s' hq' => ?_))
  cases r with
  | error er => exact hx pins σ _ _ er s' I2 hq'
  | ok fl =>
    cases fl with
    | ret u =>
      obtain ⟨v, H2, os2, bare2, un2, hok2, rv, ev, d, fs, ea, ed, hd1, q2⟩ := hq'
      subst ev
      obtain ⟨h2, g2, d2, t2, os'⟩ := s'
      obtain ⟨t0, G, J, kG, ge, hoe, na⟩ := mk_end0 (d2 := d2) (t2 := t2) I1 hsz kk un2 hok2 os2 bare2 ea ed hd1
      refine ⟨rv, hp.objs.size + 1, _, _, ⟨G, g2, d2, t2, os'⟩, _, .ref C, some d, rfl, J, kG, ge, hoe, ⟨rfl, rfl, fun vs hv => ?_⟩, rfl, rfl, na, rfl, bare2, raises_own T.exC T.tyC, q2⟩
      cases hv
      rfl
    | next => exact False.elim hq'
    | brk => exact False.elim hq'
    | cont => exact False.elim hq'
end OPN
/-! ### a dict of the module: x in d, x not in d -/
section KDI
open PySem PySem.Spec PyProof.Rows
def KDin (K : PySem.W.Frag) (w : World) (a : Addr) (x : Str) (r : Option Value) : Prop :=
  ∃ es n, K.lookup a = some ⟨.type "dict", none, .dict es n, #[]⟩ ∧ PySem.W.KeysLit w.params es.toList ∧ PySem.W.nsIn K a x = some r ∧ (a == sysModules) = false
def rNInD (K : PySem.W.Frag) (w : World) : R2 := fun x y H Q => ∃ z p r, x = .str z ∧ y = .ref p ∧ KDin K w p z r ∧ Q (.bl (!r.isSome)) H
theorem op_notInKD {X : Cx} : OpR X (compareOp .NotIn) (rNInD X.K X.w) := by
  intro pins s σ H x y v u Q I rx ry h
  obtain ⟨z, p, r, rfl, rfl, ⟨es, n, hl, hk, e, hd⟩, q⟩ := h
  obtain ⟨t, rfl⟩ := (show ∃ t, v = Value.str z t from rx)
  obtain rfl : u = Value.ref p := ry
  have hm := PySem.W.mapOf_K (prog := X.prog) (w := X.w) I.kIn hl hk
  refine wpAny_notIn_of (strKind_is X.prog X.w z t) hd hm ?_
  rw [PySem.W.find_K hl e]
  exact fin_bl (I.tok _) q rfl
def rInD (K : PySem.W.Frag) (w : World) : R2 := fun x y H Q => ∃ z p r, x = .str z ∧ y = .ref p ∧ KDin K w p z r ∧ Q (.bl r.isSome) H
theorem op_inKD {X : Cx} : OpR X (compareOp .In) (rInD X.K X.w) := by
  intro pins s σ H x y v u Q I rx ry h
  obtain ⟨z, p, r, rfl, rfl, ⟨es, n, hl, hk, e, hd⟩, q⟩ := h
  obtain ⟨t, rfl⟩ := (show ∃ t, v = Value.str z t from rx)
  obtain rfl : u = Value.ref p := ry
  have hm := PySem.W.mapOf_K (prog := X.prog) (w := X.w) I.kIn hl hk
  refine wpAny_in_of (strKind_is X.prog X.w z t) hd hm ?_
  rw [PySem.W.find_K hl e]
  exact fin_bl (I.tok _) q rfl
end KDI
/-! ### xs[a:c] = ys -/
section SLC
open PySem PySem.Spec PyProof.Rows
def gSlc (to ta tc : TE) : TG := fun v σ H Q => to σ H fun o H1 => tPart ta σ H1 fun a H2 => tPart tc σ H2 fun c H3 => ∃ (l b : Addr) (xs ys : List V) (i j : Int), o = .ref l ∧ v = .ref b ∧ a = some i ∧ c = some j ∧ H3 l = some (.lst xs) ∧ H3 b = some (.lst ys) ∧ l ≠ b ∧ 0 ≤ i ∧ i ≤ j ∧ j ≤ xs.length ∧ xs.length + ys.length ≤ sizeLine ∧ Q σ (upd H3 l (.lst (xs.take i.toNat ++ ys ++ xs.drop j.toNat)))
theorem pg_slc {X : Cx} {o i j : Expr} {to ta tc : TE} {p2 pos : Pos} (ho : PE X o to) (hi : PE X i ta) (hj : PE X j tc)
    (ha : ∀ v, assign (.Subscript o (.Slice (some i) (some j) none p2) pos) X.env v = (do
      let ov ← holding [v] (eval o X.env)
      let iv ← holding [v, ov] (eval (.Slice (some i) (some j) none p2) X.env)
      standAt pos
      holding [v, ov, iv] (setItem ov iv v)
      release [iv, v, ov] []) := by intro _; rfl) : PG X (.Subscript o (.Slice (some i) (some j) none p2) pos) (gSlc to ta tc) := by
  refine ⟨fun pins s σ H v u Q I r h => ?_⟩
  rw [ha]
  refine wpAny_bind (wpAny_holding (thn (ho.run pins s σ H _ I h) fun ov s1 ⟨x, H1, I1, r1, q1⟩ => ?_))
  refine wpAny_bind (wpAny_holding ?_)
  refine wpAny_Slice (thn ((po_some hi).run pins s1 σ H1 _ I1 q1) fun vl s2 ⟨lo, H2, I2, pl, q2⟩ => thn ((po_some hj).run pins s2 σ H2 _ I2 q2) fun vu s3 ⟨up, H3, I3, pu, q3⟩ => ?_)
  obtain ⟨l, b, xs, ys, i, j, rfl, rfl, rfl, rfl, hl, hb, hne, h0, h1, h2, h3, q⟩ := q3
  rw [evalPart_none]
  refine wpAny_pure ?_
  have I4 : Inv X pins σ H3 { s3 with heap := s3.heap.push { cls := .type "slice", data := .fields #[vl, vu, .none] } } := I3.kept (t' := s3.toks) fun b ob q => Heap.get?_push_of_some _ q
  cases (show ov = Value.ref l from r1)
  cases (show u = Value.ref b from r)
  cases pl with
  | int _ tl =>
    cases pu with
    | int _ tu =>
      refine wpAny_bind (wpAny_standAt (wpAny_bind (wpAny_holding (set_slice (s := { s3 with heap := s3.heap.push { cls := .type "slice", data := .fields #[.int i tl, .int j tu, .none] } }) (a := i) (c := j) I4 hl hb hne (Heap.IsSliceOf.new ..) ⟨_, rfl⟩ ⟨_, rfl⟩ h0 h1 h2 h3 fun s' I' => ?_))))
      exact wpAny_release ⟨σ, _, I', q⟩
end SLC
/-! ### enumerate(a tuple) -/
theorem enumT_new (q : Addr) (its : Array Value) (m : Nat) (dc : Option Addr) (so : Array (Option Value)) :
    PySem.Meets (Builtin.«enumerate.__new__» ⟨[.type "enumerate", .ref q], []⟩) (fun _ Rr st => st.heap.get? q = some { cls := .type "tuple", dict := dc, data := .seq its m, slots := so } ∧
      Rr (.ok (.ret (.ref (st.heap.push { cls := .type "tuple_iterator", data := .fields #[.ref q, .int 0 0] }).objs.size)))
        { st with heap := (st.heap.push { cls := .type "tuple_iterator", data := .fields #[.ref q, .int 0 0] }).push { cls := .type "enumerate", data := .fields #[.none, .bool false, .ref st.heap.objs.size, rawInt 0, .none, .none] } }) :=
  .of_wp fun prog w A Rr st y => by
    obtain ⟨hp, gg, dd, tk, oo⟩ := st
    obtain ⟨hl, y⟩ := y
    have hsub := PySem.sub_enumerate
    have hT : PySem.Heap.IsTuple (Shared.heap ⟨hp, gg, dd, tk, oo⟩) q its := ⟨_, hl, rfl, m, rfl⟩
    wp_walk using PySem.AutoSeq1.wpAny_loadPart' hl
    refine wpAny_stack_any fun ss => wpAny_pure ?_
    split
    · rename_i cc _ _ _ _ _
      cases (cc == Value.type "enumerate")
      · wp_walk using PySem.AutoSeq1.wpAny_loadPart' hl, PySem.wpAny_pyIter_tuple hT
        exact ⟨_, rfl, y⟩
      · wp_walk using PySem.AutoSeq1.wpAny_loadPart' hl, PySem.wpAny_pyIter_tuple hT
        exact ⟨_, rfl, y⟩
    · wp_walk using PySem.AutoSeq1.wpAny_loadPart' hl, PySem.wpAny_pyIter_tuple hT
      exact ⟨_, rfl, y⟩
theorem enumT_call {prog : Program} {w : World} {A : Around} {Ex : Value → Shared → Prop} {st : Shared} {q : Addr} {its : Array Value} {Qq : Value → Shared → Prop} (hT : st.heap.IsTuple q its)
    (y : ∀ g', PySem.IsEnum g' (st.heap.objs.size + 1) st.heap.objs.size 0 .none → g'.IsTupleIter st.heap.objs.size q 0 → (∀ b o, st.heap.get? b = some o → g'.get? b = some o) → Qq (.ref (st.heap.objs.size + 1)) { st with heap := g' }) :
    wpAny (model prog w) A (call (.type "enumerate") [.ref q]) Qq Ex st := by
  obtain ⟨⟨cc, dc, dt, so⟩, hl, h1, m, h2⟩ := hT
  have h1 : cc = .type "tuple" := h1
  have h2 : dt = .seq its m := h2
  subst h1 h2
  refine PySem.callType_new PySem.F.called_enumerate (by decide) (PySem.F.typeCall_enumerate_1 _) (PySem.F.newCall_enumerate_1 _) (fun ob => PySem.F.args_object_init_2 ob _) PySem.F.entry_enumerate_new (enumT_new q its m dc so) ⟨hl, ?_⟩
  have e1 : (st.heap.push { cls := .type "tuple_iterator", data := .fields #[.ref q, .int 0 0] }).objs.size = st.heap.objs.size + 1 := Heap.size_push ..
  show _ ∧ _
  rw [e1]
  have e2 : PySem.IsEnum ((st.heap.push { cls := .type "tuple_iterator", data := .fields #[.ref q, .int 0 0] }).push { cls := .type "enumerate", data := .fields #[.none, .bool false, .ref st.heap.objs.size, rawInt 0, .none, .none] }) (st.heap.objs.size + 1) st.heap.objs.size 0 .none := by
    have e3 := Heap.get?_push_size (st.heap.push { cls := .type "tuple_iterator", data := .fields #[.ref q, .int 0 0] }) (o := { cls := .type "enumerate", data := .fields #[.none, .bool false, .ref st.heap.objs.size, rawInt 0, .none, .none] }) rfl
    rw [e1] at e3
    exact e3
  exact ⟨⟨_, e2, rfl⟩, y _ e2 ⟨_, Heap.get?_push_of_some _ (Heap.get?_push_size _ rfl), rfl, rfl⟩ fun b o z => Heap.get?_push_of_some _ (Heap.get?_push_of_some _ z)⟩
/-- the tuple at q, each item in a new pair -/
def ItET (Kf : PySem.W.Frag) (q : Addr) : It :=
  ⟨fun j G => ∃ (xs : List V) (v : V), SqT Kf G q xs ∧ xs[j]? = some v, fun j G v G' => ∃ p u, v = .ref p ∧ G p = none ∧ G' = upd G p (.tup [.int (j : Nat), u]) ∧ ∀ xs, SqT Kf G q xs → xs[j]? = some u, fun j G => ∃ xs : List V, SqT Kf G q xs ∧ xs.length = j⟩
theorem turn_ET {Pr : Program} {wo : World} {Kf : PySem.W.Frag} {ts : List Expr} {nn : Nat} {tp : Pos} (q en it : Addr) :
    Turn Pr wo Kf (.Tuple ts nn tp) (ItET Kf q) [en, it] en (fun j g => (∃ old, PySem.IsEnum g en it ((j : Nat) : Int) old) ∧ g.IsTupleIter it q j ∧ en ≠ it) where
  mem := List.mem_cons_self
  obj := fun j g st b hb => by
    obtain ⟨⟨old, h1⟩, ⟨ob, h2, h3, h4⟩, _⟩ := st
    rcases List.mem_cons.mp hb with rfl | hb
    · exact ⟨_, h1, fun v y => nomatch y⟩
    · cases List.mem_singleton.mp hb
      refine ⟨ob, h2, fun v y => ?_⟩
      rw [h4] at y
      cases y
  keep := fun j g g' st kk => by
    obtain ⟨⟨old, h1⟩, ⟨ob, h2, h3⟩, h5⟩ := st
    exact ⟨⟨old, kk en List.mem_cons_self _ h1⟩, ⟨ob, kk it (List.mem_cons_of_mem _ List.mem_cons_self) _ h2, h3⟩, h5⟩
  item := by
    intro X e1 e2 e3 calm j pins s σ G Ex inv fp st lt
    cases e1
    cases e2
    cases e3
    obtain ⟨⟨old, h1⟩, h2, ne⟩ := st
    obtain ⟨xs, v, hq, hv⟩ := lt
    obtain ⟨its, rv, hT, hz⟩ := inv.tuple hq
    obtain ⟨u, hu, ru⟩ := rv.get hv
    have l1 : en < s.heap.objs.size := Heap.lt_size h1
    have l2 : it < s.heap.objs.size := by
      obtain ⟨_, y, _⟩ := h2
      exact Heap.lt_size y
    have nqi : q ≠ it := fun z => by
      obtain ⟨o1, y1, y2, _⟩ := hT
      obtain ⟨o2, y3, y4, _⟩ := h2
      rw [z, y3] at y1
      cases y1
      rw [y4] at y2
      exact absurd y2 (by decide +kernel)
    have nqe : en ≠ q := fun z => by
      obtain ⟨o1, y1, y2, _⟩ := hT
      rw [← z, h1] at y1
      cases y1
      exact absurd (show Value.type "enumerate" = Value.type "tuple" from y2) (by decide +kernel)
    have lt : j < its.toArray.size := by
      have y := (List.getElem?_eq_some_iff.mp hu).1
      simpa using y
    refine PySem.wpAny_pyNext_enum_itemD (PySem.Draws.tuple (show X.A.in1.handled = none from inv.ok.hd calm) it q nqi its.toArray) h1 ⟨h2, hT⟩ lt ne (fun y => ?_) fun u' g' t2 hu' out h2' hT' sz kp => ?_
    · rcases List.mem_cons.mp y with z | z
      · exact ne z
      · exact nqe (List.mem_singleton.mp z)
    have eu : u' = u := by
      have y : its.toArray[j]? = some u' := hu'
      rw [List.getElem?_toArray, hu] at y
      exact (Option.some.inj y).symm
    subst eu
    refine ⟨_, rfl, PySem.wpAny_letOwnedTupleGo_enum (s := { s with heap := g', toks := t2 + 1 }) out fun g'' h1' sb => ?_⟩
    have hT2 : g''.get? s.heap.objs.size = some { cls := .type "tuple", data := .seq #[.int j t2, u'] } := (sb.2 _ (Nat.ne_of_gt l1)).trans hT'
    have made : ObjOk X.prog X.w (upd G s.heap.objs.size (.tup [.int (j : Nat), v])) g'' s.heap.objs.size (.tup [.int (j : Nat), v]) :=
      ⟨two_le, [.int j t2, u'], .cons ⟨_, rfl⟩ (.cons ru .nil), ⟨_, hT2, rfl, _, rfl⟩⟩
    have inv' : Inv X pins σ (upd G s.heap.objs.size (.tup [.int (j : Nat), v])) { s with heap := g'', toks := t2 + 1 } := by
      refine Inv.turnedNew (ch := [en, it]) inv (fun b ob nb y => ?_) fp (Nat.le_refl _) made
      have n1 : b ≠ en := fun y => nb (by rw [y]; exact List.mem_cons_self)
      have n2 : b ≠ it := fun y => nb (by rw [y]; exact List.mem_cons_of_mem _ List.mem_cons_self)
      exact (sb.2 b n1).trans (kp b ob n1 n2 y)
    refine ⟨.ref s.heap.objs.size, _, inv', rfl, ⟨_, v, rfl, inv.hok.fresh (Nat.le_refl _), rfl, fun ys hy => by rw [inv.tuple_inj hy hq]; exact hv⟩, ⟨⟨u', ?_⟩, ?_, ne⟩, fun b hb => ?_⟩
    · rw [show (((j + 1 : Nat) : Nat) : Int) = (j : Int) + 1 by omega]
      exact h1'
    · obtain ⟨ob, y1, y2⟩ := h2'.1
      exact ⟨ob, (sb.2 it (Ne.symm ne)).trans y1, y2⟩
    · have lb : b < s.heap.objs.size := by
        rcases List.mem_cons.mp hb with rfl | hb
        · exact l1
        · cases List.mem_singleton.mp hb
          exact l2
      rw [upd_ne (Nat.ne_of_lt lb)]
      exact (fp b hb).1
  done := by
    intro X e1 e2 e3 calm j pins s σ G Ex inv fp st ge
    cases e1
    cases e2
    cases e3
    obtain ⟨⟨old, h1⟩, h2, ne⟩ := st
    obtain ⟨xs, hq, hl⟩ := ge
    obtain ⟨its, rv, hT, hz⟩ := inv.tuple hq
    have nqi : q ≠ it := fun z => by
      obtain ⟨o1, y1, y2, _⟩ := hT
      obtain ⟨o2, y3, y4, _⟩ := h2
      rw [z, y3] at y1
      cases y1
      rw [y4] at y2
      exact absurd y2 (by decide +kernel)
    have ej : j = its.toArray.size := by
      have := rv.length
      rw [List.size_toArray]
      omega
    subst ej
    obtain ⟨f0, f1, f2, f3, f4, f5⟩ := fp it (List.mem_cons_of_mem _ List.mem_cons_self)
    exact PySem.wpAny_pyNext_enum_endD (PySem.Draws.tuple (show X.A.in1.handled = none from inv.ok.hd calm) it q nqi its.toArray) h1 ⟨h2, hT⟩ fun g' eb => ⟨rfl, inv.turned (t' := s.toks) (fun b o nb y => eb b o nb y) f0 f1 f3 f4 f5⟩
  self := fun Ar j s Q Ex st y => by
    obtain ⟨⟨_, h1⟩, _⟩ := st
    exact PySem.wpAny_pyIter_enum h1 y
def iET (Kf : PySem.W.Frag) (ta : L2.TA) : TI := fun σ G R => ta σ G fun vs G1 => ∃ q xs, vs = [.ref q] ∧ SqT Kf G1 q xs ∧ R (ItET Kf q) G1
theorem pi_ET {X : Cx} {ex : Expr} {ta : L2.TA} {p pos tp : Pos} {ts : List Expr} {nn : Nat} (gl : Gl X "enumerate") (mm : X.mg "enumerate" = none) (ha : PA X [ex] ta) (hs : starEach [ex] X.env = [(false, eval ex X.env)] := by rfl) :
    PI X (.Tuple ts nn tp) (.Call (.Name "enumerate" p) [ex] [] pos) (iET X.K ta) := by
  refine ⟨fun pins s σ G R inv y => ?_⟩
  refine PyProof.Rows.Call_ (ld_blt inv gl mm PyProof.Rows.boot_enumerate (PyProof.Rows.callWith_type1 (thn (ha.run pos pins s σ G _ inv y) fun us s1 ⟨vs, G1, inv1, r1, q1⟩ => ?_) hs rfl))
  obtain ⟨q, xs, rfl, hq, k⟩ := q1
  cases r1 with
  | cons r rr =>
    cases rr
    cases r
    obtain ⟨its, rv, hT, hz⟩ := inv1.tuple hq
    refine enumT_call hT fun g' h1 h2 kp => PySem.wpAny_pyIter_enum h1 ?_
    refine ⟨s1.heap.objs.size + 1, [s1.heap.objs.size + 1, s1.heap.objs.size], _, _, G1, rfl, inv1.kept (t' := s1.toks) kp, turn_ET q (s1.heap.objs.size + 1) s1.heap.objs.size, ⟨⟨.none, h1⟩, h2, Nat.succ_ne_self _⟩, fun b hb => ?_, k⟩
    have ge : s1.heap.objs.size ≤ b := by
      rcases List.mem_cons.mp hb with rfl | hb
      · exact Nat.le_succ _
      · cases List.mem_singleton.mp hb
        exact Nat.le_refl _
    exact inv1.fpOk ge (inv1.hok.fresh ge)
theorem for_ET {Kf : PySem.W.Frag} {q : Addr} {xs : List V} {g : TG} {tb : TS} {D : Ends} {σ : L2.St} {G : Hp} (Pv : Nat → L2.St → Hp → Prop) (h0 : Pv 0 σ G) (hl : ∀ j σ G, Pv j σ G → SqT Kf G q xs)
    (hs : ∀ j v σ G, xs[j]? = some v → Pv j σ G → ∀ p, G p = none → g (.ref p) σ (upd G p (.tup [.int (j : Nat), v])) fun σ2 G2 => tb { D with nx := Pv (j + 1), ct := Pv (j + 1), bk := D.nx } σ2 G2) (hd : ∀ σ G, Pv xs.length σ G → D.nx σ G) :
    ∃ Wd : Nat → Nat → L2.St → Hp → Prop, (∃ m, Wd 0 m σ G) ∧ ∀ j m σ G, Wd j m σ G →
      ((ItET Kf q).stop j G ∧ D.nx σ G) ∨ ((ItET Kf q).go j G ∧ ∃ Nn : L2.St → Hp → Prop, (∀ σ' G', Nn σ' G' → ∃ m', m' < m ∧ Wd (j + 1) m' σ' G') ∧ ∀ v G', (ItET Kf q).yld j G v G' → g v σ G' fun σ2 G2 => tb { D with nx := Nn, ct := Nn, bk := D.nx } σ2 G2) := by
  refine ⟨fun j m σ G => m = xs.length - j ∧ j ≤ xs.length ∧ Pv j σ G, ⟨_, rfl, Nat.zero_le _, h0⟩, ?_⟩
  rintro j m σ G ⟨rfl, le, pv⟩
  have hq := hl j σ G pv
  rcases Nat.lt_or_ge j xs.length with lt | ge
  · refine .inr ⟨⟨xs, xs[j], hq, List.getElem?_eq_getElem lt⟩, Pv (j + 1), fun σ' G' y => ⟨xs.length - (j + 1), by omega, rfl, lt, y⟩, fun v G' y => ?_⟩
    obtain ⟨p, u, rfl, np, rfl, hu⟩ := y
    exact hs j u σ G (hu xs hq) pv p np
  · have ej : j = xs.length := Nat.le_antisymm le ge
    subst ej
    exact .inl ⟨⟨xs, hq, rfl⟩, hd σ G pv⟩
/-! ### for over enumerate(a list) -/
section ENL
open PySem PySem.Spec PyProof.Rows
theorem for_EL {Kf : PySem.W.Frag} {q : Addr} {xs : List V} {g : TG} {tb : TS} {D : Ends} {σ : L2.St} {G : Hp} (Pv : Nat → L2.St → Hp → Prop) (h0 : Pv 0 σ G) (hl : ∀ j σ G, Pv j σ G → SqL Kf G q xs)
    (hs : ∀ j v σ G, xs[j]? = some v → Pv j σ G → ∀ p, G p = none → g (.ref p) σ (upd G p (.tup [.int (j : Nat), v])) fun σ2 G2 => tb { D with nx := Pv (j + 1), ct := Pv (j + 1), bk := D.nx } σ2 G2) (hd : ∀ σ G, Pv xs.length σ G → D.nx σ G) :
    ∃ Wd : Nat → Nat → L2.St → Hp → Prop, (∃ m, Wd 0 m σ G) ∧ ∀ j m σ G, Wd j m σ G →
      ((Ite Kf q).stop j G ∧ D.nx σ G) ∨ ((Ite Kf q).go j G ∧ ∃ Nn : L2.St → Hp → Prop, (∀ σ' G', Nn σ' G' → ∃ m', m' < m ∧ Wd (j + 1) m' σ' G') ∧ ∀ v G', (Ite Kf q).yld j G v G' → g v σ G' fun σ2 G2 => tb { D with nx := Nn, ct := Nn, bk := D.nx } σ2 G2) := by
  refine ⟨fun j m σ G => m = xs.length - j ∧ j ≤ xs.length ∧ Pv j σ G, ⟨_, rfl, Nat.zero_le _, h0⟩, ?_⟩
  rintro j m σ G ⟨rfl, le, pv⟩
  have hq := hl j σ G pv
  rcases Nat.lt_or_ge j xs.length with lt | ge
  · refine .inr ⟨⟨xs, xs[j], hq, List.getElem?_eq_getElem lt⟩, Pv (j + 1), fun σ' G' y => ⟨xs.length - (j + 1), by omega, rfl, lt, y⟩, fun v G' y => ?_⟩
    obtain ⟨p, u, rfl, np, rfl, hu⟩ := y
    exact hs j u σ G (hu xs hq) pv p np
  · have ej : j = xs.length := Nat.le_antisymm le ge
    subst ej
    exact .inl ⟨⟨xs, hq, Nat.le_refl _⟩, hd σ G pv⟩
end ENL
def top (i : Nat) : Stmt := PySem.Challenge.pw_uponboth_k10_lists_of_steps.main.body.getD i (.Pass ⟨0, 0, 0, 0⟩)
structure Blt (mg : Str → Option Value) : Prop where
  len : mg "len" = none
  list : mg "list" = none
  tuple : mg "tuple" = none
  dict : mg "dict" = none
  bool : mg "bool" = none
  isinstance : mg "isinstance" = none
  max : mg "max" = none
  min : mg "min" = none
  range : mg "range" = none
  all : mg "all" = none
  sorted : mg "sorted" = none
  enumerate : mg "enumerate" = none
  sum : mg "sum" = none
  str : mg "str" = none
  int : mg "int" = none
/-- the state of the draws: a list of ints, a place, a rest, a seed -/
def Rng (H : Hp) (r : Addr) : Prop := ∃ (c : Addr) (ns : List Int) (i b s : Int), H r = some (.lst [.ref c, .int i, .int b, .int s]) ∧ H c = some (.lst (ns.map V.int)) ∧ c ≠ r ∧ 0 ≤ i ∧ 0 ≤ b ∧ 0 ≤ s ∧ s < 2147483647
theorem Rng.lst {H : Hp} {r : Addr} (h : Rng H r) : ∃ ys, H r = some (.lst ys) := by
  obtain ⟨c, ns, i, b, s, h, _⟩ := h
  exact ⟨_, h⟩
theorem Rng.same {H H' : Hp} {r : Addr} (e : Same H H') (h : Rng H r) : Rng H' r := by
  obtain ⟨c, ns, i, b, s, h1, h2, h3⟩ := h
  exact ⟨c, ns, i, b, s, e _ _ h1, e _ _ h2, h3⟩
theorem cut63 {ns : List Int} : cutV (ns.map V.int) none (some 63) = (ns.take 63).map V.int := by
  unfold cutV
  rw [HT.sIx_none, show HT.sIx (ns.map V.int).length (ns.map V.int).length (some 63) = min 63 (ns.map V.int).length from HT.sIx_nat _ _ 63]
  rw [List.drop_zero, Nat.sub_zero, List.map_take]
  rcases Nat.le_total 63 (ns.map V.int).length with h | h
  · rw [Nat.min_eq_left h]
  · rw [Nat.min_eq_right h, List.take_of_length_le (Nat.le_refl _), List.take_of_length_le h]
def spDraws (K : PySem.W.Frag) : Sp := fun vs H Q _ => ∃ (a : Addr) (ns : List Int), vs = [.ref a] ∧ SqL K H a (ns.map V.int) ∧ ∀ (r : Addr) (H' : Hp), Same H H' → H r = none → Rng H' r → Q (.ref r) H'
def spDraw : Sp := fun vs H Q _ => ∃ (r : Addr) (n : Int), vs = [.ref r, .int n] ∧ Rng H r ∧ 0 < n ∧ n < 1073741824 ∧ ∀ (v : Int) (H' : Hp), 0 ≤ v → v < n → Rng H' r → But r H H' → Q (.int v) H'
theorem fn_none {P : Program} {w : World} {K : PySem.W.Frag} {mg : Str → Option Value} {base : Heap} {f : Addr} {fd : FuncData} {CX : CXT} {ps : List Str} {sp : Sp} {k : Nat} (no : ∀ vs H Q E, ¬ sp vs H Q E) : FnOk P w K mg base CX k f fd ps sp :=
  ⟨fun vs H Q E h => absurd h (no vs H Q E), fun A outer s H args us vs Q E _ _ _ _ h => absurd h (no vs H Q E)⟩
def spTerm (K : PySem.W.Frag) (n : Nat) : Sp := fun vs H Q _ => ∃ (r : Addr) (many : Int) (k : Nat), k < n ∧ vs = [.ref r, .int many, .int (2 ^ k)] ∧ k ≤ 6 ∧ 1 ≤ many ∧ many ≤ 2 ^ k ∧ Rng H r ∧
  ∀ (v : V) (t : Tree) (H' : Hp), TA K H' v t → (t.sz : Int) = many → t.dp ≤ k → Rng H' r → But r H H' → Q v H'
def spComb (K : PySem.W.Frag) : Sp := fun vs H Q _ => ∃ (m : Int) (b : Bool), vs = [.int m, .bl b] ∧ 1 ≤ m ∧ m ≤ 40 ∧
  ∀ (v : V) (t : Tree) (H' : Hp), TA K H' v t → (t.sz : Int) = m → (t.dp : Int) = m - 1 → Same H H' → Q v H'
def spAny (K : PySem.W.Frag) : Sp := fun vs H Q _ => ∃ (r : Addr) (top : Int), vs = [.ref r, .int top] ∧ 1 ≤ top ∧ top ≤ 64 ∧ Rng H r ∧
  ∀ (v : V) (t : Tree) (H' : Hp), TA K H' v t → (t.sz : Int) ≤ top → t.dp ≤ 6 → Rng H' r → But r H H' → Q v H'
/-- a def over one tree that gives g of it and makes nothing that stays -/
def spTree (K : PySem.W.Frag) (g : Tree → V) (n : Nat) : Sp := fun vs H Q _ => ∃ (v : V) (t : Tree), vs = [v] ∧ TA K H v t ∧ t.dp < n ∧ n ≤ 40 ∧ ∀ H', Same H H' → Q (g t) H'
theorem spTree_no {K : PySem.W.Frag} {g : Tree → V} : ∀ vs H Q E, ¬ spTree K g 0 vs H Q E := fun vs H Q E h => by
  obtain ⟨v, t, _, _, h, _⟩ := h
  omega
def spIsPair (K : PySem.W.Frag) : Sp := fun vs H Q _ => ∃ (v : V) (t : Tree), vs = [v] ∧ TA K H v t ∧ Q (.bl (!t.isL)) H
def spOkTerm (K : PySem.W.Frag) (g : V) : Sp := fun vs H Q _ => ∃ (v : V) (t : Tree), vs = [v] ∧ TA K H v t ∧ t.sz ≤ 12 ∧ t.dp ≤ 6 ∧ ∀ H', Same H H' → Q g H'
/-- an item of the pile: a term and how deep it stands -/
def Item (K : PySem.W.Frag) (H : Hp) (p : V × Tree × Nat) : Prop := ∃ (a : Addr) (u : V), p.1 = .ref a ∧ SqT K H a [u, .int p.2.2] ∧ TA K H u p.2.1 ∧ p.2.2 + p.2.1.dp ≤ 6
theorem Item.mono {K : PySem.W.Frag} {H H' : Hp} (e : Tp H H') {p : V × Tree × Nat} (h : Item K H p) : Item K H' p := by
  obtain ⟨a, u, h1, h2, h3, h4⟩ := h
  exact ⟨a, u, h1, e.sqT h2, ta_mono e h3, h4⟩
def szs (ps : List (V × Tree × Nat)) : Nat := (ps.map fun p => p.2.1.sz).sum
def nds (ps : List (V × Tree × Nat)) : Nat := (ps.map fun p => p.2.1.nodes).sum
theorem szs_snoc (ps : List (V × Tree × Nat)) (p) : szs (ps ++ [p]) = szs ps + p.2.1.sz := by
  unfold szs
  rw [List.map_append, List.sum_append]
  simp
theorem nds_snoc (ps : List (V × Tree × Nat)) (p) : nds (ps ++ [p]) = nds ps + p.2.1.nodes := by
  unfold nds
  rw [List.map_append, List.sum_append]
  simp
theorem szs_len : ∀ ps : List (V × Tree × Nat), ps.length ≤ szs ps
  | [] => Nat.zero_le _
  | p :: ps => by
    have h := szs_len ps
    have h2 := p.2.1.sz_pos
    show ps.length + 1 ≤ (p.2.1.sz :: ps.map fun p => p.2.1.sz).sum
    rw [List.sum_cons]
    unfold szs at h
    omega
structure Cst (mg : Str → Option Value) : Prop where
  MAX_SIZE : ∃ t, mg "MAX_SIZE" = some (.int 12 t)
  MAX_DEPTH : ∃ t, mg "MAX_DEPTH" = some (.int 6 t)
def spOkTree (K : PySem.W.Frag) (g : Tree → V) : Sp := fun vs H Q _ => ∃ (v : V) (t : Tree), vs = [v] ∧ TA K H v t ∧ t.sz ≤ 12 ∧ t.dp ≤ 6 ∧ ∀ H', Same H H' → Q (g t) H'
def Tree.spine : Tree → List Tree
  | .L => [.L]
  | .N l r => .N l r :: l.spine
def spSpine (K : PySem.W.Frag) : Sp := fun vs H Q _ => ∃ (v : V) (t : Tree), vs = [v] ∧ TA K H v t ∧ t.sz ≤ 12 ∧ t.dp ≤ 6 ∧ ∀ (p : Addr) (vs : List V) (H' : Hp), Same H H' → H p = none → H' p = some (.lst vs) → DpAll K H' vs (t.spine.map Tree.d) → Q (.ref p) H'
theorem dpAll_snoc {K : PySem.W.Frag} {H : Hp} : ∀ {vs : List V} {ds : List PyData} {v : V} {d : PyData}, DpAll K H vs ds → Dp K H v d → DpAll K H (vs ++ [v]) (ds ++ [d])
  | _, _, _, _, .nil, h => .cons h .nil
  | _, _, _, _, .cons h1 h2, h => .cons h1 (dpAll_snoc h2 h)
theorem dpAll_len {K : PySem.W.Frag} {H : Hp} : ∀ {vs : List V} {ds : List PyData}, DpAll K H vs ds → vs.length = ds.length
  | _, _, .nil => rfl
  | _, _, .cons _ h2 => congrArg (· + 1) (dpAll_len h2)
theorem dpAll_at {K : PySem.W.Frag} {H : Hp} : ∀ {vs : List V} {ds : List PyData}, DpAll K H vs ds → ∀ (i : Nat) (d : PyData), ds[i]? = some d → ∃ v, vs[i]? = some v ∧ Dp K H v d
  | _, _, .nil, i, d, e => by simp at e
  | _, _, .cons h1 h2, 0, d, e => ⟨_, rfl, by cases e; exact h1⟩
  | _, _, .cons h1 h2, i + 1, d, e => dpAll_at h2 i d e
theorem dpAll_tp {K : PySem.W.Frag} {H H' : Hp} (e : Tp H H') : ∀ {ts : List Tree} {vs : List V}, DpAll K H vs (ts.map Tree.d) → DpAll K H' vs (ts.map Tree.d)
  | [], _, h => by
    cases h
    exact .nil
  | t :: ts, _, h => by
    cases h with
    | cons h1 h2 => exact .cons (ta_mono e h1) (dpAll_tp e h2)
theorem Tree.spine_len : ∀ t : Tree, t.spine.length ≤ t.dp + 1
  | .L => Nat.le_refl _
  | .N l r => by
    have h := spine_len l
    show l.spine.length + 1 ≤ max l.dp r.dp + 1 + 1
    omega
theorem Tree.spine_mem : ∀ {t u : Tree}, u ∈ t.spine → u.dp ≤ t.dp
  | .L, u, h => by
    cases List.mem_singleton.mp h
    exact Nat.le_refl _
  | .N l r, u, h => by
    rcases List.mem_cons.mp h with e | h
    · rw [e]
      exact Nat.le_refl _
    · have h2 := spine_mem h
      show u.dp ≤ max l.dp r.dp + 1
      omega
theorem Tree.spine_self : ∀ t : Tree, t ∈ t.spine
  | .L => List.mem_singleton.mpr rfl
  | .N _ _ => List.mem_cons_self
/-- the walk down the left: at p stands the list of what was met, its last one is still to be looked at -/
def Spn (K : PySem.W.Frag) (H H' : Hp) (p : Addr) (t : Tree) (m : Nat) : Prop := ∃ (vs : List V) (u : V) (ts : List Tree) (t' : Tree), Same H H' ∧ H' p = some (.lst (vs ++ [u])) ∧ DpAll K H' vs (ts.map Tree.d) ∧ TA K H' u t' ∧ ts ++ t'.spine = t.spine ∧ m = t'.nodes
theorem Spn.dp {t t' : Tree} {ts : List Tree} (et : ts ++ t'.spine = t.spine) (hd : t.dp ≤ 6) : t'.dp ≤ 63 := by
  have h : t' ∈ t.spine := by
    rw [← et]
    exact List.mem_append_right _ t'.spine_self
  have := Tree.spine_mem h
  omega
theorem Spn.lt {K : PySem.W.Frag} {H' : Hp} {vs : List V} {u : V} {t t' : Tree} {ts : List Tree} (hA : DpAll K H' vs (ts.map Tree.d)) (et : ts ++ t'.spine = t.spine) (hd : t.dp ≤ 6) : (vs ++ [u]).length < sizeLine := by
  have h1 := dpAll_len hA
  have h2 := congrArg List.length et
  have h3 := t.spine_len
  rw [List.length_map] at h1
  rw [List.length_append] at h2
  rw [List.length_append, List.length_singleton]
  exact small1000 (by omega)
theorem Spn.next {K : PySem.W.Frag} {H H' : Hp} {p p5 b : Addr} {vs : List V} {x1 x2 : V} {t l r : Tree} {ts : List Tree} (hp0 : H p = none) (sm : Same H H') (s5 : Same H' (upd H' p5 (.tup []))) (hl : H' p = some (.lst (vs ++ [.ref b]))) (hA : DpAll K H' vs (ts.map Tree.d)) (hS : SqT K H' b [x1, x2]) (hL : TA K H' x1 l) (hR : TA K H' x2 r)
    (et : ts ++ (Tree.N l r).spine = t.spine) : Spn K H (upd (upd H' p5 (.tup [])) p (.lst ((vs ++ [.ref b]) ++ [x1]))) p t l.nodes := by
  have tp : Tp H' (upd (upd H' p5 (.tup [])) p (.lst ((vs ++ [.ref b]) ++ [x1]))) := (Tp.same s5).trans (Tp.but (s5 _ _ hl) But.set)
  refine ⟨vs ++ [.ref b], x1, ts ++ [.N l r], l, fun c o e => ?_, upd_same, ?_, ta_mono tp hL, ?_, rfl⟩
  · rw [upd_ne (ne_of_none e hp0)]
    exact s5 _ _ (sm _ _ e)
  · rw [List.map_append]
    exact dpAll_snoc (dpAll_tp tp hA) (ta_node (tp.sqT hS) (ta_mono tp hL) (ta_mono tp hR))
  · rw [List.append_assoc]
    exact et
/-! ### data and their built-in types -/
def tn : PyData → String
  | .none => "NoneType"
  | .bool _ => "bool"
  | .int _ => "int"
  | .str _ => "str"
  | .list _ => "list"
  | .tuple _ => "tuple"
  | .dict _ => "dict"
def isT : PyData → Bool
  | .tuple _ => true
  | _ => false
def isLs : PyData → Bool
  | .list _ => true
  | _ => false
def isB : PyData → Bool
  | .bool _ => true
  | _ => false
theorem dp_ty {K : PySem.W.Frag} {H : Hp} {x : V} {d : PyData} (h : Dp K H x d) : TyX K H x (.type (tn d)) := by
  cases h with
  | non => exact .base .non
  | bl b => exact .base (.bl b)
  | int i => exact .base (.int i)
  | str z => exact .base (.str z)
  | lst hs _ => exact tyx_lst hs
  | tup hs _ => exact tyx_tup hs
theorem kit_dict {K : PySem.W.Frag} {H : Hp} {x : V} {d : PyData} (h : Dp K H x d) : PySem.W.kitOne K (.type (tn d)) (.type "dict") = some false := by
  cases h with
  | non => exact kit_ty (show kitB "NoneType" "dict" = some false by decide +kernel)
  | bl _ => exact kit_ty (show kitB "bool" "dict" = some false by decide +kernel)
  | int _ => exact kit_ty (show kitB "int" "dict" = some false by decide +kernel)
  | str _ => exact kit_ty (show kitB "str" "dict" = some false by decide +kernel)
  | lst _ _ => exact kit_ty (show kitB "list" "dict" = some false by decide +kernel)
  | tup _ _ => exact kit_ty (show kitB "tuple" "dict" = some false by decide +kernel)
theorem kit_tuple {K : PySem.W.Frag} {H : Hp} {x : V} {d : PyData} (h : Dp K H x d) : PySem.W.kitOne K (.type (tn d)) (.type "tuple") = some (isT d) := by
  cases h with
  | non => exact kit_ty (show kitB "NoneType" "tuple" = some false by decide +kernel)
  | bl _ => exact kit_ty (show kitB "bool" "tuple" = some false by decide +kernel)
  | int _ => exact kit_ty (show kitB "int" "tuple" = some false by decide +kernel)
  | str _ => exact kit_ty (show kitB "str" "tuple" = some false by decide +kernel)
  | lst _ _ => exact kit_ty (show kitB "list" "tuple" = some false by decide +kernel)
  | tup _ _ => exact kit_ty (show kitB "tuple" "tuple" = some true by decide +kernel)
theorem kit_list {K : PySem.W.Frag} {H : Hp} {x : V} {d : PyData} (h : Dp K H x d) : PySem.W.kitOne K (.type (tn d)) (.type "list") = some (isLs d) := by
  cases h with
  | non => exact kit_ty (show kitB "NoneType" "list" = some false by decide +kernel)
  | bl _ => exact kit_ty (show kitB "bool" "list" = some false by decide +kernel)
  | int _ => exact kit_ty (show kitB "int" "list" = some false by decide +kernel)
  | str _ => exact kit_ty (show kitB "str" "list" = some false by decide +kernel)
  | lst _ _ => exact kit_ty (show kitB "list" "list" = some true by decide +kernel)
  | tup _ _ => exact kit_ty (show kitB "tuple" "list" = some false by decide +kernel)
theorem kit_bool {K : PySem.W.Frag} {H : Hp} {x : V} {d : PyData} (h : Dp K H x d) : PySem.W.kitOne K (.type (tn d)) (.type "bool") = some (isB d) := by
  cases h with
  | non => exact kit_ty (show kitB "NoneType" "bool" = some false by decide +kernel)
  | bl _ => exact kit_ty (show kitB "bool" "bool" = some true by decide +kernel)
  | int _ => exact kit_ty (show kitB "int" "bool" = some false by decide +kernel)
  | str _ => exact kit_ty (show kitB "str" "bool" = some false by decide +kernel)
  | lst _ _ => exact kit_ty (show kitB "list" "bool" = some false by decide +kernel)
  | tup _ _ => exact kit_ty (show kitB "tuple" "bool" = some false by decide +kernel)
theorem kit_seq {K : PySem.W.Frag} {H : Hp} {x : V} {d : PyData} (h : Dp K H x d) : PySem.W.kitAny K (.type (tn d)) [.type "tuple", .type "list"] = some (isT d || isLs d) := by
  refine kitAny_cons (kit_tuple h) (fun e => kitAny_cons (kit_list h) (fun e2 => ?_) (fun e2 => ?_)) (fun e => ?_)
  · rw [e, e2]
    exact kitAny_nil
  · rw [e, e2]
    rfl
  · rw [e]
    rfl
mutual
/-- no list or tuple in it is longer than 1000 -/
def wide : PyData → Bool
  | .list xs | .tuple xs => decide (xs.length ≤ 1000) && wideAll xs
  | .none | .bool _ | .int _ | .str _ | .dict _ => true
def wideAll : List PyData → Bool
  | [] => true
  | x :: xs => wide x && wideAll xs
end
/-- two data that are the same are told to be the same -/
def spSame (K : PySem.W.Frag) (n : Nat) : Sp := fun vs H Q _ => ∃ (x y : V) (d : PyData), vs = [x, y] ∧ Dp K H x d ∧ Dp K H y d ∧ SeqAt.shaped d = true ∧ d.depth < n ∧ wide d = true ∧ ∀ H', Same H H' → Q (.bl true) H'
theorem shaped_at {ds : List PyData} {d : PyData} (hc : PyData.canLayAll0 ds = true) (hm : d ∈ ds) : d.canLay0 = true := by
  induction ds with
  | nil => cases hm
  | cons a r ih =>
    have h' : a.canLay0 = true ∧ PyData.canLayAll0 r = true := by simpa [PyData.canLayAll0] using hc
    rcases List.mem_cons.mp hm with e | hm
    · rw [e]
      exact h'.1
    · exact ih h'.2 hm
theorem depth_at {ds : List PyData} {d : PyData} (hm : d ∈ ds) : d.depth ≤ PyData.depthAll ds := by
  induction ds with
  | nil => cases hm
  | cons a r ih =>
    show d.depth ≤ max a.depth (PyData.depthAll r)
    rcases List.mem_cons.mp hm with e | hm
    · rw [e]
      omega
    · have := ih hm
      omega
theorem wide_at {ds : List PyData} {d : PyData} (hc : wideAll ds = true) (hm : d ∈ ds) : wide d = true := by
  induction ds with
  | nil => cases hm
  | cons a r ih =>
    have h' : wide a = true ∧ wideAll r = true := by simpa [wideAll] using hc
    rcases List.mem_cons.mp hm with e | hm
    · rw [e]
      exact h'.1
    · exact ih h'.2 hm
theorem all_rep : ∀ n : Nat, (List.replicate n true).all id = true
  | 0 => rfl
  | n + 1 => all_rep n
def spLaw (K : PySem.W.Frag) : Sp := fun vs H Q _ => ∃ (a : Addr) (ns : List Int), vs = [.ref a] ∧ SqL K H a (ns.map V.int) ∧ ∀ H', Q (.bl true) H'
/-! ### texts of trees -/
namespace Tree
def cs : Tree → List Nat
  | L => [120]
  | N l r => 40 :: (l.cs ++ (r.cs ++ [41]))
def txt (t : Tree) : Str := ⟨t.cs.toArray⟩
theorem cs_len : ∀ t : Tree, t.cs.length + 2 = 3 * t.sz
  | L => rfl
  | N l r => by
    have h1 := cs_len l
    have h2 := cs_len r
    show (40 :: (l.cs ++ (r.cs ++ [41]))).length + 2 = 3 * (l.sz + r.sz)
    rw [List.length_cons, List.length_append, List.length_append, List.length_singleton]
    omega
theorem txt_len (t : Tree) : t.txt.length = t.cs.length := by
  show t.cs.toArray.size = _
  simp
theorem txtN (l r : Tree) : (((Str.ofString "(" ++ l.txt) ++ r.txt) ++ Str.ofString ")") = (N l r).txt := by
  show (⟨((#[40] ++ l.cs.toArray) ++ r.cs.toArray) ++ #[41]⟩ : Str) = ⟨(40 :: (l.cs ++ (r.cs ++ [41]))).toArray⟩
  congr 1
  apply Array.toList_inj.mp
  simp
theorem txtL : Str.ofString "x" = L.txt := rfl
end Tree
def spText (K : PySem.W.Frag) (n : Nat) : Sp := fun vs H Q _ => ∃ (v : V) (t : Tree), vs = [v] ∧ TA K H v t ∧ t.dp < n ∧ n ≤ 40 ∧ t.sz ≤ 1000 ∧ ∀ H', Same H H' → Q (.str t.txt) H'
theorem spText_no {K : PySem.W.Frag} : ∀ vs H Q E, ¬ spText K 0 vs H Q E := fun vs H Q E h => by
  obtain ⟨v, t, _, _, h, _⟩ := h
  omega
theorem fits {n : Nat} (h : n ≤ 10000) : n ≤ sizeLine := Nat.le_trans h (by decide)
/-- the reader's pile: the lists of operands that are open, the innermost first -/
def room (ts : List Tree) (rest : List (List Tree)) : Nat := if rest.length = 0 then 1 else 2
def stp : List (List Tree) → Nat → Option (List (List Tree))
  | [], _ => none
  | ts :: rest, c => if c = 120 then (if ts.length < room ts rest then some ((ts ++ [.L]) :: rest) else none)
    else if c = 40 then (if ts.length < room ts rest then some ([] :: ts :: rest) else none)
    else if c = 41 then (match ts, rest with
      | [a, b], us :: more => some ((us ++ [.N a b]) :: more)
      | _, _ => none)
    else none
theorem stp_x (ts : List Tree) (rest : List (List Tree)) : stp (ts :: rest) 120 = if ts.length < room ts rest then some ((ts ++ [.L]) :: rest) else none := rfl
theorem stp_o (ts : List Tree) (rest : List (List Tree)) : stp (ts :: rest) 40 = if ts.length < room ts rest then some ([] :: ts :: rest) else none := rfl
theorem stp_c (ts : List Tree) (rest : List (List Tree)) : stp (ts :: rest) 41 = (match ts, rest with
      | [a, b], us :: more => some ((us ++ [.N a b]) :: more)
      | _, _ => none) := rfl
theorem stp_else (ts : List Tree) (rest : List (List Tree)) {c : Nat} (h1 : c ≠ 120) (h2 : c ≠ 40) (h3 : c ≠ 41) : stp (ts :: rest) c = none := by
  show (if c = 120 then _ else if c = 40 then _ else if c = 41 then _ else none) = none
  rw [if_neg h1, if_neg h2, if_neg h3]
def rn : List (List Tree) → List Nat → Option (List (List Tree))
  | st, [] => some st
  | st, c :: cs => (stp st c).bind fun st' => rn st' cs
theorem rn_tree : ∀ (t : Tree) (ts : List Tree) (rest : List (List Tree)) (more : List Nat), ts.length < room ts rest → rn (ts :: rest) (t.cs ++ more) = rn ((ts ++ [t]) :: rest) more
  | .L, ts, rest, more, h => by
    show (stp (ts :: rest) 120).bind (fun st' => rn st' more) = _
    rw [stp_x, if_pos h]
    rfl
  | .N l r, ts, rest, more, h => by
    have e : (Tree.N l r).cs ++ more = 40 :: (l.cs ++ (r.cs ++ (41 :: more))) := by
      show (40 :: (l.cs ++ (r.cs ++ [41]))) ++ more = _
      simp
    rw [e]
    show (stp (ts :: rest) 40).bind (fun st' => rn st' (l.cs ++ (r.cs ++ (41 :: more)))) = _
    have e1 : stp (ts :: rest) 40 = some ([] :: ts :: rest) := by
      rw [stp_o, if_pos h]
    rw [e1]
    show rn ([] :: ts :: rest) (l.cs ++ (r.cs ++ (41 :: more))) = _
    rw [rn_tree l [] (ts :: rest) _ (by show 0 < if (ts :: rest).length = 0 then 1 else 2; rw [if_neg (by simp)]; decide)]
    rw [rn_tree r _ (ts :: rest) _ (by show 1 < if (ts :: rest).length = 0 then 1 else 2; rw [if_neg (by simp)]; decide)]
    rfl
theorem rn_all (t : Tree) : rn [[]] t.cs = some [[t]] := by
  have h := rn_tree t [] [] [] (by decide)
  rw [List.append_nil] at h
  rw [h]
  rfl
theorem tlen {t : Tree} (h : t.sz ≤ 1000) : t.txt.length ≤ 3000 := by
  have h1 := t.cs_len
  have h2 := t.txt_len
  omega
theorem slen (a b : Str) : (a ++ b).length = a.length + b.length := by
  show (a.cps ++ b.cps).size = a.cps.size + b.cps.size
  simp
def spOkText (K : PySem.W.Frag) : Sp := fun vs H Q _ => ∃ (v : V) (t : Tree), vs = [v] ∧ TA K H v t ∧ t.sz ≤ 12 ∧ t.dp ≤ 6 ∧ ∀ H', Same H H' → Q (.str t.txt) H'
def spRoom : Sp := fun vs H Q _ => ∃ (p a : Addr) (as : List Addr) (ws : List V), vs = [.ref p] ∧ H p = some (.lst ((as ++ [a]).map V.ref)) ∧ H a = some (.lst ws) ∧ as.length ≤ 10000 ∧ ws.length ≤ 10000 ∧ Q (.bl (decide ((ws.length : Int) < if as.length = 0 then 1 else 2))) H
/-- reading the text of a tree gives the tree -/
def spRead (K : PySem.W.Frag) : Sp := fun vs H Q _ => ∃ t : Tree, vs = [.str t.txt] ∧ t.sz ≤ 1000 ∧ ∀ (v : V) (H' : Hp), TA K H' v t → Same H H' → Q v H'
def spParse (K : PySem.W.Frag) : Sp := fun vs H Q _ => ∃ t : Tree, vs = [.str t.txt] ∧ t.sz ≤ 12 ∧ t.dp ≤ 6 ∧ ∀ (v : V) (H' : Hp), TA K H' v t → Same H H' → Q v H'
inductive Pile (K : PySem.W.Frag) (G : Hp) : List Addr → List (List Tree) → Prop
  | nil : Pile K G [] []
  | cons {a : Addr} {vs : List V} {ts : List Tree} {as : List Addr} {st : List (List Tree)} : G a = some (.lst vs) → DpAll K G vs (ts.map Tree.d) → Pile K G as st → Pile K G (a :: as) (ts :: st)
theorem Pile.mono {K : PySem.W.Frag} {G G' : Hp} (tp : Tp G G') : ∀ {as : List Addr} {st : List (List Tree)}, (∀ a ∈ as, ∀ o, G a = some o → G' a = some o) → Pile K G as st → Pile K G' as st
  | _, _, _, .nil => .nil
  | _, _, k, .cons h1 h2 h3 => .cons (k _ List.mem_cons_self _ h1) (dpAll_tp tp h2) (Pile.mono tp (fun a ha => k a (List.mem_cons_of_mem _ ha)) h3)
/-- the pile at p, all of it new since H -/
def PileAt (K : PySem.W.Frag) (H G : Hp) (p : Addr) (st : List (List Tree)) : Prop := ∃ as : List Addr, G p = some (.lst (as.reverse.map V.ref)) ∧ as.Nodup ∧ p ∉ as ∧ H p = none ∧ (∀ a ∈ as, H a = none) ∧ Pile K G as st
theorem cs_small : ∀ (t : Tree) (c : Nat), c ∈ t.cs → c < 128
  | .L, c, h => by
    rw [List.mem_singleton.mp h]
    decide
  | .N l r, c, h => by
    have h : c ∈ 40 :: (l.cs ++ (r.cs ++ [41])) := h
    rcases List.mem_cons.mp h with e | h
    · rw [e]
      decide
    rcases List.mem_append.mp h with h | h
    · exact cs_small l c h
    rcases List.mem_append.mp h with h | h
    · exact cs_small r c h
    · rw [List.mem_singleton.mp h]
      decide
theorem txt_ok (t : Tree) : PyData.strOk t.txt = true := by
  show t.cs.toArray.all (· < 0x110000) = true
  rw [Array.all_eq_true']
  intro c hc
  have h := cs_small t c (by simpa using hc)
  exact decide_eq_true (by omega)
/-! ### the twenty errors of the law's words -/
def enames : List Str := ["InvalidTerm", "InvalidText", "InvalidPath", "PathNotFound", "NotRewritable", "TooLarge", "InvalidSize", "InvalidIndex", "InvalidWord", "InvalidStep", "InvalidElement", "InvalidModel", "NestingTooDeep", "InvalidLabel", "DuplicateName", "UnknownName", "LimitReached", "InvalidCommand", "EmptyHistory", "InvalidSnapshot"]
def en (i : Nat) : Str := enames.getD i ""
/-- where their classes stand -/
def Errs (mg : Str → Option Value) (cl : Nat → Addr) : Prop := ∀ i, i < 20 → mg (en i) = some (.ref (cl i))
/-- D's word is the j-th -/
structure Isw (K : PySem.W.Frag) (cl : Nat → Addr) (D : Addr) (j : Nat) : Prop where
  lt : j < 20
  kit : ∀ i, i < 20 → PySem.W.kitOne K (.ref D) (.ref (cl i)) = some (decide (i = j))
/-- the state between two rows: a list of n pairs -/
def NmI (H0 : Hp) (xh : Addr) (j n : Nat) (σ : L2.St) (H : Hp) : Prop := ∃ (L : Addr) (ps : List Addr), σ = [some (.ref xh), some (.ref L), none, none] ∧ Same H0 H ∧ ps.length = n ∧ H L = some (.lst (ps.map V.ref)) ∧
  ∀ i p, ps[i]? = some p → H p = some (.tup [.str (en i), .bl (decide (i = j))])
def tIs (K : PySem.W.Frag) (D xh c : Addr) : TE := fun σ H Q => tCons (tVar 0) (tCons (tC (.ref c)) tNil) σ H fun vs H1 => rIsB K D xh vs H1 Q
def tPr (K : PySem.W.Frag) (D xh : Addr) (cl : Nat → Addr) (i : Nat) : TE := tTup (tCons (tC (.str (en i))) (tCons (tIs K D xh (cl i)) tNil))
theorem tPr_ok {K : PySem.W.Frag} {D xh : Addr} {cl : Nat → Addr} {i j : Nat} {σ : L2.St} {H : Hp} {Q : VK} (hj : Isw K cl D j) (hi : i < 20) (e : σ[0]? = some (some (.ref xh))) (q : ∀ p, H p = none → Q (.ref p) (upd H p (.tup [.str (en i), .bl (decide (i = j))]))) : tPr K D xh cl i σ H Q := by
  exact ⟨_, e, _, _, _, rfl, .own _, hj.kit i hi, two_le, q⟩
theorem pairs_new {H0 H : Hp} {xh : Addr} {j n : Nat} {ps : List Addr} {p1 p2 : Addr} (hl : ps.length = n) (hp : ∀ i p, ps[i]? = some p → H p = some (.tup [.str (en i), .bl (decide (i = j))])) (n1 : H p1 = none)
    (n2 : upd H p1 (.tup [.str (en n), .bl (decide (n = j))]) p2 = none) :
    ∀ i p, (ps ++ [p1, p2])[i]? = some p → upd (upd H p1 (.tup [.str (en n), .bl (decide (n = j))])) p2 (.tup [.str (en (n + 1)), .bl (decide (n + 1 = j))]) p = some (.tup [.str (en i), .bl (decide (i = j))]) := by
  intro i p e
  have s1 := Same.new n1 (.tup [.str (en n), .bl (decide (n = j))])
  have s2 := Same.new n2 (.tup [.str (en (n + 1)), .bl (decide (n + 1 = j))])
  rcases Nat.lt_or_ge i ps.length with lt | ge
  · rw [List.getElem?_append_left lt] at e
    exact s2 _ _ (s1 _ _ (hp i p e))
  · rw [List.getElem?_append_right ge] at e
    obtain ⟨k, rfl⟩ : ∃ k, i = n + k := ⟨i - n, by omega⟩
    rw [show n + k - ps.length = k by omega] at e
    match k, e with
    | 0, e => cases e; exact s2 _ _ upd_same
    | 1, e => cases e; exact upd_same
theorem two_pr {K : PySem.W.Frag} {D xh : Addr} {cl : Nat → Addr} {i j : Nat} {σ : L2.St} {H : Hp} {Q : VK} (hj : Isw K cl D j) (hi : i + 1 < 20) (e : σ[0]? = some (some (.ref xh)))
    (q : ∀ p1 p2 L, H p1 = none → upd H p1 (.tup [.str (en i), .bl (decide (i = j))]) p2 = none → upd (upd H p1 (.tup [.str (en i), .bl (decide (i = j))])) p2 (.tup [.str (en (i + 1)), .bl (decide (i + 1 = j))]) L = none →
      Q (.ref L) (upd (upd (upd H p1 (.tup [.str (en i), .bl (decide (i = j))])) p2 (.tup [.str (en (i + 1)), .bl (decide (i + 1 = j))])) L (.lst [.ref p1, .ref p2]))) :
    tLst (tCons (tPr K D xh cl i) (tCons (tPr K D xh cl (i + 1)) tNil)) σ H Q := by
  show tPr K D xh cl i σ H (fun x H1 => tPr K D xh cl (i + 1) σ H1 fun y H2 => [x, y].length ≤ sizeLine ∧ ∀ p, H2 p = none → Q (.ref p) (upd H2 p (.lst [x, y])))
  refine tPr_ok hj (by omega) e fun p1 n1 => ?_
  refine tPr_ok hj hi e fun p2 n2 => ?_
  exact ⟨two_le, fun L nL => q p1 p2 L n1 n2 nL⟩
theorem nm_first {K : PySem.W.Frag} {D xh : Addr} {cl : Nat → Addr} {j : Nat} {H : Hp} {nx : L2.St → Hp → Prop} (hj : Isw K cl D j) (q : ∀ σ' H', NmI H xh j 2 σ' H' → nx σ' H') :
    tLst (tCons (tPr K D xh cl 0) (tCons (tPr K D xh cl 1) tNil)) [some (.ref xh), none, none, none] H fun x H1 => gName 1 x [some (.ref xh), none, none, none] H1 nx := by
  refine two_pr (i := 0) hj (by decide) rfl fun p1 p2 L n1 n2 nL => ?_
  have s3 := Same.new nL (.lst [.ref p1, .ref p2])
  exact q _ _ ⟨L, [p1, p2], rfl, ((Same.new n1 _).trans (Same.new n2 _)).trans s3, rfl, upd_same, fun i p e => s3 _ _ (pairs_new (ps := []) (n := 0) (H0 := H) (xh := xh) rfl (fun i p e => nomatch e) n1 n2 i p e)⟩
theorem nm_step {K : PySem.W.Frag} {D xh : Addr} {cl : Nat → Addr} {j n : Nat} {H0 H : Hp} {σ : L2.St} {nx : L2.St → Hp → Prop} (hj : Isw K cl D j) (hn : n + 1 < 20) (I : NmI H0 xh j n σ H) (q : ∀ σ' H', NmI H0 xh j (n + 2) σ' H' → nx σ' H') :
    tVar 1 σ H fun x H1 => (tLst (tCons (tPr K D xh cl n) (tCons (tPr K D xh cl (n + 1)) tNil))) σ H1 fun y H2 => rCat x y H2 fun z H3 => gName 1 z σ H3 nx := by
  obtain ⟨L, ps, rfl, sm, hl, hL, hp⟩ := I
  refine ⟨_, rfl, ?_⟩
  refine two_pr hj hn rfl fun p1 p2 b n1 n2 nb => ?_
  have s1 := (Same.new n1 (.tup [.str (en n), .bl (decide (n = j))])).trans (Same.new n2 (.tup [.str (en (n + 1)), .bl (decide (n + 1 = j))]))
  have s2 := Same.new nb (.lst [.ref p1, .ref p2])
  refine ⟨L, b, _, _, rfl, rfl, s2 _ _ (s1 _ _ hL), upd_same, ?_, fun r nr => ?_⟩
  · rw [List.length_map, hl]
    have : 100 ≤ sizeLine := by decide
    show n + 2 ≤ sizeLine
    omega
  · have s3 := Same.new nr (.lst (ps.map V.ref ++ [.ref p1, .ref p2]))
    refine q _ _ ⟨r, ps ++ [p1, p2], rfl, ((sm.trans s1).trans s2).trans s3, by rw [List.length_append, hl]; rfl, by rw [upd_same, List.map_append]; rfl, fun i p e => s3 _ _ (s2 _ _ (pairs_new (H0 := H) (xh := xh) hl hp n1 n2 i p e))⟩
theorem pe_no {X : Cx} {e : Expr} : PE X e (fun _ _ _ => False) := ⟨fun _ _ _ _ _ _ h => h.elim⟩
/-- a word without a field -/
def plainErr (j : Nat) : Bool := decide (j < 20) && !([1, 9, 17, 14, 15, 5, 19].contains j)
theorem plain_in3 : ∀ j, j < 20 → plainErr j = true → inV (.str (en j)) [.str (en 1), .str (en 9), .str (en 17)] = false := by decide +kernel
theorem plain_in2 : ∀ j, j < 20 → plainErr j = true → inV (.str (en j)) [.str (en 14), .str (en 15)] = false := by decide +kernel
theorem plain_big : ∀ j, j < 20 → plainErr j = true → decide (V.str (en j) = V.str (en 5)) = false := by decide +kernel
theorem plain_row : ∀ j, j < 20 → plainErr j = true → decide (V.str (en j) = V.str (en 19)) = false := by decide +kernel
theorem plain_lt {j : Nat} (h : plainErr j = true) : j < 20 := by
  unfold plainErr at h
  rw [Bool.and_eq_true] at h
  exact of_decide_eq_true h.1
theorem FnB.mono {P : Program} {w : World} {K : PySem.W.Frag} {mg : Str → Option Value} {base : Heap} {j k : Nat} {f : Addr} {fd : FuncData} {ps : List Str} {sp : Addr → Value → Option Addr → Sp} (F : FnB P w K mg base j f fd ps sp) (h : j ≤ k) : FnB P w K mg base k f fd ps sp :=
  fun A outer s H args us vs Q xh oh hr => F A outer s H args us vs Q xh oh (hr.mono h)
/-- the law's promise, its table empty -/
def spLawT (K : PySem.W.Frag) (Pt : Addr) : Sp := fun vs H Q _ => ∃ (a : Addr) (ns : List Int), vs = [.ref a] ∧ SqL K H a (ns.map V.int) ∧ H Pt = some (.tbl #[]) ∧ ∀ H', Q (.bl true) H'
/-- a def that may raise, with the context told -/
theorem Fun.okN {P : Program} {w : World} {K : PySem.W.Frag} {mg : Str → Option Value} {base : Heap} {x qual : Str} {st : Stmt} {f : Addr} {fd : FuncData} {N ps : List Str} {k : Nat} {sp : Sp} (F : L2.Fun K x qual st f fd) (S : FnScope N ps (defScope st)) (len : ∀ vs H Q E, sp vs H Q E → vs.length = ps.length)
    (hbody : ∀ (cdv : Value) (A : Around) (outer : List Env) (s : Shared) (H : Hp) (vs : List V) (Q : VK) (E : XK), Room k (A.deeper (PyProof.Rows.envOfC qual (defScope st) s.heap.objs.size f cdv)) → sp vs H Q E →
      ∃ t, PSs (cxOf (L2N.CX P w) P w K mg base N qual (defScope st) f cdv A outer s H E) (defBody st) t ∧ t { nx := fun _ H' => Q .non H', rt := Q } (L2.start N vs) H) : FnOk P w K mg base (L2N.CX P w) (k + 1) f fd ps sp := by
  obtain ⟨oc, od, kV, doc, pm, an, cdv, ct, osl, rfl, lk, hcd⟩ := F.ex
  exact fn_of lk hcd S len fun A outer s H vs Q E hr hsp => hbody cdv A outer s H vs Q E hr hsp
/-- what a raise of the class wants -/
structure ErrC (K : PySem.W.Frag) (mg : Str → Option Value) (x : Str) (C : Addr) : Prop where
  q : PySem.W.excIn K C [.type "ValueError", .type "Exception", .type "BaseException", .type "object"] "ValueError.__new__" = true
  g : mg x = some (.ref C)
  k : PySem.W.keepIn K (.ref C) = true
  b : PySem.W.subIn K (.ref C) (.type "BaseException") = some true
  t : PySem.W.typeIn K (.ref C) = some (.type "type")
theorem passF {X : Cx} : Passes (L2N.CX X.prog X.w) X (fun _ _ _ => False) := fun _ _ _ _ _ _ _ ⟨_, _, _, _, _, _, _, _, _, _, _, _, z⟩ => z.elim
theorem passL {X : Cx} {A : Around} {outer : List Env} {s : Shared} {H : Hp} {E : XK} {scope : Scope} {f c : Addr} : Passes (L2N.CX X.prog X.w) (lamCxN X A outer s H E scope f c) E :=
  L2C.passesN (X := lamCxN X A outer s H E scope f c) (L2C.takes_of rfl rfl rfl rfl)
theorem passLC {X : Cx} {A : Around} {outer : List Env} {s : Shared} {H : Hp} {E : XK} {scope : Scope} {f c : Addr} : Passes (L2C.CX X.prog X.w) (lamCxN X A outer s H E scope f c) E :=
  L2C.passes (X := lamCxN X A outer s H E scope f c) (L2C.takes_of rfl rfl rfl rfl)
theorem fourV {a b c d : V} : ([a, b, c, d] : List V).length ≤ sizeLine := by show 4 ≤ sizeLine; decide
theorem fiveV {a b c d e : V} : ([a, b, c, d, e] : List V).length ≤ sizeLine := by show 5 ≤ sizeLine; decide
theorem tabs_set {T : List (Addr × Str)} {H H' : Hp} {D : Addr} {xs : List V} (t : LamX.Tabs T H) (hD : H D = some (.lst xs)) (e : ∀ b o, b ≠ D → H b = some o → H' b = some o) : LamX.Tabs T H' := fun p hp => by
  obtain ⟨ps, h1, h2, h3⟩ := t p hp
  refine ⟨ps, e _ _ (fun z => by rw [z, hD] at h1; cases h1) h1, h2, fun pos cv ec => ?_⟩
  obtain ⟨c, rfl, hc⟩ := h3 pos cv ec
  exact ⟨c, rfl, e _ _ (fun z => by rw [z, hD] at hc; cases hc) hc⟩
theorem passD {P : Program} {w : World} {K : PySem.W.Frag} {mg : Str → Option Value} {base : Heap} {N : List Str} {q : Str} {sc : Scope} {f : Addr} {cdv : Value} {A : Around} {outer : List Env} {s : Shared} {H : Hp} {E : XK} : Passes (L2N.CX P w) (cxOf (L2N.CX P w) P w K mg base N q sc f cdv A outer s H E) E :=
  L2N.passes_call (X := cxOf (L2N.CX P w) P w K mg base N q sc f cdv A outer s H E) (W := fun cls d _ H => E cls d H) (L2N.takes_of rfl rfl rfl rfl) fun _ _ _ _ h => h
/-! ### nested tuples of any form -/
mutual
def tupD : PyData → Bool
  | .tuple xs => tupL xs
  | .none | .bool _ | .int _ | .str _ | .list _ | .dict _ => false
def tupL : List PyData → Bool
  | [] => true
  | x :: xs => tupD x && tupL xs
end
mutual
def ndD : PyData → Nat
  | .tuple xs => ndL xs + 1
  | .none | .bool _ | .int _ | .str _ | .list _ | .dict _ => 1
def ndL : List PyData → Nat
  | [] => 0
  | x :: xs => ndD x + ndL xs
end
def add2 : Option Nat → Option Nat → Option Nat
  | some a, some b => some (a + b)
  | _, _ => none
theorem add2_none (o : Option Nat) : add2 o none = none := by cases o <;> rfl
theorem add2_assoc (a b c : Option Nat) : add2 (add2 a b) c = add2 a (add2 b c) := by
  cases a <;> cases b <;> cases c <;> first | rfl | exact congrArg some (Nat.add_assoc _ _ _)
theorem add2_zero (a : Option Nat) : add2 a (some 0) = a := by cases a <;> rfl
/-- how many generators, where the depth is at most b -/
def szD : Nat → PyData → Option Nat
  | _, .tuple [] => some 1
  | b + 1, .tuple [x, y] => add2 (szD b x) (szD b y)
  | _, _ => none
def okd (d : PyData) : Bool := match szD 6 d with
  | some n => decide (n ≤ 12)
  | none => false
def isPr : PyData → Bool
  | .tuple [_, _] => true
  | _ => false
def isE : PyData → Bool
  | .tuple [] => true
  | _ => false
theorem eqvE {d : PyData} (h : tupD d = true) : PyData.eqv d (.tuple []) = isE d := by
  cases d with
  | tuple xs => cases xs <;> rfl
  | none => exact absurd h (by decide)
  | bool _ => exact absurd h (by simp [tupD])
  | int _ => exact absurd h (by simp [tupD])
  | str _ => exact absurd h (by simp [tupD])
  | list _ => exact absurd h (by simp [tupD])
  | dict _ => exact absurd h (by simp [tupD])
theorem szD_E (b : Nat) : szD b (.tuple []) = some 1 := by cases b <;> rfl
theorem szD_pr (b : Nat) (x y : PyData) : szD (b + 1) (.tuple [x, y]) = add2 (szD b x) (szD b y) := rfl
theorem szD_bad {b : Nat} {d : PyData} (h1 : isE d = false) (h2 : isPr d = false ∨ b = 0) : szD b d = none := by
  cases d with
  | tuple xs =>
    match xs, b, h1, h2 with
    | [], _, h1, _ => exact absurd h1 (by decide)
    | [x, y], 0, _, _ => rfl
    | [x, y], b + 1, _, .inl h => exact Bool.noConfusion h
    | [x], 0, _, _ => rfl
    | [x], b + 1, _, _ => rfl
    | x :: y :: z :: r, 0, _, _ => rfl
    | x :: y :: z :: r, b + 1, _, _ => rfl
  | none => cases b <;> rfl
  | bool _ => cases b <;> rfl
  | int _ => cases b <;> rfl
  | str _ => cases b <;> rfl
  | list _ => cases b <;> rfl
  | dict _ => cases b <;> rfl
def rem : List (V × PyData × Nat) → Option Nat
  | [] => some 0
  | p :: ps => add2 (szD (6 - p.2.2) p.2.1) (rem ps)
theorem rem_app : ∀ ps qs : List (V × PyData × Nat), rem (ps ++ qs) = add2 (rem ps) (rem qs)
  | [], qs => by
    show rem qs = add2 (some 0) (rem qs)
    cases rem qs with
    | none => rfl
    | some n => exact congrArg some (Nat.zero_add n).symm
  | p :: ps, qs => by
    show add2 (szD (6 - p.2.2) p.2.1) (rem (ps ++ qs)) = add2 (add2 (szD (6 - p.2.2) p.2.1) (rem ps)) (rem qs)
    rw [rem_app ps qs, add2_assoc]
theorem rem_snoc (ps : List (V × PyData × Nat)) (p : V × PyData × Nat) : rem (ps ++ [p]) = add2 (rem ps) (szD (6 - p.2.2) p.2.1) := by
  rw [rem_app]
  show add2 (rem ps) (add2 _ (some 0)) = _
  rw [add2_zero]
def fnl (n : Nat) : Option Nat → Bool
  | some m => decide (n + m ≤ 12)
  | none => false
theorem fnl_one (n : Nat) (o : Option Nat) : fnl n (add2 o (some 1)) = fnl (n + 1) o := by
  cases o with
  | none => rfl
  | some m =>
    show decide (n + (m + 1) ≤ 12) = decide (n + 1 + m ≤ 12)
    rw [show n + (m + 1) = n + 1 + m by omega]
theorem fnl_big {n : Nat} (h : 12 < n) (o : Option Nat) : fnl n o = false := by
  cases o with
  | none => rfl
  | some m => exact decide_eq_false (by omega)
theorem okd_fnl (v : V) (d : PyData) : okd d = fnl 0 (rem [(v, d, 0)]) := by
  show okd d = fnl 0 (add2 (szD 6 d) (some 0))
  rw [add2_zero]
  unfold okd
  cases szD 6 d with
  | none => rfl
  | some n =>
    show decide (n ≤ 12) = decide (0 + n ≤ 12)
    rw [Nat.zero_add]
def ndn (ps : List (V × PyData × Nat)) : Nat := (ps.map fun p => ndD p.2.1).sum
theorem ndn_snoc (ps : List (V × PyData × Nat)) (p) : ndn (ps ++ [p]) = ndn ps + ndD p.2.1 := by
  unfold ndn
  rw [List.map_append, List.sum_append]
  simp
theorem ndD_pos : ∀ d : PyData, 0 < ndD d := by
  intro d
  cases d with
  | tuple xs => exact Nat.succ_pos _
  | none => decide
  | bool _ => exact Nat.one_pos
  | int _ => exact Nat.one_pos
  | str _ => exact Nat.one_pos
  | list _ => exact Nat.one_pos
  | dict _ => exact Nat.one_pos
theorem ndn_len : ∀ ps : List (V × PyData × Nat), ps.length ≤ ndn ps
  | [] => Nat.zero_le _
  | p :: ps => by
    have h := ndn_len ps
    have h2 := ndD_pos p.2.1
    show ps.length + 1 ≤ (ndD p.2.1 :: ps.map fun p => ndD p.2.1).sum
    rw [List.sum_cons]
    unfold ndn at h
    omega
/-- a value that is a nested tuple -/
structure NT (K : PySem.W.Frag) (H : Hp) (v : V) (d : PyData) : Prop where
  dp : Dp K H v d
  tup : tupD d = true
  shp : SeqAt.shaped d = true
mutual
theorem dp_tp {K : PySem.W.Frag} {H H' : Hp} (e : Tp H H') : ∀ (d : PyData) {v : V}, tupD d = true → Dp K H v d → Dp K H' v d
  | .tuple ds, _, t, h => by
    cases h with
    | tup hs ha => exact .tup (e.sqT hs) (dpAll_tpD e ds t ha)
  | .none, _, t, _ => absurd t (by decide)
  | .bool _, _, t, _ => absurd t (by simp [tupD])
  | .int _, _, t, _ => absurd t (by simp [tupD])
  | .str _, _, t, _ => absurd t (by simp [tupD])
  | .list _, _, t, _ => absurd t (by simp [tupD])
  | .dict _, _, t, _ => absurd t (by simp [tupD])
theorem dpAll_tpD {K : PySem.W.Frag} {H H' : Hp} (e : Tp H H') : ∀ (ds : List PyData) {vs : List V}, tupL ds = true → DpAll K H vs ds → DpAll K H' vs ds
  | [], _, _, h => by
    cases h
    exact .nil
  | d :: ds, _, t, h => by
    have t' : tupD d = true ∧ tupL ds = true := Bool.and_eq_true_iff.mp t
    cases h with
    | cons h1 h2 => exact .cons (dp_tp e d t'.1 h1) (dpAll_tpD e ds t'.2 h2)
end
theorem NT.tp {K : PySem.W.Frag} {H H' : Hp} {v : V} {d : PyData} (e : Tp H H') (h : NT K H v d) : NT K H' v d := ⟨dp_tp e d h.tup h.dp, h.tup, h.shp⟩
theorem NT.inv {K : PySem.W.Frag} {H : Hp} {v : V} {d : PyData} (h : NT K H v d) : ∃ a xs ds, v = .ref a ∧ d = .tuple ds ∧ SqT K H a xs ∧ DpAll K H xs ds := by
  obtain ⟨h1, h2, _⟩ := h
  cases h1 with
  | tup hs ha => exact ⟨_, _, _, rfl, rfl, hs, ha⟩
  | non => exact absurd h2 (by decide)
  | bl b => exact absurd h2 (by simp [tupD])
  | int i => exact absurd h2 (by simp [tupD])
  | str z => exact absurd h2 (by simp [tupD])
  | lst _ _ => exact absurd h2 (by simp [tupD])
theorem shaped_sub {ds : List PyData} {d : PyData} (h : SeqAt.shaped (.tuple ds) = true) (hm : d ∈ ds) : SeqAt.shaped d = true := by
  have hc : PyData.canLayAll0 ds = true := SeqAt.canLay_of_shaped h
  have hd := SeqAt.depth_of_shaped h
  have hd' : (PyData.tuple ds).depth = PyData.depthAll ds + 1 := rfl
  have hdi := depth_at hm
  unfold SeqAt.shaped
  rw [shaped_at hc hm, decide_eq_true (by omega)]
  rfl
theorem NT.pr {K : PySem.W.Frag} {H : Hp} {v : V} {d : PyData} (h : NT K H v d) (hp : isPr d = true) : ∃ a x y d1 d2, v = .ref a ∧ d = .tuple [d1, d2] ∧ SqT K H a [x, y] ∧ NT K H x d1 ∧ NT K H y d2 := by
  obtain ⟨a, xs, ds, rfl, rfl, hS, hA⟩ := h.inv
  obtain ⟨d1, d2, rfl⟩ : ∃ d1 d2, ds = [d1, d2] := by
    rcases ds with _ | ⟨d1, _ | ⟨d2, _ | ⟨d3, r⟩⟩⟩
    · exact absurd hp (by simp [isPr])
    · exact absurd hp (by simp [isPr])
    · exact ⟨d1, d2, rfl⟩
    · exact absurd hp (by simp [isPr])
  cases hA with
  | cons h1 h2 =>
    cases h2 with
    | cons h2 h3 =>
      cases h3
      have t : (tupD d1 && (tupD d2 && true)) = true := h.tup
      have t1 := Bool.and_eq_true_iff.mp t
      have t2 := Bool.and_eq_true_iff.mp t1.2
      exact ⟨a, _, _, d1, d2, rfl, rfl, hS, ⟨h1, t1.1, shaped_sub h.shp (by simp)⟩, ⟨h2, t2.1, shaped_sub h.shp (by simp)⟩⟩
theorem tree_tup : ∀ t : Tree, tupD t.d = true
  | .L => rfl
  | .N l r => by
    show (tupD l.d && (tupD r.d && true)) = true
    rw [tree_tup l, tree_tup r]
    rfl
theorem tree_nd : ∀ t : Tree, ndD t.d = t.nodes
  | .L => rfl
  | .N l r => by
    show ndD l.d + (ndD r.d + 0) + 1 = l.nodes + r.nodes + 1
    rw [tree_nd l, tree_nd r]
    omega
theorem tree_nodes : ∀ t : Tree, t.nodes + 1 = 2 * t.sz
  | .L => rfl
  | .N l r => by
    have h1 := tree_nodes l
    have h2 := tree_nodes r
    show l.nodes + r.nodes + 1 + 1 = 2 * (l.sz + r.sz)
    omega
theorem tree_szD : ∀ (t : Tree) (b : Nat), szD b t.d = if t.dp ≤ b then some t.sz else none
  | .L, b => by
    show szD b (.tuple []) = if 0 ≤ b then some 1 else none
    rw [if_pos (Nat.zero_le _)]
    exact szD_E b
  | .N l r, 0 => by
    show none = if max l.dp r.dp + 1 ≤ 0 then some (l.sz + r.sz) else none
    rw [if_neg (by omega)]
  | .N l r, b + 1 => by
    show add2 (szD b l.d) (szD b r.d) = if max l.dp r.dp + 1 ≤ b + 1 then some (l.sz + r.sz) else none
    rw [tree_szD l b, tree_szD r b]
    by_cases h1 : l.dp ≤ b
    · by_cases h2 : r.dp ≤ b
      · rw [if_pos h1, if_pos h2, if_pos (by omega)]
        rfl
      · rw [if_neg h2, add2_none, if_neg (show ¬ (max l.dp r.dp + 1 ≤ b + 1) by omega)]
    · rw [if_neg h1, if_neg (show ¬ (max l.dp r.dp + 1 ≤ b + 1) by omega)]
      rfl
theorem tree_okd (t : Tree) : okd t.d = (decide (t.dp ≤ 6) && decide (t.sz ≤ 12)) := by
  unfold okd
  rw [tree_szD]
  by_cases h : t.dp ≤ 6
  · rw [if_pos h, decide_eq_true h]
    rfl
  · rw [if_neg h, decide_eq_false h]
    rfl
theorem szD_tree : ∀ (b : Nat) (d : PyData) (n : Nat), szD b d = some n → ∃ t : Tree, d = t.d ∧ t.sz = n ∧ t.dp ≤ b := by
  intro b
  induction b with
  | zero =>
    intro d n h
    by_cases e : isE d = true
    · cases d with
      | tuple xs =>
        cases xs with
        | nil => exact ⟨.L, rfl, Option.some.inj h, Nat.zero_le _⟩
        | cons _ _ => exact absurd e (by simp [isE])
      | none => exact absurd e (by simp [isE])
      | bool _ => exact absurd e (by simp [isE])
      | int _ => exact absurd e (by simp [isE])
      | str _ => exact absurd e (by simp [isE])
      | list _ => exact absurd e (by simp [isE])
      | dict _ => exact absurd e (by simp [isE])
    · rw [szD_bad (by simpa using e) (.inr rfl)] at h
      cases h
  | succ b ih =>
    intro d n h
    by_cases e : isE d = true
    · cases d with
      | tuple xs =>
        cases xs with
        | nil => exact ⟨.L, rfl, Option.some.inj h, Nat.zero_le _⟩
        | cons _ _ => exact absurd e (by simp [isE])
      | none => exact absurd e (by simp [isE])
      | bool _ => exact absurd e (by simp [isE])
      | int _ => exact absurd e (by simp [isE])
      | str _ => exact absurd e (by simp [isE])
      | list _ => exact absurd e (by simp [isE])
      | dict _ => exact absurd e (by simp [isE])
    · by_cases e2 : isPr d = true
      · cases d with
        | tuple xs =>
          match xs, e2, h with
          | [x, y], _, h =>
            have h0 : add2 (szD b x) (szD b y) = some n := h
            clear h
            cases h1 : szD b x with
            | none => rw [h1] at h0; cases h0
            | some m =>
              cases h2 : szD b y with
              | none => rw [h2, add2_none] at h0; cases h0
              | some k =>
                rw [h1, h2] at h0
                have h' : m + k = n := Option.some.inj h0
                obtain ⟨t1, rfl, q1, r1⟩ := ih x m h1
                obtain ⟨t2, rfl, q2, r2⟩ := ih y k h2
                exact ⟨.N t1 t2, rfl, by show t1.sz + t2.sz = n; omega, by show max t1.dp t2.dp + 1 ≤ b + 1; omega⟩
        | none => exact absurd e2 (by simp [isPr])
        | bool _ => exact absurd e2 (by simp [isPr])
        | int _ => exact absurd e2 (by simp [isPr])
        | str _ => exact absurd e2 (by simp [isPr])
        | list _ => exact absurd e2 (by simp [isPr])
        | dict _ => exact absurd e2 (by simp [isPr])
      · rw [szD_bad (by simpa using e) (.inl (by simpa using e2))] at h
        cases h
theorem okd_tree {d : PyData} (h : okd d = true) : ∃ t : Tree, d = t.d ∧ t.sz ≤ 12 ∧ t.dp ≤ 6 := by
  unfold okd at h
  cases e : szD 6 d with
  | none => rw [e] at h; cases h
  | some n =>
    rw [e] at h
    obtain ⟨t, h1, h2, h3⟩ := szD_tree 6 d n e
    exact ⟨t, h1, by rw [h2]; exact of_decide_eq_true h, h3⟩
theorem NT.of {K : PySem.W.Frag} {H : Hp} {v : V} {t : Tree} (h : TA K H v t) (hd : t.dp ≤ 63) : NT K H v t.d := ⟨h, tree_tup t, Tree.shaped hd⟩
def spIsPairD (K : PySem.W.Frag) : Sp := fun vs H Q _ => ∃ (v : V) (d : PyData), vs = [v] ∧ NT K H v d ∧ Q (.bl (isPr d)) H
def spIsTerm (K : PySem.W.Frag) : Sp := fun vs H Q _ => ∃ (v : V) (d : PyData), vs = [v] ∧ NT K H v d ∧ ndD d ≤ 1000 ∧ ∀ H', Same H H' → Q (.bl (okd d)) H'
/-- check_term: nothing, or the error -/
def spChk (K : PySem.W.Frag) (C : Addr) : Sp := fun vs H Q E => ∃ (v : V) (d : PyData), vs = [v] ∧ NT K H v d ∧ ndD d ≤ 1000 ∧ (okd d = true → ∀ H', Same H H' → Q .non H') ∧ (okd d = false → ∀ H', Same H H' → E (.ref C) none H')
def ItemD (K : PySem.W.Frag) (H : Hp) (p : V × PyData × Nat) : Prop := ∃ (a : Addr) (u : V), p.1 = .ref a ∧ SqT K H a [u, .int p.2.2] ∧ NT K H u p.2.1 ∧ p.2.2 ≤ 6
theorem ItemD.mono {K : PySem.W.Frag} {H H' : Hp} (e : Tp H H') {p : V × PyData × Nat} (h : ItemD K H p) : ItemD K H' p := by
  obtain ⟨a, u, h1, h2, h3, h4⟩ := h
  exact ⟨a, u, h1, e.sqT h2, h3.tp e, h4⟩
/-! ### picking -/
theorem But.sqL {K : PySem.W.Frag} {r l : Addr} {H H' : Hp} {xs : List V} (e : But r H H') (n : l ≠ r) (h : SqL K H l xs) : SqL K H' l xs := by
  rcases h with (h | ⟨o, h⟩) | h
  · exact .inl (.inl (e _ _ n h))
  · exact .inl (.inr ⟨o, e _ _ n h⟩)
  · exact .inr h
theorem But.sqT {K : PySem.W.Frag} {r l : Addr} {H H' : Hp} {xs : List V} (e : But r H H') (n : l ≠ r) (h : SqT K H l xs) : SqT K H' l xs := by
  rcases h with (h | ⟨o, h⟩) | h
  · exact .inl (.inl (e _ _ n h))
  · exact .inl (.inr ⟨o, e _ _ n h⟩)
  · exact .inr h
def spPick (K : PySem.W.Frag) : Sp := fun vs H Q _ => ∃ (r l : Addr) (xs : List V), vs = [.ref r, .ref l] ∧ Rng H r ∧ (SqL K H l xs ∨ SqT K H l xs) ∧ 0 < xs.length ∧ xs.length ≤ 10000 ∧ l ≠ r ∧ ∀ v H', v ∈ xs → Rng H' r → But r H H' → Q v H'
theorem rix_in {K : PySem.W.Frag} {H : Hp} {a : Addr} {xs : List V} {n : Int} {Q : VK} (h : SqL K H a xs ∨ SqT K H a xs) (h0 : 0 ≤ n) (h1 : n < xs.length) (q : ∀ v, v ∈ xs → Q v H) : rIx K (.ref a) (.int n) H Q := by
  have lt : n.toNat < xs.length := by omega
  obtain ⟨v, hi⟩ : ∃ v, xs[n.toNat]? = some v := ⟨_, List.getElem?_eq_getElem lt⟩
  have hq := q v (List.mem_of_getElem? hi)
  have e : atI xs n = some v := by
    have e : n = ((n.toNat : Nat) : Int) := by omega
    rw [e]
    exact atI_nat hi
  rcases h with h | h
  · exact .inl ⟨a, xs, n, v, rfl, rfl, h, e, hq⟩
  · exact .inr (.inl ⟨a, xs, n, v, rfl, rfl, h, e, hq⟩)
/-! ### written nested tuples -/
def Mk (K : PySem.W.Frag) (te : TE) (d : PyData) : Prop := ∀ σ H (Q : VK), (∀ v H', Same H H' → Dp K H' v d → Q v H') → te σ H Q
theorem mk0 {K : PySem.W.Frag} : Mk K (tTup tNil) (.tuple []) := fun σ H Q q => ⟨zero_le', fun p np => q _ _ (Same.new np _) (Dp.tup (SqT.here upd_same) .nil)⟩
theorem mk1 {K : PySem.W.Frag} {e : TE} {d : PyData} (h : Mk K e d) : Mk K (tTup (tCons e tNil)) (.tuple [d]) := fun σ H Q q =>
  h σ H _ fun v H1 s1 h1 => ⟨one_le, fun p np => q _ _ (s1.trans (Same.new np _)) (Dp.tup (SqT.here upd_same) (.cons (dp_same (Same.new np _) _ h1) .nil))⟩
theorem mk2 {K : PySem.W.Frag} {e1 e2 : TE} {d1 d2 : PyData} (h : Mk K e1 d1) (h' : Mk K e2 d2) : Mk K (tTup (tCons e1 (tCons e2 tNil))) (.tuple [d1, d2]) := fun σ H Q q =>
  h σ H _ fun v H1 s1 h1 => h' σ H1 _ fun v2 H2 s2 h2 => ⟨two_le, fun p np => q _ _ ((s1.trans s2).trans (Same.new np _)) (Dp.tup (SqT.here upd_same) (.cons (dp_same (s2.trans (Same.new np _)) _ h1) (.cons (dp_same (Same.new np _) _ h2) .nil)))⟩
theorem mk3 {K : PySem.W.Frag} {e1 e2 e3 : TE} {d1 d2 d3 : PyData} (h : Mk K e1 d1) (h' : Mk K e2 d2) (h'' : Mk K e3 d3) : Mk K (tTup (tCons e1 (tCons e2 (tCons e3 tNil)))) (.tuple [d1, d2, d3]) := fun σ H Q q =>
  h σ H _ fun v H1 s1 h1 => h' σ H1 _ fun v2 H2 s2 h2 => h'' σ H2 _ fun v3 H3 s3 h3 => ⟨by show 3 ≤ sizeLine; decide, fun p np => q _ _ (((s1.trans s2).trans s3).trans (Same.new np _)) (Dp.tup (SqT.here upd_same) (.cons (dp_same ((s2.trans s3).trans (Same.new np _)) _ h1) (.cons (dp_same (s3.trans (Same.new np _)) _ h2) (.cons (dp_same (Same.new np _) _ h3) .nil))))⟩
theorem lst5 {K : PySem.W.Frag} {e1 e2 e3 e4 e5 : TE} {d1 d2 d3 d4 d5 : PyData} (h1 : Mk K e1 d1) (h2 : Mk K e2 d2) (h3 : Mk K e3 d3) (h4 : Mk K e4 d4) (h5 : Mk K e5 d5) {i : Nat} {B : TS} {D : Ends} {σ : L2.St} {H : Hp}
    (q : ∀ a v1 v2 v3 v4 v5 H', Same H H' → H a = none → H' a = some (.lst [v1, v2, v3, v4, v5]) → DpAll K H' [v1, v2, v3, v4, v5] [d1, d2, d3, d4, d5] → B D (σ.set i (some (.ref a))) H') : tSeq (tAsg (tLst (tCons e1 (tCons e2 (tCons e3 (tCons e4 (tCons e5 tNil)))))) (gName i)) B D σ H :=
  h1 σ H _ fun v1 H1 s1 k1 => h2 σ H1 _ fun v2 H2 s2 k2 => h3 σ H2 _ fun v3 H3 s3 k3 => h4 σ H3 _ fun v4 H4 s4 k4 => h5 σ H4 _ fun v5 H5 s5 k5 => ⟨fiveV, fun a na => by
    have sa := Same.new na (.lst [v1, v2, v3, v4, v5])
    exact q a v1 v2 v3 v4 v5 _ (s1.trans (s2.trans (s3.trans (s4.trans (s5.trans sa))))) ((s1.trans (s2.trans (s3.trans (s4.trans s5)))).free na) upd_same
      (.cons (dp_same (s2.trans (s3.trans (s4.trans (s5.trans sa)))) _ k1) (.cons (dp_same (s3.trans (s4.trans (s5.trans sa))) _ k2) (.cons (dp_same (s4.trans (s5.trans sa)) _ k3) (.cons (dp_same (s5.trans sa) _ k4) (.cons (dp_same sa _ k5) .nil)))))⟩
/-- a value that no term is -/
def BadV (K : PySem.W.Frag) (H : Hp) (v : V) : Prop := ∃ d, NT K H v d ∧ ndD d ≤ 1000 ∧ okd d = false
theorem BadV.tp {K : PySem.W.Frag} {H H' : Hp} {v : V} (e : Tp H H') (h : BadV K H v) : BadV K H' v := by
  obtain ⟨d, h1, h2⟩ := h
  exact ⟨d, h1.tp e, h2⟩
def spBadT (K : PySem.W.Frag) : Sp := fun vs H Q _ => ∃ r : Addr, vs = [.ref r] ∧ Rng H r ∧ ∀ v H', BadV K H' v → Rng H' r → But r H H' → Q v H'
theorem BadV.tree {K : PySem.W.Frag} {H : Hp} {v : V} {t : Tree} (h : TA K H v t) (hd : t.dp ≤ 63) (hz : t.sz ≤ 100) (no : 6 < t.dp ∨ 12 < t.sz) : BadV K H v := by
  have e := tree_nodes t
  refine ⟨t.d, NT.of h hd, by rw [tree_nd]; omega, ?_⟩
  rw [tree_okd]
  rcases no with no | no
  · rw [decide_eq_false (by omega)]
    rfl
  · rw [decide_eq_false (show ¬ t.sz ≤ 12 by omega), Bool.and_false]
/-! ### full expansions -/
namespace Tree
def sub : Tree → Tree → Tree
  | L, a => N a L
  | N l r, a => N (l.sub a) (r.sub a)
def fe : Tree → Tree
  | L => L
  | N a b => b.fe.sub a.fe
def fsz : Tree → Nat
  | L => 1
  | N a b => (a.fsz + 1) * b.fsz
theorem sub_sz (a : Tree) : ∀ b : Tree, (b.sub a).sz = (a.sz + 1) * b.sz
  | L => by
    show a.sz + 1 = (a.sz + 1) * 1
    omega
  | N l r => by
    show (l.sub a).sz + (r.sub a).sz = (a.sz + 1) * (l.sz + r.sz)
    rw [sub_sz a l, sub_sz a r, Nat.mul_add]
theorem fe_sz : ∀ t : Tree, t.fe.sz = t.fsz
  | L => rfl
  | N a b => by
    show (b.fe.sub a.fe).sz = (a.fsz + 1) * b.fsz
    rw [sub_sz, fe_sz a, fe_sz b]
theorem fsz_pos (t : Tree) : 0 < t.fsz := by
  rw [← fe_sz]
  exact sz_pos _
theorem fsz_le : ∀ t : Tree, t.fsz + 1 ≤ 4 ^ t.sz
  | L => by decide
  | N a b => by
    have h1 := fsz_le a
    have h2 := fsz_le b
    show (a.fsz + 1) * b.fsz + 1 ≤ 4 ^ (a.sz + b.sz)
    rw [Nat.pow_add]
    have h3 : (a.fsz + 1) * (b.fsz + 1) ≤ 4 ^ a.sz * 4 ^ b.sz := Nat.mul_le_mul h1 h2
    rw [Nat.mul_succ] at h3
    omega
theorem sub_dp (a : Tree) : ∀ b : Tree, (b.sub a).dp ≤ b.dp + a.dp + 1
  | L => by
    show max a.dp 0 + 1 ≤ 0 + a.dp + 1
    omega
  | N l r => by
    have h1 := sub_dp a l
    have h2 := sub_dp a r
    show max (l.sub a).dp (r.sub a).dp + 1 ≤ max l.dp r.dp + 1 + a.dp + 1
    omega
theorem fe_dp : ∀ t : Tree, t.fe.dp + 1 ≤ t.sz
  | L => Nat.le_refl _
  | N a b => by
    have h1 := fe_dp a
    have h2 := fe_dp b
    have h3 := sub_dp a.fe b.fe
    show (b.fe.sub a.fe).dp + 1 ≤ a.sz + b.sz
    omega
/-- an expansion at the root, at a path -/
def ex0 : Tree → Option Tree
  | N a (N b c) => some (N (N a b) (N a c))
  | N _ L => none
  | L => none
def ex : Tree → List Bool → Option Tree
  | t, [] => t.ex0
  | L, _ :: _ => none
  | N l r, b :: p => match b with
    | false => (l.ex p).map fun l' => N l' r
    | true => (r.ex p).map fun r' => N l r'
theorem ex_nil (t : Tree) : t.ex [] = t.ex0 := by cases t <;> rfl
theorem ex_0 (l r : Tree) (p : List Bool) : (N l r).ex (false :: p) = (l.ex p).map fun l' => N l' r := rfl
theorem ex_1 (l r : Tree) (p : List Bool) : (N l r).ex (true :: p) = (r.ex p).map fun r' => N l r' := rfl
def rl : Tree → List (List Bool) → Option Tree
  | t, [] => some t
  | t, p :: ps => (t.ex p).bind fun t' => t'.rl ps
theorem rl_app : ∀ (ps qs : List (List Bool)) (t : Tree), t.rl (ps ++ qs) = (t.rl ps).bind fun t' => t'.rl qs
  | [], _, _ => rfl
  | p :: ps, qs, t => by
    show (t.ex p).bind (fun t' => t'.rl (ps ++ qs)) = ((t.ex p).bind fun t' => t'.rl ps).bind fun t' => t'.rl qs
    cases t.ex p with
    | none => rfl
    | some t' => exact rl_app ps qs t'
theorem rl_0 : ∀ (ps : List (List Bool)) (l r l' : Tree), l.rl ps = some l' → (N l r).rl (ps.map (false :: ·)) = some (N l' r)
  | [], l, r, l', h => by
    cases h
    rfl
  | p :: ps, l, r, l', h => by
    have h : (l.ex p).bind (fun t' => t'.rl ps) = some l' := h
    show ((N l r).ex (false :: p)).bind (fun t' => t'.rl (ps.map (false :: ·))) = _
    rw [ex_0]
    cases e : l.ex p with
    | none =>
      rw [e] at h
      cases h
    | some m =>
      rw [e] at h
      exact rl_0 ps m r l' h
theorem rl_1 : ∀ (ps : List (List Bool)) (l r r' : Tree), r.rl ps = some r' → (N l r).rl (ps.map (true :: ·)) = some (N l r')
  | [], l, r, r', h => by
    cases h
    rfl
  | p :: ps, l, r, r', h => by
    have h : (r.ex p).bind (fun t' => t'.rl ps) = some r' := h
    show ((N l r).ex (true :: p)).bind (fun t' => t'.rl (ps.map (true :: ·))) = _
    rw [ex_1]
    cases e : r.ex p with
    | none =>
      rw [e] at h
      cases h
    | some m =>
      rw [e] at h
      exact rl_1 ps l m r' h
/-- the paths of the pairs, in the order of texts -/
def nd : Tree → List (List Bool)
  | L => []
  | N l r => [] :: (l.nd.map (false :: ·) ++ r.nd.map (true :: ·))
def fp : Tree → List (List Bool)
  | L => []
  | N a b => (a.fp.map (false :: ·) ++ b.fp.map (true :: ·)) ++ b.fe.nd
theorem rl_nd (a : Tree) : ∀ b : Tree, (N a b).rl b.nd = some (b.sub a)
  | L => rfl
  | N l r => by
    show ((N a (N l r)).ex []).bind (fun t' => t'.rl (l.nd.map (false :: ·) ++ r.nd.map (true :: ·))) = _
    show (N (N a l) (N a r)).rl (l.nd.map (false :: ·) ++ r.nd.map (true :: ·)) = _
    rw [rl_app, rl_0 l.nd (N a l) (N a r) (l.sub a) (rl_nd a l)]
    exact rl_1 r.nd (l.sub a) (N a r) (r.sub a) (rl_nd a r)
theorem rl_fp : ∀ t : Tree, t.rl t.fp = some t.fe
  | L => rfl
  | N a b => by
    show (N a b).rl ((a.fp.map (false :: ·) ++ b.fp.map (true :: ·)) ++ b.fe.nd) = _
    rw [rl_app, rl_app, rl_0 a.fp a b a.fe (rl_fp a)]
    show ((N a.fe b).rl (b.fp.map (true :: ·))).bind (fun t' => t'.rl b.fe.nd) = _
    rw [rl_1 b.fp a.fe b b.fe (rl_fp b)]
    exact rl_nd a.fe b.fe
theorem ex_dp : ∀ (t : Tree) (p : List Bool) (t' : Tree), t.ex p = some t' → t.dp ≤ t'.dp
  | N a (N b c), [], t', h => by
    cases h
    show max a.dp (max b.dp c.dp + 1) + 1 ≤ max (max a.dp b.dp + 1) (max a.dp c.dp + 1) + 1
    omega
  | N _ L, [], _, h => by cases h
  | L, [], _, h => by cases h
  | L, _ :: _, _, h => by cases h
  | N l r, false :: p, t', h => by
    rw [ex_0] at h
    cases e : l.ex p with
    | none =>
      rw [e] at h
      cases h
    | some m =>
      rw [e] at h
      cases h
      have := ex_dp l p m e
      show max l.dp r.dp + 1 ≤ max m.dp r.dp + 1
      omega
  | N l r, true :: p, t', h => by
    rw [ex_1] at h
    cases e : r.ex p with
    | none =>
      rw [e] at h
      cases h
    | some m =>
      rw [e] at h
      cases h
      have := ex_dp r p m e
      show max l.dp r.dp + 1 ≤ max l.dp m.dp + 1
      omega
theorem rl_dp : ∀ (ps : List (List Bool)) (t t' : Tree), t.rl ps = some t' → t.dp ≤ t'.dp
  | [], t, t', h => by
    cases h
    exact Nat.le_refl _
  | p :: ps, t, t', h => by
    have h : (t.ex p).bind (fun t' => t'.rl ps) = some t' := h
    cases e : t.ex p with
    | none =>
      rw [e] at h
      cases h
    | some m =>
      rw [e] at h
      exact Nat.le_trans (ex_dp t p m e) (rl_dp ps m t' h)
end Tree
/-! ### texts of paths -/
def pcs (p : List Bool) : List Nat := p.map fun b => if b then 49 else 48
def ptx (p : List Bool) : Str := ⟨(pcs p).toArray⟩
def Tree.st : Tree → List Bool → Option Tree
  | t, [] => some t
  | .L, _ :: _ => none
  | .N l r, b :: p => if b then r.st p else l.st p
def Tree.rp : Tree → List Bool → Tree → Option Tree
  | _, [], u => some u
  | .L, _ :: _, _ => none
  | .N l r, b :: p, u => if b then (r.rp p u).map fun r' => .N l r' else (l.rp p u).map fun l' => .N l' r
theorem Tree.st_nil (t : Tree) : t.st [] = some t := by cases t <;> rfl
theorem Tree.rp_nil (t u : Tree) : t.rp [] u = some u := by cases t <;> rfl
theorem Tree.ex_parts : ∀ (t : Tree) (p : List Bool) (t' : Tree), t.ex p = some t' → ∃ u u', t.st p = some u ∧ u.ex0 = some u' ∧ t.rp p u' = some t'
  | t, [], t', h => ⟨t, t', t.st_nil, by rw [← ex_nil]; exact h, t.rp_nil t'⟩
  | .L, _ :: _, _, h => by cases h
  | .N l r, false :: p, t', h => by
    rw [ex_0] at h
    cases e : l.ex p with
    | none =>
      rw [e] at h
      cases h
    | some m =>
      rw [e] at h
      cases h
      obtain ⟨u, u', h1, h2, h3⟩ := ex_parts l p m e
      refine ⟨u, u', h1, h2, ?_⟩
      show (l.rp p u').map (fun l' => Tree.N l' r) = _
      rw [h3]
      rfl
  | .N l r, true :: p, t', h => by
    rw [ex_1] at h
    cases e : r.ex p with
    | none =>
      rw [e] at h
      cases h
    | some m =>
      rw [e] at h
      cases h
      obtain ⟨u, u', h1, h2, h3⟩ := ex_parts r p m e
      refine ⟨u, u', h1, h2, ?_⟩
      show (r.rp p u').map (fun r' => Tree.N l r') = _
      rw [h3]
      rfl
theorem Tree.st_len : ∀ (t : Tree) (p : List Bool) (u : Tree), t.st p = some u → p.length + u.dp ≤ t.dp
  | t, [], u, h => by
    rw [st_nil] at h
    cases h
    show 0 + t.dp ≤ t.dp
    omega
  | .L, _ :: _, _, h => by cases h
  | .N l r, false :: p, u, h => by
    have h : l.st p = some u := h
    have := st_len l p u h
    show p.length + 1 + u.dp ≤ max l.dp r.dp + 1
    omega
  | .N l r, true :: p, u, h => by
    have h : r.st p = some u := h
    have := st_len r p u h
    show p.length + 1 + u.dp ≤ max l.dp r.dp + 1
    omega
/-! ### a loop over a text; an expression that is never asked -/
theorem pe_never {X : Cx} {e : Expr} : PE X e (fun _ _ _ => False) := ⟨fun _ _ _ _ _ _ h => h.elim⟩
theorem for_S {z : Str} {g : TG} {tb : TS} {D : Ends} {σ : L2.St} {G : Hp} (Pv : Nat → L2.St → Hp → Prop) (h0 : Pv 0 σ G)
    (hs : ∀ j c σ G, z.cps[j]? = some c → Pv j σ G → g (.str ⟨#[c]⟩) σ G fun σ2 G2 => tb { D with nx := Pv (j + 1), ct := Pv (j + 1), bk := D.nx } σ2 G2) (hd : ∀ σ G, Pv z.cps.size σ G → D.nx σ G) :
    ∃ Wd : Nat → Nat → L2.St → Hp → Prop, (∃ m, Wd 0 m σ G) ∧ ∀ j m σ G, Wd j m σ G →
      ((Its z).stop j G ∧ D.nx σ G) ∨ ((Its z).go j G ∧ ∃ Nn : L2.St → Hp → Prop, (∀ σ' G', Nn σ' G' → ∃ m', m' < m ∧ Wd (j + 1) m' σ' G') ∧ ∀ v G', (Its z).yld j G v G' → g v σ G' fun σ2 G2 => tb { D with nx := Nn, ct := Nn, bk := D.nx } σ2 G2) := by
  refine ⟨fun j m σ G => m = z.cps.size - j ∧ j ≤ z.cps.size ∧ Pv j σ G, ⟨_, rfl, Nat.zero_le _, h0⟩, ?_⟩
  rintro j m σ G ⟨rfl, le, pv⟩
  rcases Nat.lt_or_ge j z.cps.size with lt | ge
  · refine .inr ⟨lt, Pv (j + 1), fun σ' G' y => ⟨z.cps.size - (j + 1), by omega, rfl, lt, y⟩, fun v G' y => ?_⟩
    obtain ⟨rfl, c, hc, rfl⟩ := y
    exact hs j c σ _ hc pv
  · have ej : j = z.cps.size := Nat.le_antisymm le ge
    subst ej
    exact .inl ⟨Nat.le_refl _, hd σ G pv⟩
/-! ### promises -/
def spFsz (K : PySem.W.Frag) (n : Nat) : Sp := fun vs H Q _ => ∃ (v : V) (t : Tree), vs = [v] ∧ TA K H v t ∧ t.dp < n ∧ n ≤ 40 ∧ t.sz ≤ 20 ∧ ∀ H', Same H H' → Q (.int t.fsz) H'
def spSub (K : PySem.W.Frag) (n : Nat) : Sp := fun vs H Q _ => ∃ (v o : V) (t a : Tree), vs = [v, o] ∧ TA K H v t ∧ TA K H o a ∧ t.dp < n ∧ n ≤ 40 ∧ ∀ (u : V) (H' : Hp), TA K H' u (t.sub a) → Same H H' → Q u H'
def spFe (K : PySem.W.Frag) (n : Nat) : Sp := fun vs H Q _ => ∃ (v : V) (t : Tree), vs = [v] ∧ TA K H v t ∧ t.dp < n ∧ n ≤ 20 ∧ t.sz ≤ 12 ∧ ∀ (u : V) (H' : Hp), TA K H' u t.fe → Same H H' → Q u H'
def spSt (K : PySem.W.Frag) : Sp := fun vs H Q _ => ∃ (v : V) (t u : Tree) (p : List Bool), vs = [v, .str (ptx p)] ∧ TA K H v t ∧ t.dp ≤ 60 ∧ t.st p = some u ∧ ∀ (x : V) (H' : Hp), TA K H' x u → Same H H' → Q x H'
def spRp (K : PySem.W.Frag) (n : Nat) : Sp := fun vs H Q _ => ∃ (v w : V) (t u t' : Tree) (p : List Bool), vs = [v, .str (ptx p), w] ∧ TA K H v t ∧ TA K H w u ∧ p.length < n ∧ n ≤ 70 ∧ t.rp p u = some t' ∧ ∀ (x : V) (H' : Hp), TA K H' x t' → Same H H' → Q x H'
def spExp (K : PySem.W.Frag) : Sp := fun vs H Q _ => ∃ (v : V) (t u : Tree), vs = [v] ∧ TA K H v t ∧ t.dp ≤ 60 ∧ t.ex0 = some u ∧ ∀ (x : V) (H' : Hp), TA K H' x u → Same H H' → Q x H'
def spRw (K : PySem.W.Frag) : Sp := fun vs H Q _ => ∃ (v : V) (t t' : Tree) (p : List Bool), vs = [v, .str (ptx p), .bl true] ∧ TA K H v t ∧ t.dp ≤ 60 ∧ t.ex p = some t' ∧ ∀ (x : V) (H' : Hp), TA K H' x t' → Same H H' → Q x H'
theorem ptx_cps (p : List Bool) : (ptx p).cps.toList = pcs p := by
  show (pcs p).toArray.toList = _
  simp
theorem ptx_len (p : List Bool) : (ptx p).length = p.length := by
  show (pcs p).toArray.size = _
  simp [pcs]
theorem ptx_size (p : List Bool) : (ptx p).cps.size = p.length := ptx_len p
theorem pcs_at (p : List Bool) (j c : Nat) (h : (ptx p).cps[j]? = some c) : ∃ b, p[j]? = some b ∧ c = if b then 49 else 48 := by
  have h : (pcs p).toArray[j]? = some c := h
  rw [List.getElem?_toArray] at h
  unfold pcs at h
  rw [List.getElem?_map] at h
  cases e : p[j]? with
  | none =>
    rw [e] at h
    cases h
  | some b =>
    rw [e] at h
    cases h
    exact ⟨b, rfl, rfl⟩
theorem ptx_tail (b : Bool) (p : List Bool) : cutS (ptx (b :: p)) (some 1) none = ptx p := by
  unfold cutS
  rw [ptx_cps, ptx_len, show HT.sIx (b :: p).length 0 (some 1) = min 1 (b :: p).length from HT.sIx_nat _ _ 1, HT.sIx_none]
  have e : min 1 (b :: p).length = 1 := by
    rw [List.length_cons]
    omega
  rw [e]
  show (⟨((pcs p).take ((b :: p).length - 1)).toArray⟩ : Str) = ⟨(pcs p).toArray⟩
  rw [List.take_of_length_le]
  show (p.map _).length ≤ _
  rw [List.length_map, List.length_cons]
  exact Nat.le_refl _
theorem not_empty (b : Bool) (p : List Bool) : decide (V.str (ptx (b :: p)) = V.str (Str.ofString "")) = false := by
  refine decide_eq_false fun h => ?_
  have h1 := congrArg Str.length (V.str.inj h)
  rw [ptx_len] at h1
  cases h1
/-! ### the pool: numbered terms -/
theorem fne1 : ¬ (("numbers" : Str) = "pairs") := by decide +kernel
theorem fne2 : ¬ (("numbers" : Str) = "sizes") := by decide +kernel
theorem fne3 : ¬ (("numbers" : Str) = "terms") := by decide +kernel
theorem fne4 : ¬ (("pairs" : Str) = "sizes") := by decide +kernel
theorem fne5 : ¬ (("pairs" : Str) = "terms") := by decide +kernel
theorem fne6 : ¬ (("sizes" : Str) = "terms") := by decide +kernel
def pf (d a b c : Addr) : List (Str × V) := putF "terms" (.ref c) (putF "sizes" (.ref b) (putF "pairs" (.ref a) (putF "numbers" (.ref d) [])))
theorem pf_n (d a b c : Addr) : (pf d a b c).lookup ("numbers" : Str) = some (.ref d) := by
  unfold pf
  rw [lookup_putF, if_neg fne3, lookup_putF, if_neg fne2, lookup_putF, if_neg fne1, lookup_putF, if_pos rfl]
theorem pf_p (d a b c : Addr) : (pf d a b c).lookup ("pairs" : Str) = some (.ref a) := by
  unfold pf
  rw [lookup_putF, if_neg fne5, lookup_putF, if_neg fne4, lookup_putF, if_pos rfl]
theorem pf_s (d a b c : Addr) : (pf d a b c).lookup ("sizes" : Str) = some (.ref b) := by
  unfold pf
  rw [lookup_putF, if_neg fne6, lookup_putF, if_pos rfl]
theorem pf_t (d a b c : Addr) : (pf d a b c).lookup ("terms" : Str) = some (.ref c) := by
  unfold pf
  rw [lookup_putF, if_pos rfl]
theorem pf_no (d a b c : Addr) {m : Str} (h1 : ¬ m = "terms") (h2 : ¬ m = "sizes") (h3 : ¬ m = "pairs") (h4 : ¬ m = "numbers") : (pf d a b c).lookup m = none := by
  unfold pf
  rw [lookup_putF, if_neg h1, lookup_putF, if_neg h2, lookup_putF, if_neg h3, lookup_putF, if_neg h4]
  rfl
abbrev key2 (l r : Nat) : List Key := [Sum.inl (l : Int), Sum.inl (r : Int)]
def kv : List (Nat × Nat) → Nat → List (List Key × V)
  | [], _ => []
  | (l, r) :: es, i => (key2 l r, .int i) :: kv es (i + 1)
theorem kv_snoc : ∀ (es : List (Nat × Nat)) (i l r : Nat), kv (es ++ [(l, r)]) i = kv es i ++ [(key2 l r, .int ((i + es.length : Nat) : Int))]
  | [], i, l, r => rfl
  | (l', r') :: es, i, l, r => by
    show (key2 l' r', V.int i) :: kv (es ++ [(l, r)]) (i + 1) = (key2 l' r', V.int i) :: (kv es (i + 1) ++ _)
    rw [kv_snoc es (i + 1) l r, show i + 1 + es.length = i + (es.length + 1) by omega]
    rfl
theorem kv_len : ∀ (es : List (Nat × Nat)) (i : Nat), (kv es i).length = es.length
  | [], _ => rfl
  | (_, _) :: es, i => congrArg (· + 1) (kv_len es (i + 1))
theorem key2_inj {l r l' r' : Nat} (h : key2 l r = key2 l' r') : l = l' ∧ r = r' := by
  have h1 : (Sum.inl (l : Int) : Key) = Sum.inl (l' : Int) := (List.cons.inj h).1
  have h2 : (Sum.inl (r : Int) : Key) = Sum.inl (r' : Int) := (List.cons.inj (List.cons.inj h).2).1
  exact ⟨by have := Sum.inl.inj h1; omega, by have := Sum.inl.inj h2; omega⟩
theorem kv_some : ∀ (es : List (Nat × Nat)) (i l r : Nat) (v : V), valV (kv es i) (key2 l r) = some v → ∃ n : Nat, v = .int ((n + i : Nat) : Int) ∧ es[n]? = some (l, r)
  | [], i, l, r, v, h => by cases h
  | (l', r') :: es, i, l, r, v, h => by
    have h : valV ((key2 l' r', V.int i) :: kv es (i + 1)) (key2 l r) = some v := h
    by_cases e : key2 l' r' = key2 l r
    · rw [valV_pos e] at h
      cases h
      obtain ⟨rfl, rfl⟩ := key2_inj e
      exact ⟨0, by rw [Nat.zero_add], rfl⟩
    · rw [valV_neg e] at h
      obtain ⟨n, h1, h2⟩ := kv_some es (i + 1) l r v h
      exact ⟨n + 1, by rw [h1]; congr 2; omega, h2⟩
theorem val_none {kvs : List (List Key × V)} {k : List Key} (h : valV kvs k = none) : (kvs.any fun kv => decide (kv.1 = k)) = false := by
  induction kvs with
  | nil => rfl
  | cons p r ih =>
    by_cases e : p.1 = k
    · rw [valV_pos e] at h
      cases h
    · rw [valV_neg e] at h
      rw [List.any_cons, decide_eq_false e, ih h]
      rfl
theorem val_snoc {kvs : List (List Key × V)} {k : List Key} {v : V} (h : valV kvs k = none) : valV (kvs ++ [(k, v)]) k = some v := by
  induction kvs with
  | nil => exact valV_pos rfl
  | cons p r ih =>
    by_cases e : p.1 = k
    · rw [valV_pos e] at h
      cases h
    · rw [valV_neg e] at h
      show valV (p :: (r ++ [(k, v)])) k = some v
      rw [valV_neg e]
      exact ih h
/-- the numbers' operands and their terms -/
structure Good (es : List (Nat × Nat)) (ts : List Tree) : Prop where
  len : ts.length = es.length + 1
  zero : ts[0]? = some .L
  pair : ∀ i l r, es[i]? = some (l, r) → ∃ tl tr, ts[l]? = some tl ∧ ts[r]? = some tr ∧ ts[i + 1]? = some (.N tl tr)
  nd : es.Nodup
theorem kv_none : ∀ (es : List (Nat × Nat)) (i l r : Nat), valV (kv es i) (key2 l r) = none → (l, r) ∉ es
  | [], _, _, _, _ => by simp
  | (l', r') :: es, i, l, r, h => by
    have h : valV ((key2 l' r', V.int i) :: kv es (i + 1)) (key2 l r) = none := h
    by_cases e : key2 l' r' = key2 l r
    · rw [valV_pos e] at h
      cases h
    · rw [valV_neg e] at h
      intro z
      rcases List.mem_cons.mp z with z | z
      · cases z
        exact e rfl
      · exact kv_none es (i + 1) l r h z
theorem nodup_snoc {α : Type} {F : List α} {r : α} (h : F.Nodup) (h3 : r ∉ F) : (F ++ [r]).Nodup := List.nodup_append.mpr ⟨h, by simp, fun a ha b hb z => by
  rw [List.mem_singleton.mp hb] at z
  exact h3 (z ▸ ha)⟩
/-- equal terms have equal numbers -/
theorem Good.inj {es : List (Nat × Nat)} {ts : List Tree} (g : Good es ts) : ∀ (t : Tree) (i j : Nat), ts[i]? = some t → ts[j]? = some t → i = j := by
  have up : ∀ {i : Nat} {t : Tree}, ts[i + 1]? = some t → ∃ l r tl tr, es[i]? = some (l, r) ∧ ts[l]? = some tl ∧ ts[r]? = some tr ∧ t = .N tl tr := fun {i t} h => by
    have hi : i < es.length := by
      have := (List.getElem?_eq_some_iff.mp h).1
      have := g.len
      omega
    obtain ⟨tl, tr, h1, h2, h3⟩ := g.pair i es[i].1 es[i].2 (List.getElem?_eq_getElem hi)
    rw [h3] at h
    cases h
    exact ⟨_, _, tl, tr, List.getElem?_eq_getElem hi, h1, h2, rfl⟩
  intro t
  induction t with
  | L =>
    intro i j hi hj
    cases i with
    | zero =>
      cases j with
      | zero => rfl
      | succ j =>
        obtain ⟨_, _, _, _, _, _, _, e⟩ := up hj
        cases e
    | succ i =>
      obtain ⟨_, _, _, _, _, _, _, e⟩ := up hi
      cases e
  | N tl tr ih1 ih2 =>
    intro i j hi hj
    cases i with
    | zero =>
      rw [g.zero] at hi
      cases hi
    | succ i =>
      cases j with
      | zero =>
        rw [g.zero] at hj
        cases hj
      | succ j =>
        obtain ⟨l, r, _, _, e1, a1, a2, e⟩ := up hi
        cases e
        obtain ⟨l', r', _, _, e2, b1, b2, e⟩ := up hj
        cases e
        have x1 := ih1 _ _ a1 b1
        have x2 := ih2 _ _ a2 b2
        subst x1 x2
        obtain ⟨p1, q1⟩ := List.getElem?_eq_some_iff.mp e1
        obtain ⟨p2, q2⟩ := List.getElem?_eq_some_iff.mp e2
        have := (List.getElem_inj g.nd).mp (q1.trans q2.symm)
        omega
structure Ops (K : PySem.W.Frag) (H : Hp) (ps : List V) (es : List (Nat × Nat)) : Prop where
  len : ps.length = es.length + 1
  zero : ∃ q, ps[0]? = some (.ref q) ∧ SqT K H q []
  pair : ∀ i l r, es[i]? = some (l, r) → ∃ q, ps[i + 1]? = some (.ref q) ∧ SqT K H q [.int (l : Nat), .int (r : Nat)]
theorem Ops.mono {K : PySem.W.Frag} {H H' : Hp} {ps : List V} {es : List (Nat × Nat)} (e : Tp H H') (o : Ops K H ps es) : Ops K H' ps es :=
  ⟨o.len, let ⟨q, h1, h2⟩ := o.zero; ⟨q, h1, e.sqT h2⟩, fun i l r h => let ⟨q, h1, h2⟩ := o.pair i l r h; ⟨q, h1, e.sqT h2⟩⟩
def PoolA (K : PySem.W.Frag) (C x d a b c : Addr) (H : Hp) (ts : List Tree) : Prop := ∃ (dx : Addr) (es : List (Nat × Nat)) (ps cs : List V),
  H x = some (.ins C dx (pf d a b c)) ∧ H d = some (.dT (kv es 1)) ∧ H a = some (.lst ps) ∧ H b = some (.lst (ts.map fun t => V.int (t.sz : Nat))) ∧ H c = some (.lst cs) ∧ a ≠ b ∧ a ≠ c ∧ b ≠ c ∧ Good es ts ∧ Ops K H ps es ∧ DpAll K H cs (ts.map Tree.d)
/-- all but the pool's own objects stays -/
def Ex4 (d a b c : Addr) (H H' : Hp) : Prop := ∀ q o, H q = some o → q ≠ d → q ≠ a → q ≠ b → q ≠ c → H' q = some o
theorem Ex4.trans {d a b c : Addr} {H H1 H2 : Hp} (e : Ex4 d a b c H H1) (e' : Ex4 d a b c H1 H2) : Ex4 d a b c H H2 := fun q o h h1 h2 h3 h4 => e' q o (e q o h h1 h2 h3 h4) h1 h2 h3 h4
theorem Ex4.same {d a b c : Addr} {H H' : Hp} (e : Same H H') : Ex4 d a b c H H' := fun q o h _ _ _ _ => e q o h
theorem Ex4.refl {d a b c : Addr} {H : Hp} : Ex4 d a b c H H := fun _ _ h _ _ _ _ => h
theorem PoolA.same {K : PySem.W.Frag} {C x d a b c : Addr} {H H' : Hp} {ts : List Tree} (e : Same H H') (p : PoolA K C x d a b c H ts) : PoolA K C x d a b c H' ts := by
  obtain ⟨dx, es, ps, cs, h1, h2, h3, h4, h5, n1, n2, n3, g, o, dd⟩ := p
  exact ⟨dx, es, ps, cs, e _ _ h1, e _ _ h2, e _ _ h3, e _ _ h4, e _ _ h5, n1, n2, n3, g, o.mono (Tp.same e), dp_sameAll e _ dd⟩
theorem PoolA.tp {K : PySem.W.Frag} {C x d a b c : Addr} {H H' : Hp} {ts : List Tree} (p : PoolA K C x d a b c H ts) (e : Ex4 d a b c H H') : Tp H H' := by
  obtain ⟨dx, es, ps, cs, h1, h2, h3, h4, h5, _⟩ := p
  intro q xs h
  have k : ∀ o, H q = some o → (∀ kvs, o ≠ .dT kvs) → (∀ ys, o ≠ .lst ys) → H' q = some o := fun o ho k1 k2 =>
    e q o ho (fun z => k1 _ (Option.some.inj (ho.symm.trans (z ▸ h2)))) (fun z => k2 _ (Option.some.inj (ho.symm.trans (z ▸ h3)))) (fun z => k2 _ (Option.some.inj (ho.symm.trans (z ▸ h4)))) (fun z => k2 _ (Option.some.inj (ho.symm.trans (z ▸ h5))))
  rcases h with h | ⟨o, h⟩
  · exact .inl (k _ h (fun _ z => by cases z) (fun _ z => by cases z))
  · exact .inr ⟨o, k _ h (fun _ z => by cases z) (fun _ z => by cases z)⟩
def Pre (ts ts' : List Tree) : Prop := ∀ (i : Nat) (t : Tree), ts[i]? = some t → ts'[i]? = some t
theorem Pre.trans {a b c : List Tree} (h : Pre a b) (h' : Pre b c) : Pre a c := fun i t e => h' i t (h i t e)
structure PoolT (K : PySem.W.Frag) (mg : Str → Option Value) (C : Addr) : Prop where
  cl : Cls K C
  n1 : NoAttr K C "numbers"
  n2 : NoAttr K C "pairs"
  n3 : NoAttr K C "sizes"
  n4 : NoAttr K C "terms"
  mgC : mg "Pool" = some (.ref C)
def spPInit (K : PySem.W.Frag) (C : Addr) : Sp := fun vs H Q _ => ∃ (H0 : Hp) (x dx : Addr), vs = [.ref x] ∧ Same H0 H ∧ H0 x = none ∧ H x = some (.ins C dx []) ∧
  ∀ (d a b c : Addr) (H' : Hp), PoolA K C x d a b c H' [.L] → Same H0 H' → H0 d = none → H0 a = none → H0 b = none → H0 c = none → Q .non H'
def spPair (K : PySem.W.Frag) (C : Addr) : Sp := fun vs H Q _ => ∃ (x d a b c : Addr) (l r : Nat) (ts : List Tree) (tl tr : Tree), vs = [.ref x, .int l, .int r] ∧ PoolA K C x d a b c H ts ∧ ts.length ≤ 1000000 ∧ ts[l]? = some tl ∧ ts[r]? = some tr ∧
  ∀ (n : Nat) (ts' : List Tree) (H' : Hp), PoolA K C x d a b c H' ts' → Ex4 d a b c H H' → Pre ts ts' → ts'[n]? = some (.N tl tr) → ts'.length ≤ ts.length + 1 → Q (.int n) H'
def spNum (K : PySem.W.Frag) (C : Addr) (n : Nat) : Sp := fun vs H Q _ => ∃ (x d a b c : Addr) (v : V) (t : Tree) (ts : List Tree), vs = [.ref x, v] ∧ PoolA K C x d a b c H ts ∧ TA K H v t ∧ t.dp < n ∧ n ≤ 40 ∧ ts.length + t.nodes ≤ 1000000 ∧
  ∀ (m : Nat) (ts' : List Tree) (H' : Hp), PoolA K C x d a b c H' ts' → Ex4 d a b c H H' → Pre ts ts' → ts'[m]? = some t → ts'.length ≤ ts.length + t.nodes → Q (.int m) H'
theorem mil {n : Nat} (h : n ≤ 1000000) : n < sizeLine := Nat.lt_of_le_of_lt h (by decide)
/-! ### what the pool tells of a number -/
theorem PoolA.at {K : PySem.W.Frag} {C x d a b c : Addr} {H : Hp} {ts : List Tree} (p : PoolA K C x d a b c H ts) {m : Nat} {t : Tree} (hm : ts[m]? = some t) :
    ∃ (dx : Addr) (ps : List V) (q : Addr) (ops : List V), H x = some (.ins C dx (pf d a b c)) ∧ H a = some (.lst ps) ∧ ps[m]? = some (.ref q) ∧ SqT K H q ops ∧
      match t with
      | .L => ops = []
      | .N tl tr => ∃ l r : Nat, ops = [.int (l : Nat), .int (r : Nat)] ∧ ts[l]? = some tl ∧ ts[r]? = some tr := by
  obtain ⟨dx, es, ps, cs, hx, hd, ha, hb, hc, n1, n2, n3, g, o, dd⟩ := p
  cases m with
  | zero =>
    rw [g.zero] at hm
    cases hm
    obtain ⟨q, h1, h2⟩ := o.zero
    exact ⟨dx, ps, q, [], hx, ha, h1, h2, rfl⟩
  | succ i =>
    have hi : i < es.length := by
      have := (List.getElem?_eq_some_iff.mp hm).1
      have := g.len
      omega
    obtain ⟨tl, tr, h1, h2, h3⟩ := g.pair i es[i].1 es[i].2 (List.getElem?_eq_getElem hi)
    rw [h3] at hm
    cases hm
    obtain ⟨q, h4, h5⟩ := o.pair i es[i].1 es[i].2 (List.getElem?_eq_getElem hi)
    exact ⟨dx, ps, q, _, hx, ha, h4, h5, es[i].1, es[i].2, rfl, h1, h2⟩
theorem ops_L {K : PySem.W.Frag} {H : Hp} {q : Addr} (h : SqT K H q []) : Dp K H (.ref q) (.tuple []) := Dp.tup h .nil
theorem ops_N {K : PySem.W.Frag} {H : Hp} {q : Addr} {l r : Nat} (h : SqT K H q [.int (l : Nat), .int (r : Nat)]) : Dp K H (.ref q) (.tuple [.int (l : Nat), .int (r : Nat)]) := Dp.tup h (.cons (.int _) (.cons (.int _) .nil))
theorem ops_sh (l r : Nat) : SeqAt.shaped (.tuple [.int (l : Nat), .int (r : Nat)]) = true := rfl
theorem ops_ne (l r : Nat) : PyData.eqv (.tuple [.int (l : Nat), .int (r : Nat)]) (.tuple []) = false := rfl
def spSpread (K : PySem.W.Frag) (C : Addr) (n : Nat) : Sp := fun vs H Q _ => ∃ (x d a b c : Addr) (k m : Nat) (ts : List Tree) (tk t : Tree), vs = [.ref x, .int k, .int m] ∧ PoolA K C x d a b c H ts ∧ ts[k]? = some tk ∧ ts[m]? = some t ∧ t.dp < n ∧ ts.length + t.nodes ≤ 1000000 ∧
  ∀ (j : Nat) (ts' : List Tree) (H' : Hp), PoolA K C x d a b c H' ts' → Ex4 d a b c H H' → Pre ts ts' → ts'[j]? = some (t.sub tk) → ts'.length ≤ ts.length + t.nodes → Q (.int j) H'
def Tree.fnc : Tree → Nat
  | .L => 0
  | .N a b => a.fnc + b.fnc + b.fe.nodes
def spFull (K : PySem.W.Frag) (C : Addr) (n : Nat) : Sp := fun vs H Q _ => ∃ (x d a b c : Addr) (m : Nat) (ts : List Tree) (t : Tree), vs = [.ref x, .int m] ∧ PoolA K C x d a b c H ts ∧ ts[m]? = some t ∧ t.dp < n ∧ n ≤ 40 ∧ t.sz ≤ 12 ∧ ts.length + t.fnc ≤ 1000000 ∧
  ∀ (j : Nat) (ts' : List Tree) (H' : Hp), PoolA K C x d a b c H' ts' → Ex4 d a b c H H' → Pre ts ts' → ts'[j]? = some t.fe → ts'.length ≤ ts.length + t.fnc → Q (.int j) H'
/-- the places of a term: a path and the term there -/
def Tree.pl : Tree → List Bool → List (List Bool × Tree)
  | .L, p => [(p, .L)]
  | .N l r, p => (p, .N l r) :: (l.pl (p ++ [false]) ++ r.pl (p ++ [true]))
inductive PlA (K : PySem.W.Frag) (H : Hp) (ts : List Tree) : List V → List (List Bool × Tree) → Prop
  | nil : PlA K H ts [] []
  | cons {q : Addr} {k : Nat} {p : List Bool} {t : Tree} {vs : List V} {ys : List (List Bool × Tree)} : SqT K H q [.str (ptx p), .int (k : Nat)] → ts[k]? = some t → PlA K H ts vs ys → PlA K H ts (.ref q :: vs) ((p, t) :: ys)
theorem PlA.mono {K : PySem.W.Frag} {H H' : Hp} {ts ts' : List Tree} (e : Tp H H') (pr : Pre ts ts') : ∀ {vs : List V} {ys : List (List Bool × Tree)}, PlA K H ts vs ys → PlA K H' ts' vs ys
  | _, _, .nil => .nil
  | _, _, .cons h1 h2 h3 => .cons (e.sqT h1) (pr _ _ h2) (PlA.mono e pr h3)
theorem PlA.app {K : PySem.W.Frag} {H : Hp} {ts : List Tree} : ∀ {vs ws : List V} {ys zs : List (List Bool × Tree)}, PlA K H ts vs ys → PlA K H ts ws zs → PlA K H ts (vs ++ ws) (ys ++ zs)
  | _, _, _, _, .nil, h => h
  | _, _, _, _, .cons h1 h2 h3, h => .cons h1 h2 (PlA.app h3 h)
theorem PlA.len {K : PySem.W.Frag} {H : Hp} {ts : List Tree} : ∀ {vs : List V} {ys : List (List Bool × Tree)}, PlA K H ts vs ys → vs.length = ys.length
  | _, _, .nil => rfl
  | _, _, .cons _ _ h3 => congrArg (· + 1) (PlA.len h3)
theorem Tree.pl_len : ∀ (t : Tree) (p : List Bool), (t.pl p).length = t.nodes
  | .L, _ => rfl
  | .N l r, p => by
    show ((p, Tree.N l r) :: (l.pl (p ++ [false]) ++ r.pl (p ++ [true]))).length = l.nodes + r.nodes + 1
    rw [List.length_cons, List.length_append, pl_len l, pl_len r]
theorem Tree.nodes_sz : ∀ t : Tree, t.nodes + 1 = 2 * t.sz
  | .L => rfl
  | .N l r => by
    have h1 := nodes_sz l
    have h2 := nodes_sz r
    show l.nodes + r.nodes + 1 + 1 = 2 * (l.sz + r.sz)
    omega
def spPlaces (K : PySem.W.Frag) (C : Addr) (n : Nat) : Sp := fun vs H Q _ => ∃ (x d a b c : Addr) (m : Nat) (p : List Bool) (ts : List Tree) (t : Tree), vs = [.ref x, .int m, .str (ptx p)] ∧ PoolA K C x d a b c H ts ∧ ts[m]? = some t ∧ t.dp < n ∧ p.length + n ≤ 100 ∧ t.nodes ≤ 5000 ∧
  ∀ (z : Addr) (ws : List V) (H' : Hp), Same H H' → H z = none → H' z = some (.lst ws) → PlA K H' ts ws (t.pl p) → Q (.ref z) H'
theorem ptx_snoc0 (p : List Bool) : ptx p ++ Str.ofString "0" = ptx (p ++ [false]) := by
  show (⟨(pcs p).toArray ++ #[48]⟩ : Str) = ⟨(pcs (p ++ [false])).toArray⟩
  unfold pcs
  rw [List.map_append]
  congr 1
  apply Array.toList_inj.mp
  simp
theorem ptx_snoc1 (p : List Bool) : ptx p ++ Str.ofString "1" = ptx (p ++ [true]) := by
  show (⟨(pcs p).toArray ++ #[49]⟩ : Str) = ⟨(pcs (p ++ [true])).toArray⟩
  unfold pcs
  rw [List.map_append]
  congr 1
  apply Array.toList_inj.mp
  simp
def spCheckFull (K : PySem.W.Frag) : Sp := fun vs H Q _ => ∃ (v : V) (t : Tree), vs = [v] ∧ TA K H v t ∧ t.sz ≤ 12 ∧ t.dp ≤ 6 ∧ t.fsz ≤ 500 ∧ ∀ H', Same H H' → Q .non H'
def Tree.fpc : Tree → Nat
  | .L => 0
  | .N a b => a.fpc + b.fpc + b.fnc
def ptxs (ps : List (List Bool)) : List V := ps.map fun p => .str (ptx p)
def spPaths (K : PySem.W.Frag) (C : Addr) (n : Nat) : Sp := fun vs H Q _ => ∃ (x d a b c : Addr) (m : Nat) (p : List Bool) (ts : List Tree) (t : Tree), vs = [.ref x, .int m, .str (ptx p)] ∧ PoolA K C x d a b c H ts ∧ ts[m]? = some t ∧ t.dp < n ∧ p.length + n ≤ 60 ∧ t.sz ≤ 12 ∧ t.fsz ≤ 500 ∧ ts.length + t.fpc ≤ 1000000 ∧
  ∀ (z : Addr) (ts' : List Tree) (H' : Hp), PoolA K C x d a b c H' ts' → Ex4 d a b c H H' → Pre ts ts' → ts'.length ≤ ts.length + t.fpc → H z = none → H' z = some (.lst (ptxs (t.fp.map (p ++ ·)))) → Q (.ref z) H'
def spPathsOf (K : PySem.W.Frag) : Sp := fun vs H Q _ => ∃ (v : V) (t : Tree), vs = [v] ∧ TA K H v t ∧ t.sz ≤ 12 ∧ t.dp ≤ 6 ∧ t.fsz ≤ 500 ∧ ∀ (z : Addr) (H' : Hp), Same H H' → H z = none → H' z = some (.lst (ptxs t.fp)) → Q (.ref z) H'
def kept (ys : List (List Bool × Tree)) : List (List Bool) := (ys.filter fun y => !y.2.isL).map (·.1)
theorem kept_app (ys zs : List (List Bool × Tree)) : kept (ys ++ zs) = kept ys ++ kept zs := by
  unfold kept
  rw [List.filter_append, List.map_append]
theorem kept_cons (p : List Bool) (l r : Tree) (ys : List (List Bool × Tree)) : kept ((p, Tree.N l r) :: ys) = p :: kept ys := rfl
theorem kept_pl : ∀ (t : Tree) (p : List Bool), kept (t.pl p) = t.nd.map (p ++ ·)
  | .L, p => rfl
  | .N l r, p => by
    have ea : l.nd.map (fun y => (p ++ [false]) ++ y) = (l.nd.map (false :: ·)).map (p ++ ·) := by
      rw [List.map_map]
      exact List.map_congr_left fun y _ => by simp
    have eb : r.nd.map (fun y => (p ++ [true]) ++ y) = (r.nd.map (true :: ·)).map (p ++ ·) := by
      rw [List.map_map]
      exact List.map_congr_left fun y _ => by simp
    show kept ((p, Tree.N l r) :: (l.pl (p ++ [false]) ++ r.pl (p ++ [true]))) = ([] :: (l.nd.map (false :: ·) ++ r.nd.map (true :: ·))).map (p ++ ·)
    rw [kept_cons, kept_app, kept_pl l, kept_pl r, List.map_cons, List.map_append, List.append_nil, ea, eb]
theorem Tree.nd_len : ∀ t : Tree, t.nd.length + 1 = t.sz
  | .L => rfl
  | .N l r => by
    have h1 := nd_len l
    have h2 := nd_len r
    show ([] :: (l.nd.map (false :: ·) ++ r.nd.map (true :: ·))).length + 1 = l.sz + r.sz
    rw [List.length_cons, List.length_append, List.length_map, List.length_map]
    omega
theorem mul_big {a b n : Nat} (ha : 0 < a) (h : a * b ≤ n) : b ≤ n := Nat.le_trans (Nat.le_mul_of_pos_left b ha) h
theorem Tree.fsz_l {l r : Tree} {n : Nat} (h : (Tree.N l r).fsz ≤ n) : l.fsz ≤ n := by
  have h : (l.fsz + 1) * r.fsz ≤ n := h
  have h1 := r.fsz_pos
  have : l.fsz + 1 ≤ (l.fsz + 1) * r.fsz := Nat.le_mul_of_pos_right _ h1
  omega
theorem Tree.fsz_r {l r : Tree} {n : Nat} (h : (Tree.N l r).fsz ≤ n) : r.fsz ≤ n := mul_big (Nat.succ_pos _) (show (l.fsz + 1) * r.fsz ≤ n from h)
theorem Tree.fp_len : ∀ t : Tree, t.fsz ≤ 500 → t.fp.length + 500 ≤ 500 * t.sz
  | .L, _ => Nat.le_refl _
  | .N l r, h => by
    have h1 := fp_len l (fsz_l h)
    have h2 := fp_len r (fsz_r h)
    have h3 := r.fe.nd_len
    have h4 := fsz_r h
    rw [r.fe_sz] at h3
    show ((l.fp.map (false :: ·) ++ r.fp.map (true :: ·)) ++ r.fe.nd).length + 500 ≤ 500 * (l.sz + r.sz)
    rw [List.length_append, List.length_append, List.length_map, List.length_map]
    omega
theorem Tree.fnc_le : ∀ t : Tree, t.fsz ≤ 500 → t.fnc + 1000 ≤ 1000 * t.sz
  | .L, _ => Nat.le_refl _
  | .N l r, h => by
    have h1 := fnc_le l (fsz_l h)
    have h2 := fnc_le r (fsz_r h)
    have h3 := r.fe.nodes_sz
    have h4 := fsz_r h
    rw [r.fe_sz] at h3
    show l.fnc + r.fnc + r.fe.nodes + 1000 ≤ 1000 * (l.sz + r.sz)
    omega
theorem Tree.fpc_le : ∀ t : Tree, t.fsz ≤ 500 → t.sz ≤ 12 → t.fpc + 12000 ≤ 12000 * t.sz
  | .L, _, _ => Nat.le_refl _
  | .N l r, h, hz => by
    have hz : l.sz + r.sz ≤ 12 := hz
    have h1 := fpc_le l (fsz_l h) (by omega)
    have h2 := fpc_le r (fsz_r h) (by omega)
    have h3 := fnc_le r (fsz_r h)
    show l.fpc + r.fpc + r.fnc + 12000 ≤ 12000 * (l.sz + r.sz)
    omega
theorem PoolA.fresh {K : PySem.W.Frag} {C x d a b c z : Addr} {H : Hp} {ts : List Tree} (p : PoolA K C x d a b c H ts) (h : H z = none) : z ≠ d ∧ z ≠ a ∧ z ≠ b ∧ z ≠ c := by
  obtain ⟨dx, es, ps, cs, hx, hd, ha, hb, hc, _⟩ := p
  exact ⟨(ne_of_none hd h).symm, (ne_of_none ha h).symm, (ne_of_none hb h).symm, (ne_of_none hc h).symm⟩
theorem Ex4.free {K : PySem.W.Frag} {C x d a b c z : Addr} {H H' : Hp} {ts : List Tree} (p : PoolA K C x d a b c H' ts) (e : Ex4 d a b c H H') (h : H' z = none) : H z = none := by
  obtain ⟨n1, n2, n3, n4⟩ := p.fresh h
  cases q : H z with
  | none => rfl
  | some o =>
    rw [e z o q n1 n2 n3 n4] at h
    cases h
theorem Ex4.list {K : PySem.W.Frag} {C x d a b c z : Addr} {H0 H H' : Hp} {ts : List Tree} {o : HO} (p : PoolA K C x d a b c H0 ts) (f : H0 z = none) (e : Ex4 d a b c H H') (h : H z = some o) : H' z = some o := by
  obtain ⟨n1, n2, n3, n4⟩ := p.fresh f
  exact e z o h n1 n2 n3 n4
theorem ptxs_app (ps qs : List (List Bool)) : ptxs (ps ++ qs) = ptxs ps ++ ptxs qs := List.map_append
theorem ptxs_len (ps : List (List Bool)) : (ptxs ps).length = ps.length := List.length_map _
theorem fp_N (l r : Tree) (p : List Bool) : (ptxs (l.fp.map ((p ++ [false]) ++ ·)) ++ ptxs (r.fp.map ((p ++ [true]) ++ ·))) ++ ptxs (kept (r.fe.pl p)) = ptxs ((Tree.N l r).fp.map (p ++ ·)) := by
  have ea : l.fp.map (fun y => (p ++ [false]) ++ y) = (l.fp.map (false :: ·)).map (p ++ ·) := by
    rw [List.map_map]
    exact List.map_congr_left fun y _ => by simp
  have eb : r.fp.map (fun y => (p ++ [true]) ++ y) = (r.fp.map (true :: ·)).map (p ++ ·) := by
    rw [List.map_map]
    exact List.map_congr_left fun y _ => by simp
  show _ = ptxs (((l.fp.map (false :: ·) ++ r.fp.map (true :: ·)) ++ r.fe.nd).map (p ++ ·))
  rw [List.map_append, List.map_append, ptxs_app, ptxs_app, kept_pl, ea, eb]
theorem Tree.dp_sz : ∀ t : Tree, t.dp + 1 ≤ t.sz
  | .L => Nat.le_refl _
  | .N l r => by
    have h1 := dp_sz l
    have h2 := dp_sz r
    show max l.dp r.dp + 1 + 1 ≤ l.sz + r.sz
    omega
section OPN
open PySem.Spec PyProof.Rows
/-! ### t[::-1] -/
section
variable {prog : Program} {w : World} {A : Around} {E : Value → Shared → Prop} {s : Shared}
theorem sliceApplied_rev {sl : Addr} {vs : Value} {n : Nat} {Q : Int × Int × Nat → Shared → Prop} (hs : s.heap.IsSliceOf sl .none .none vs) (ps : IsPart vs (some (-1))) (h : Q ((n : Int) - 1, -1, n) s) : wpAny (model prog w) A (Builtin.Slice.sliceApplied (.ref sl) (pure (n : Int))) Q E s := by
  obtain ⟨os, hos, hcs, hds⟩ := id hs
  unfold Builtin.Slice.sliceApplied Builtin.Slice.sliceFields
  refine wpAny_bind (wpAny_bind (wpAny_field hos hds (x := .none) rfl (wpAny_bind (wpAny_field hos hds (x := .none) rfl (wpAny_bind (wpAny_field hos hds (x := vs) rfl (wpAny_pure ?_)))))))
  refine wpAny_bind (HT.slicePart_ ps ?_)
  show wpAny _ _ (if ((-1 : Int) == 0) = true then _ else _) _ _ s
  rw [if_neg (by decide)]
  refine wpAny_bind (HT.slicePart_ .none (wpAny_bind (HT.slicePart_ .none (wpAny_bind (wpAny_pure ?_)))))
  show wpAny _ _ (pure ((n : Int) - 1, (-1 : Int), Builtin.Slice.slicePlaces ((n : Int) - 1) (-1) (-1))) _ _ s
  have e : Builtin.Slice.slicePlaces ((n : Int) - 1) (-1) (-1) = n := by
    unfold Builtin.Slice.slicePlaces
    have h1 : ¬ ((-1 : Int) > 0) := by decide
    rw [if_neg h1, show (- -1 : Int) = 1 by decide]
    simp only [Int.ediv_one]
    split <;> omega
  rw [e]
  exact wpAny_pure h
theorem pick_rev (xs : Array Value) : ((List.range xs.size).filterMap fun (m : Nat) => xs[(((xs.size : Nat) : Int) - 1 + (m : Int) * -1).toNat]?).toArray = xs.toList.reverse.toArray := by
  congr 1
  rw [← PySem.W.krv_all xs, ← List.filterMap_reverse, ← PySem.W.krv_range, List.filterMap_map]
  have key : ∀ l : List Nat, (∀ m ∈ l, m < xs.size) → l.filterMap (fun (m : Nat) => xs[(((xs.size : Nat) : Int) - 1 + (m : Int) * -1).toNat]?) = l.filterMap ((fun x => xs[x]?) ∘ fun k => xs.size - 1 - k) := by
    intro l
    induction l with
    | nil => intro _; rfl
    | cons a r ih =>
      intro h
      have ha := h a List.mem_cons_self
      rw [List.filterMap_cons, List.filterMap_cons, ih fun m hm => h m (List.mem_cons_of_mem _ hm)]
      have e : (((xs.size : Nat) : Int) - 1 + (a : Int) * -1).toNat = xs.size - 1 - a := by omega
      rw [e]
      rfl
  exact key _ fun m hm => List.mem_range.mp hm
theorem getItem_tuple_rev {t sl : Addr} {items : Array Value} {vs : Value} {Q : Value → Shared → Prop} (ht : IsTup s.heap t items) (hs : s.heap.IsSliceOf sl .none .none vs) (ps : IsPart vs (some (-1)))
    (h : Q (.ref s.heap.objs.size) { s with heap := s.heap.push { cls := .type "tuple", data := .seq items.toList.reverse.toArray } })
    (hsz : items.size ≤ sizeLine) : wpAny (model prog w) A (getItem (.ref t) (.ref sl)) Q E s := by
  have htake : sizeOk (.seq items.toList.reverse.toArray) := by
    show items.toList.reverse.toArray.size ≤ sizeLine
    rw [List.size_toArray, List.length_reverse, Array.length_toList]
    exact hsz
  obtain ⟨os, hos, hcs, hds⟩ := id hs
  have hTs : s.TypeIs (.ref sl) "slice" := ⟨os, hos, hcs⟩
  unfold getItem
  try with_reducible refine wpAny_holding ?_
  first | refine wpAny_bind (wpAny_pure ?_) | skip
  refine wpAny_bind (wpAny_sequenceKey ht.typeIs (by decide) ?_)
  refine wpAny_bind (wpAny_callSpecial?_slot (name := Str.ofString "__getitem__") ht.typeIs PyProof.Rows.slot_tuple_getitem
    (wpAny_call_entry PyProof.Rows.slot_tuple_getitem ht.typeIs entry_tuple_getitem ?_ (args_tuple_getitem _ _)))
  show wpAny _ _ (Builtin.Tuple.tupleItemsOf (.ref t) >>= _) _ _ s
  refine wpAny_bind (tupleItemsOf_ ht ?_)
  refine wpAny_bind (wpAny_typeOf hTs ?_)
  rw [if_pos (by decide)]
  refine wpAny_bind (sliceApplied_rev hs ps ?_)
  have hno : ¬ ((((items.size : Nat) : Int) - 1 == 0 && (-1 : Int) == 1 && items.size == items.size) = true) := by
    intro q
    rw [Bool.and_eq_true, Bool.and_eq_true] at q
    exact absurd q.1.2 (by decide)
  show wpAny _ _ (if (((items.size : Nat) : Int) - 1 == 0 && (-1 : Int) == 1 && items.size == items.size) = true then _ else _) _ _ s
  rw [if_neg hno, pick_rev]
  first
    | exact wpAny_bind (m := Builtin.Tuple.tupleExact _) (wpAny_newObj_type (wpAny_pure ⟨_, rfl, wpAny_pure h⟩) htake)
    | exact wpAny_bind (m := Builtin.Tuple.tupleExact _) (wpAny_newObj_type (wpAny_bind (wpAny_pure (wpAny_pure ⟨_, rfl, wpAny_pure h⟩))) htake)
    | exact wpAny_bind (wpAny_bind (m := Builtin.Tuple.tupleExact _) (wpAny_newObj_type (wpAny_pure (wpAny_pure ⟨_, rfl, wpAny_pure h⟩)) htake))
    | exact wpAny_bind (wpAny_bind (m := Builtin.Tuple.tupleExact _) (wpAny_newObj_type (wpAny_pure ⟨_, rfl, wpAny_pure h⟩) htake))
end
def tRevT (K : PySem.W.Frag) (te : TE) : TE := fun σ H Q => te σ H fun x H1 => ∃ a xs, x = .ref a ∧ SqT K H1 a xs ∧ ∀ p, H1 p = none → Q (.ref p) (upd H1 p (.tup xs.reverse))
theorem pe_revT {X : Cx} {e : Expr} {te : TE} {k : Nat} {p1 p2 p3 pos : Pos} (he : PE X e te) : PE X (.Subscript e (.Slice none none (some (.UnaryOp .USub (.Constant (.int 1) k p1) p2)) p3) pos) (tRevT X.K te) := by
  refine ⟨fun pins s σ H Q I h => ?_⟩
  refine Subscript_ (thn (he.run pins s σ H _ I h) fun v s1 ⟨x, H1, I1, r1, q1⟩ => ?_)
  obtain ⟨a, xs, ex, hx, q⟩ := q1
  subst ex
  cases r1
  have hst : PO X (some (.UnaryOp .USub (.Constant (.int 1) k p1) p2)) (tPart (tUn (rU fun i => .int (-i)) (tC (.int 1)))) := po_some (pe_un un_neg pe_int)
  refine wpAny_Slice (thn (po_none.run pins s1 σ H1 (fun o H2 => o = none ∧ H2 = H1) I1 ⟨rfl, rfl⟩) fun vl s2 ⟨l, H2, I2, pl, el, e2⟩ => ?_)
  subst el e2
  refine thn (po_none.run pins s2 σ H2 (fun o H3 => o = none ∧ H3 = H2) I2 ⟨rfl, rfl⟩) fun vu s3 ⟨u, H3, I3, pu, eu, e3⟩ => ?_
  subst eu e3
  refine thn (hst.run pins s3 σ H3 (fun o H4 => o = some (-1) ∧ H4 = H3) I3 ⟨1, rfl, -1, rfl, rfl, rfl⟩) fun vs s4 ⟨o, H4, I4, ps, eo, e4⟩ => ?_
  subst eo e4
  cases pl
  cases pu
  have I5 : Inv X pins σ H4 { s4 with heap := s4.heap.push { cls := .type "slice", data := .fields #[.none, .none, vs] } } := I4.kept (t' := s4.toks) fun b ob q => Heap.get?_push_of_some _ q
  obtain ⟨its, r, ht, hz⟩ := I5.tuple hx
  have hlen := r.length
  show wpAny (model X.prog X.w) X.A (subscriptTail e (.Slice none none (some (.UnaryOp .USub (.Constant (.int 1) k p1) p2)) p3) (.ref a) (.ref s4.heap.objs.size)) (EP X pins σ Q) X.xe { s4 with heap := s4.heap.push { cls := .type "slice", data := .fields #[.none, .none, vs] } }
  refine tail_any (ops := [.ref a, .ref s4.heap.objs.size]) ht.typeIs (PyProof.Rows.slot_tuple_getitem.lookup) ?_ (by with_unfolding_all rfl)
  refine getItem_tuple_rev ht (Heap.IsSliceOf.new _ .none .none vs) ps ?_ (by rw [List.size_toArray]; omega)
  refine ⟨.ref _, _, I5.laid (t' := s4.toks) (o := .tup xs.reverse) (fun b ob q => Heap.get?_push_of_some _ q) (Nat.le_refl _) ?_, rfl, q _ (I5.hok.fresh (Nat.le_refl _))⟩
  exact ⟨by rw [List.length_reverse]; exact hz, _, r.reverse, IsTup.new _ _⟩
/-! ### comprehensions that map -/
theorem take_snoc {α : Type} {l : List α} {i : Nat} {x : α} (h : l[i]? = some x) : l.take (i + 1) = l.take i ++ [x] := by
  rw [List.take_add_one, h]
  rfl
section
variable {K : PySem.W.Frag} {a : Addr} {xs : List V} {ψ : V → V} {g : TG} {te : TE} {vs : List Nat} {σ : L2.St} {H1 : Hp} {D : Addr} {Qd : Hp → Prop}
theorem lc_mapT (hD : H1 D = none) (hS : SqT K H1 a xs) (hl : xs.length ≤ 10000)
    (hs : ∀ x G (R : V → Hp → Prop), x ∈ xs → Same H1 G → (∀ H4, Same G H4 → R (ψ x) H4) → g x (wipe σ vs) G fun σ2 H2 => wipe σ2 vs = wipe σ vs ∧ te σ2 H2 R)
    (hd : ∀ G, Same H1 G → G D = some (.lst (xs.map ψ)) → Qd G) :
    ∃ W : Nat → Nat → Hp → Prop, (∃ m, W 0 m (upd H1 D (.lst []))) ∧ ∀ i m H, W i m H →
      ((Itt K a).stop i H ∧ Qd H) ∨ ((Itt K a).go i H ∧ ∃ Nx : Hp → Prop, (∀ H', Nx H' → ∃ m', m' < m ∧ W (i + 1) m' H') ∧ ∀ x H', (Itt K a).yld i H x H' → g x (wipe σ vs) H' fun σ2 H2 => wipe σ2 vs = wipe σ vs ∧ tYes σ2 H2 fun b H3 =>
        if b = true then te σ2 H3 fun y H4 => ∃ acc, H4 D = some (.lst acc) ∧ acc.length < sizeLine ∧ Nx (upd H4 D (.lst (acc ++ [y]))) else Nx H3) := by
  refine lc_tup (K := K) (a := a) (xs := xs) (tt := tYes) (fun i G => Same H1 G ∧ G D = some (.lst ((xs.take i).map ψ))) ⟨Same.new hD _, upd_same⟩ (fun i G _ z => (Tp.same z.1).sqT hS) ?_ ?_
  · rintro i x G hi ⟨sm, hl2⟩
    refine hs x G _ (List.mem_of_getElem? hi) sm fun H4 s4 => ⟨_, s4 _ _ hl2, ?_, fun b o z => ?_, ?_⟩
    · have := (List.getElem?_eq_some_iff.mp hi).1
      rw [List.length_map, List.length_take]
      exact Nat.lt_of_lt_of_le (by omega : _ < 10001) (by decide)
    · rw [upd_ne (ne_of_none z hD)]
      exact s4 _ _ (sm _ _ z)
    · rw [upd_same, take_snoc hi, List.map_append]
      rfl
  · rintro G ⟨sm, h⟩
    rw [List.take_of_length_le (Nat.le_refl _)] at h
    exact hd G sm h
theorem lc_mapL (hD : H1 D = none) (hS : SqL K H1 a xs) (hl : xs.length ≤ 10000)
    (hs : ∀ x G (R : V → Hp → Prop), x ∈ xs → Same H1 G → (∀ H4, Same G H4 → R (ψ x) H4) → g x (wipe σ vs) G fun σ2 H2 => wipe σ2 vs = wipe σ vs ∧ te σ2 H2 R)
    (hd : ∀ G, Same H1 G → G D = some (.lst (xs.map ψ)) → Qd G) :
    ∃ W : Nat → Nat → Hp → Prop, (∃ m, W 0 m (upd H1 D (.lst []))) ∧ ∀ i m H, W i m H →
      ((Itl K a).stop i H ∧ Qd H) ∨ ((Itl K a).go i H ∧ ∃ Nx : Hp → Prop, (∀ H', Nx H' → ∃ m', m' < m ∧ W (i + 1) m' H') ∧ ∀ x H', (Itl K a).yld i H x H' → g x (wipe σ vs) H' fun σ2 H2 => wipe σ2 vs = wipe σ vs ∧ tYes σ2 H2 fun b H3 =>
        if b = true then te σ2 H3 fun y H4 => ∃ acc, H4 D = some (.lst acc) ∧ acc.length < sizeLine ∧ Nx (upd H4 D (.lst (acc ++ [y]))) else Nx H3) := by
  refine lc_list (K := K) (a := a) (xs := xs) (tt := tYes) (fun i G => Same H1 G ∧ G D = some (.lst ((xs.take i).map ψ))) ⟨Same.new hD _, upd_same⟩ (fun i G _ z => z.1.seq hS) ?_ ?_
  · rintro i x G hi ⟨sm, hl2⟩
    refine hs x G _ (List.mem_of_getElem? hi) sm fun H4 s4 => ⟨_, s4 _ _ hl2, ?_, fun b o z => ?_, ?_⟩
    · have := (List.getElem?_eq_some_iff.mp hi).1
      rw [List.length_map, List.length_take]
      exact Nat.lt_of_lt_of_le (by omega : _ < 10001) (by decide)
    · rw [upd_ne (ne_of_none z hD)]
      exact s4 _ _ (sm _ _ z)
    · rw [upd_same, take_snoc hi, List.map_append]
      rfl
  · rintro G ⟨sm, h⟩
    rw [List.take_of_length_le (Nat.le_refl _)] at h
    exact hd G sm h
theorem lc_mapRT (hD : H1 D = none) (hS : SqT K H1 a xs) (hl : xs.length ≤ 10000)
    (hs : ∀ x G (R : V → Hp → Prop), x ∈ xs → Same H1 G → (∀ H4, Same G H4 → R (ψ x) H4) → g x (wipe σ vs) G fun σ2 H2 => wipe σ2 vs = wipe σ vs ∧ te σ2 H2 R)
    (hd : ∀ G, Same H1 G → G D = some (.lst (xs.reverse.map ψ)) → Qd G) :
    ∃ W : Nat → Nat → Hp → Prop, (∃ m, W 0 m (upd H1 D (.lst []))) ∧ ∀ i m H, W i m H →
      ((RT.ItvT K a xs.length).stop i H ∧ Qd H) ∨ ((RT.ItvT K a xs.length).go i H ∧ ∃ Nx : Hp → Prop, (∀ H', Nx H' → ∃ m', m' < m ∧ W (i + 1) m' H') ∧ ∀ x H', (RT.ItvT K a xs.length).yld i H x H' → g x (wipe σ vs) H' fun σ2 H2 => wipe σ2 vs = wipe σ vs ∧ tYes σ2 H2 fun b H3 =>
        if b = true then te σ2 H3 fun y H4 => ∃ acc, H4 D = some (.lst acc) ∧ acc.length < sizeLine ∧ Nx (upd H4 D (.lst (acc ++ [y]))) else Nx H3) := by
  refine ⟨fun i m G => m = xs.length - i ∧ i ≤ xs.length ∧ Same H1 G ∧ G D = some (.lst ((xs.reverse.take i).map ψ)), ⟨_, rfl, Nat.zero_le _, Same.new hD _, upd_same⟩, ?_⟩
  rintro i m G ⟨rfl, hi, sm, hl2⟩
  rcases Nat.lt_or_ge i xs.length with lt | ge
  · have hS' := (Tp.same sm).sqT hS
    have lt' : xs.length - 1 - i < xs.length := by omega
    have hx : xs[xs.length - 1 - i]? = some xs[xs.length - 1 - i] := List.getElem?_eq_getElem lt'
    have hr : xs.reverse[i]? = some xs[xs.length - 1 - i] := by rw [List.getElem?_reverse lt]; exact hx
    refine .inr ⟨⟨lt, xs, _, hS', hx⟩, fun G => Same H1 G ∧ G D = some (.lst ((xs.reverse.take (i + 1)).map ψ)), fun H' z => ⟨_, (by omega : xs.length - (i + 1) < xs.length - i), rfl, by omega, z.1, z.2⟩, ?_⟩
    rintro x G' ⟨rfl, hy⟩
    have ex := (hy xs hS').symm.trans hx
    cases ex
    refine hs _ G' _ (List.getElem_mem lt') sm fun H4 s4 => ⟨_, s4 _ _ hl2, ?_, fun b o z => ?_, ?_⟩
    · rw [List.length_map, List.length_take, List.length_reverse]
      exact Nat.lt_of_lt_of_le (by omega : _ < 10001) (by decide)
    · rw [upd_ne (ne_of_none z hD)]
      exact s4 _ _ (sm _ _ z)
    · rw [upd_same, take_snoc hr, List.map_append]
      rfl
  · refine .inl ⟨ge, hd G sm ?_⟩
    rw [hl2, List.take_of_length_le (by rw [List.length_reverse]; exact ge)]
end
/-! ### words -/
def ab (n : Int) : Int := if n < 0 then -n else n
def isLet (n : Int) : Bool := decide (n ≠ 0) && decide (ab n ≤ 40)
def okW (ns : List Int) : Bool := decide (ns.length ≤ 300) && ns.all isLet
def inv (ns : List Int) : List Int := ns.reverse.map fun n => -n
def sgn (m l : Int) : Int := if 0 < l then m else -m
def shf (k : Int) (ns : List Int) : List Int := ns.map fun n => sgn (ab n + k) n
abbrev WT (K : PySem.W.Frag) (H : Hp) (a : Addr) (ns : List Int) : Prop := SqT K H a (ns.map V.int)
theorem cat_ok {K : PySem.W.Frag} {H : Hp} {a b : Addr} {xs ys : List V} {Q : VK} (ha : SqT K H a xs) (hb : SqT K H b ys) (hl : xs.length + ys.length ≤ sizeLine) (q : ∀ p H', Same H H' → SqT K H' p (xs ++ ys) → Q (.ref p) H') : rCatA K (.ref a) (.ref b) H Q := by
  refine ⟨a, b, xs, ys, rfl, rfl, ha, hb, hl, fun e => ?_, fun _ e => ?_, fun _ _ p np => ?_⟩
  · subst e
    exact q b H (Same.refl _) hb
  · subst e
    exact q a H (Same.refl _) (by rw [List.append_nil]; exact ha)
  · exact q p _ (Same.new np _) (SqT.here upd_same)
def vInt : V → Int
  | .int n => n
  | _ => 0
theorem map_int {ψ : Int → V} (ns : List Int) : (ns.map V.int).map (fun v => ψ (vInt v)) = ns.map ψ := by
  rw [List.map_map]
  rfl
theorem mem_int {ns : List Int} {x : V} (h : x ∈ ns.map V.int) : ∃ n, n ∈ ns ∧ x = .int n := by
  obtain ⟨n, h1, h2⟩ := List.mem_map.mp h
  exact ⟨n, h1, h2.symm⟩
def spLet : Sp := fun vs H Q _ => ∃ n : Int, vs = [.int n] ∧ Q (.bl (isLet n)) H
def spAre (K : PySem.W.Frag) : Sp := fun vs H Q _ => ∃ (a : Addr) (ns : List Int), vs = [.ref a] ∧ WT K H a ns ∧ ns.length ≤ 10000 ∧ ∀ H', Same H H' → Q (.bl (ns.all isLet)) H'
def spChkW (K : PySem.W.Frag) (C : Addr) : Sp := fun vs H Q E => ∃ (a : Addr) (ns : List Int), vs = [.ref a] ∧ WT K H a ns ∧ ns.length ≤ 10000 ∧ (okW ns = true → ∀ H', Same H H' → Q .non H') ∧ (okW ns = false → ∀ H', Same H H' → E (.ref C) none H')
/-- a def over one word that gives a new one -/
def spWW (K : PySem.W.Frag) (φ : List Int → List Int) : Sp := fun vs H Q _ => ∃ (a : Addr) (ns : List Int), vs = [.ref a] ∧ WT K H a ns ∧ ns.length ≤ 10000 ∧ ∀ p H', Same H H' → WT K H' p (φ ns) → Q (.ref p) H'
def spSgn : Sp := fun vs H Q _ => ∃ m l : Int, vs = [.int m, .int l] ∧ Q (.int (sgn m l)) H
def spShf (K : PySem.W.Frag) : Sp := fun vs H Q _ => ∃ (a : Addr) (ns : List Int) (k : Int), vs = [.ref a, .int k] ∧ WT K H a ns ∧ ns.length ≤ 10000 ∧ ∀ p H', Same H H' → WT K H' p (shf k ns) → Q (.ref p) H'
/-- inverse: the word, or the error -/
def spInvE (K : PySem.W.Frag) (C : Addr) : Sp := fun vs H Q E => ∃ (a : Addr) (ns : List Int), vs = [.ref a] ∧ WT K H a ns ∧ ns.length ≤ 10000 ∧ (okW ns = true → ∀ p H', Same H H' → WT K H' p (inv ns) → Q (.ref p) H') ∧ (okW ns = false → ∀ H', Same H H' → E (.ref C) none H')
/-- shifted: the word, or the first error -/
def spShfE (K : PySem.W.Frag) (CW CS : Addr) : Sp := fun vs H Q E => ∃ (a : Addr) (ns : List Int) (k : Int), vs = [.ref a, .int k] ∧ WT K H a ns ∧ ns.length ≤ 10000 ∧ (okW ns = true → 0 ≤ k → k ≤ 20 → (shf k ns).all isLet = true → ∀ p H', Same H H' → WT K H' p (shf k ns) → Q (.ref p) H') ∧
  (okW ns = false → ∀ H', Same H H' → E (.ref CW) none H') ∧ (okW ns = true → ¬ (0 ≤ k ∧ k ≤ 20) → ∀ H', Same H H' → E (.ref CS) none H') ∧ (okW ns = true → 0 ≤ k → k ≤ 20 → (shf k ns).all isLet = false → ∀ H', Same H H' → E (.ref CW) none H')
/-- the law's sign, step by sign -/
def lsg (n : Int) : Int := if 0 < n then 1 else -1
theorem shf_law (k n : Int) : n + k * lsg n = sgn (ab n + k) n := by
  unfold lsg sgn ab
  by_cases h : 0 < n
  · rw [if_pos h, if_pos h, if_neg (by omega), Int.mul_one]
  · rw [if_neg h, if_neg h]
    by_cases h2 : n < 0
    · rw [if_pos h2, Int.mul_neg, Int.mul_one]
      omega
    · rw [if_neg h2, Int.mul_neg, Int.mul_one]
      omega
def spSign : Sp := fun vs H Q _ => ∃ n : Int, vs = [.int n] ∧ Q (.int (lsg n)) H
/-- the law's own shift: a step below 2 ^ 64 -/
def spShfL (K : PySem.W.Frag) : Sp := fun vs H Q _ => ∃ (a : Addr) (ns : List Int) (k : Int), vs = [.ref a, .int k] ∧ WT K H a ns ∧ ns.length ≤ 10000 ∧ -1000 ≤ k ∧ k ≤ 1000 ∧ ∀ p H', Same H H' → WT K H' p (shf k ns) → Q (.ref p) H'
theorem shf_len (k : Int) (ns : List Int) : (shf k ns).length = ns.length := by unfold shf; rw [List.length_map]
theorem inv_len (ns : List Int) : (inv ns).length = ns.length := by unfold inv; rw [List.length_map, List.length_reverse]
structure BltW (mg : Str → Option Value) : Prop where
  abs : mg "abs" = none
  reversed : mg "reversed" = none
  any : mg "any" = none
structure CstW (mg : Str → Option Value) : Prop where
  MAX_LETTER : ∃ t, mg "MAX_LETTER" = some (.int 40 t)
  MAX_LETTERS : ∃ t, mg "MAX_LETTERS" = some (.int 300 t)
end OPN
section WDT
def wD (ns : List Int) : PyData := .tuple (ns.map .int)
theorem dp_ints {K : PySem.W.Frag} {H : Hp} : ∀ ns : List Int, DpAll K H (ns.map V.int) (ns.map PyData.int)
  | [] => .nil
  | n :: ns => .cons (.int n) (dp_ints ns)
theorem dp_wt {K : PySem.W.Frag} {H : Hp} {p : Addr} {ns : List Int} (h : WT K H p ns) : Dp K H (.ref p) (wD ns) := Dp.tup h (dp_ints ns)
theorem lay_ints : ∀ ns : List Int, PyData.canLayAll0 (ns.map .int) = true
  | [] => rfl
  | n :: ns => by
    show (PyData.canLay0 (.int n) && PyData.canLayAll0 (ns.map .int)) = true
    rw [lay_ints ns]
    rfl
theorem depth_ints : ∀ ns : List Int, PyData.depthAll (ns.map .int) ≤ 1
  | [] => Nat.zero_le _
  | n :: ns => by
    have h := depth_ints ns
    have e : (PyData.int n).depth ≤ 1 := by first | exact Nat.le_refl _ | exact Nat.zero_le _
    show max (PyData.int n).depth (PyData.depthAll (ns.map .int)) ≤ 1
    omega
theorem wD_depth (ns : List Int) : (wD ns).depth ≤ 2 := by
  have h := depth_ints ns
  show PyData.depthAll (ns.map .int) + 1 ≤ 2
  omega
theorem wD_shaped (ns : List Int) : SeqAt.shaped (wD ns) = true := by
  have h := wD_depth ns
  unfold SeqAt.shaped
  rw [show (wD ns).canLay0 = PyData.canLayAll0 (ns.map .int) from rfl, lay_ints, decide_eq_true (by omega)]
  rfl
theorem wide_ints : ∀ ns : List Int, wideAll (ns.map .int) = true
  | [] => rfl
  | n :: ns => by
    show (wide (.int n) && wideAll (ns.map .int)) = true
    rw [wide_ints ns]
    rfl
theorem wD_wide {ns : List Int} (h : ns.length ≤ 1000) : wide (wD ns) = true := by
  show (decide ((ns.map PyData.int).length ≤ 1000) && wideAll (ns.map .int)) = true
  rw [List.length_map, decide_eq_true h, wide_ints]
  rfl
/-- the same word twice -/
theorem same_w {K : PySem.W.Frag} {H : Hp} {p q : Addr} {ns : List Int} {Q : VK} {E : XK} (h1 : WT K H p ns) (h2 : WT K H q ns) (hl : ns.length ≤ 1000) (k : ∀ H', Same H H' → Q (.bl true) H') : spSame K 12 [.ref p, .ref q] H Q E :=
  ⟨_, _, wD ns, rfl, dp_wt h1, dp_wt h2, wD_shaped ns, by have := wD_depth ns; omega, wD_wide hl, k⟩
theorem ne_w {K : PySem.W.Frag} {H : Hp} {p q : Addr} {ns : List Int} {Q : VK} (h1 : WT K H p ns) (h2 : WT K H q ns) (k : Q (.bl false) H) : rNeD K (.ref p) (.ref q) H Q := by
  refine ⟨wD ns, wD ns, dp_wt h1, dp_wt h2, wD_shaped ns, wD_shaped ns, ?_⟩
  rw [SeqAt.eqv_refl _ (SeqAt.canLay_of_shaped (wD_shaped ns))]
  exact k
theorem eq_w {K : PySem.W.Frag} {H : Hp} {p q : Addr} {ns : List Int} {Q : VK} (h1 : WT K H p ns) (h2 : WT K H q ns) (k : Q (.bl true) H) : rEqD K (.ref p) (.ref q) H Q := by
  refine ⟨wD ns, wD ns, dp_wt h1, dp_wt h2, wD_shaped ns, wD_shaped ns, ?_⟩
  rw [SeqAt.eqv_refl _ (SeqAt.canLay_of_shaped (wD_shaped ns))]
  exact k
end WDT
theorem Tp.extN {H H' : Hp} (e : LamX.ExtN H H') : Tp H H' := fun b xs h => by
  rcases h with h | ⟨o, h⟩
  · exact .inl (e _ _ h (fun _ => by intro y; cases y))
  · exact .inr ⟨o, e _ _ h (fun _ => by intro y; cases y)⟩
theorem Rng.extN {H H' : Hp} {r : Addr} (e : LamX.ExtN H H') (h : Rng H r) : Rng H' r := by
  obtain ⟨c, ns, i, b, s, h1, h2, h3⟩ := h
  exact ⟨c, ns, i, b, s, e _ _ h1 (fun _ => by intro y; cases y), e _ _ h2 (fun _ => by intro y; cases y), h3⟩
theorem tabs1 {Pt : Addr} {q : Str} {H : Hp} (h : H Pt = some (.tbl #[])) : LamX.Tabs [(Pt, q)] H := fun p hp => by
  rw [List.mem_singleton.mp hp]
  exact ⟨#[], h, by trivial, fun _ _ z => (nomatch z)⟩
/-- an error's word and no field -/
def eD (j : Nat) : PyData := .tuple [.str (en j), .none]
theorem eD_shaped : ∀ j < 20, SeqAt.shaped (eD j) = true := by decide +kernel
theorem eq_e {K : PySem.W.Frag} {H : Hp} {p q : Addr} {j : Nat} {Q : VK} (hj : j < 20) (h1 : SqT K H p [.str (en j), .non]) (h2 : SqT K H q [.str (en j), .non]) (k : Q (.bl true) H) : rEqD K (.ref p) (.ref q) H Q := by
  refine ⟨eD j, eD j, Dp.tup h1 (.cons (.str _) (.cons .non .nil)), Dp.tup h2 (.cons (.str _) (.cons .non .nil)), eD_shaped j hj, eD_shaped j hj, ?_⟩
  rw [SeqAt.eqv_refl _ (SeqAt.canLay_of_shaped (eD_shaped j hj))]
  exact k
/-! ### the word of a term -/
def wd : Tree → List Int
  | .L => []
  | .N l r => ((wd l ++ shf 1 (wd r)) ++ [1]) ++ shf 1 (inv (wd l))
def lwd : Tree → List Int
  | .L => []
  | .N l r => ((lwd l ++ shf 1 (lwd r)) ++ [1]) ++ inv (shf 1 (lwd l))
theorem wd_lenN (l r : Tree) : (wd (.N l r)).length = 2 * (wd l).length + (wd r).length + 1 := by
  show (((wd l ++ shf 1 (wd r)) ++ [1]) ++ shf 1 (inv (wd l))).length = _
  rw [List.length_append, List.length_append, List.length_append, shf_len, shf_len, inv_len, List.length_singleton]
  omega
def wtab : List (List Nat) := [[0, 0, 0, 0, 0, 0, 0, 0, 0, 0, 0, 0, 0], [0, 0, 1, 1, 1, 1, 1, 1, 1, 1, 1, 1, 1], [0, 0, 1, 3, 4, 4, 4, 4, 4, 4, 4, 4, 4], [0, 0, 1, 3, 7, 9, 10, 12, 13, 13, 13, 13, 13], [0, 0, 1, 3, 7, 15, 19, 21, 25, 27, 28, 32, 34], [0, 0, 1, 3, 7, 15, 31, 39, 43, 51, 55, 57, 65], [0, 0, 1, 3, 7, 15, 31, 63, 79, 87, 103, 111, 115]]
def wt (d n : Nat) : Nat := (wtab.getD d []).getD n 0
theorem wt_all : ((List.range 6).all fun d => (List.range 12).all fun a => (List.range 12).all fun b => decide (0 < a → 0 < b → a + b ≤ 12 → 2 * wt d a + wt d b + 1 ≤ wt (d + 1) (a + b))) = true := by decide +kernel
theorem wt_step (d : Nat) (hd : d < 6) (a : Nat) (ha : a < 12) (b : Nat) (hb : b < 12) : 0 < a → 0 < b → a + b ≤ 12 → 2 * wt d a + wt d b + 1 ≤ wt (d + 1) (a + b) := by
  have h1 := List.all_eq_true.mp wt_all d (List.mem_range.mpr hd)
  have h2 := List.all_eq_true.mp h1 a (List.mem_range.mpr ha)
  have h3 := List.all_eq_true.mp h2 b (List.mem_range.mpr hb)
  exact of_decide_eq_true h3
theorem wd_tab : ∀ (d : Nat), d ≤ 6 → ∀ t : Tree, t.dp ≤ d → t.sz ≤ 12 → (wd t).length ≤ wt d t.sz
  | d, _, .L, _, _ => Nat.zero_le _
  | 0, _, .N l r, h, _ => absurd (show max l.dp r.dp + 1 ≤ 0 from h) (by omega)
  | d + 1, hd, .N l r, h, hz => by
    have h : max l.dp r.dp + 1 ≤ d + 1 := h
    have hz : l.sz + r.sz ≤ 12 := hz
    have p1 := l.sz_pos
    have p2 := r.sz_pos
    have h1 := wd_tab d (by omega) l (by omega) (by omega)
    have h2 := wd_tab d (by omega) r (by omega) (by omega)
    have h3 := wt_step d (by omega) l.sz (by omega) r.sz (by omega) p1 p2 hz
    rw [wd_lenN]
    show _ ≤ wt (d + 1) (l.sz + r.sz)
    omega
theorem wt_top : ∀ n < 13, wt 6 n ≤ 115 := by decide +kernel
theorem wd_len {t : Tree} (hd : t.dp ≤ 6) (hz : t.sz ≤ 12) : (wd t).length ≤ 115 := Nat.le_trans (wd_tab 6 (Nat.le_refl _) t hd hz) (wt_top _ (by omega))
theorem ab_pos {n : Int} (h : 0 < n) : ab n = n := if_neg (by omega)
theorem ab_neg {n : Int} (h : n < 0) : ab n = -n := if_pos h
theorem shf_let {k n : Int} (hk : 0 ≤ k) (h : n ≠ 0) : sgn (ab n + k) n ≠ 0 ∧ ab (sgn (ab n + k) n) = ab n + k := by
  unfold sgn
  rcases Int.lt_or_gt_of_ne h with h | h
  · rw [if_neg (by omega), ab_neg h, ab_neg (by omega)]
    omega
  · rw [if_pos h, ab_pos h, ab_pos (by omega)]
    omega
theorem inv_let {n : Int} (h : n ≠ 0) : -n ≠ 0 ∧ ab (-n) = ab n := by
  rcases Int.lt_or_gt_of_ne h with h | h
  · rw [ab_neg h, ab_pos (by omega)]
    omega
  · rw [ab_pos h, ab_neg (by omega)]
    omega
/-- every letter is no 0 and at most m -/
def Lets (m : Int) (ns : List Int) : Prop := ∀ n ∈ ns, n ≠ 0 ∧ ab n ≤ m
theorem Lets.mono {m m' : Int} {ns : List Int} (h : m ≤ m') (l : Lets m ns) : Lets m' ns := fun n hn => ⟨(l n hn).1, Int.le_trans (l n hn).2 h⟩
theorem Lets.app {m : Int} {ns ms : List Int} (h1 : Lets m ns) (h2 : Lets m ms) : Lets m (ns ++ ms) := fun n hn => (List.mem_append.mp hn).elim (h1 n) (h2 n)
theorem Lets.shf {m k : Int} (hk : 0 ≤ k) {ns : List Int} (h : Lets m ns) : Lets (m + k) (shf k ns) := fun n hn => by
  obtain ⟨x, hx, rfl⟩ := List.mem_map.mp hn
  have a := h x hx
  have b := shf_let hk a.1
  exact ⟨b.1, by rw [b.2]; omega⟩
theorem Lets.inv {m : Int} {ns : List Int} (h : Lets m ns) : Lets m (inv ns) := fun n hn => by
  obtain ⟨x, hx, rfl⟩ := List.mem_map.mp hn
  have a := h x (List.mem_reverse.mp hx)
  have b := inv_let a.1
  exact ⟨b.1, by rw [b.2]; exact a.2⟩
theorem Lets.all {m : Int} (hm : m ≤ 40) {ns : List Int} (h : Lets m ns) : ns.all isLet = true := by
  rw [List.all_eq_true]
  intro n hn
  have a := h n hn
  unfold isLet
  rw [decide_eq_true a.1, decide_eq_true (by omega)]
  rfl
theorem okW_of {m : Int} (hm : m ≤ 40) {ns : List Int} (h : Lets m ns) (hl : ns.length ≤ 300) : okW ns = true := by
  unfold okW
  rw [decide_eq_true hl, h.all hm]
  rfl
theorem wd_lets : ∀ t : Tree, Lets t.dp (wd t)
  | .L => fun n hn => by cases hn
  | .N l r => by
    have h1 := wd_lets l
    have h2 := wd_lets r
    have e : ((Tree.N l r).dp : Int) = ((max l.dp r.dp + 1 : Nat) : Int) := rfl
    rw [e]
    refine Lets.app (Lets.app (Lets.app (h1.mono (by omega)) ((h2.shf (by omega)).mono (by omega))) ?_) ((h1.inv.shf (by omega)).mono (by omega))
    intro n hn
    rw [List.mem_singleton.mp hn, ab_pos (by decide)]
    exact ⟨by decide, by omega⟩
theorem shf_inv {k : Int} {ns : List Int} (h : ∀ n ∈ ns, n ≠ 0) : inv (shf k ns) = shf k (inv ns) := by
  unfold inv shf
  rw [← List.map_reverse, List.map_map, List.map_map]
  apply List.map_congr_left
  intro n hn
  have h0 := h n (List.mem_reverse.mp hn)
  show -(sgn (ab n + k) n) = sgn (ab (-n) + k) (-n)
  rw [(inv_let h0).2]
  unfold sgn
  rcases Int.lt_or_gt_of_ne h0 with h | h
  · rw [if_neg (by omega), if_pos (by omega)]
    omega
  · rw [if_pos h, if_neg (by omega)]
theorem lwd_eq : ∀ t : Tree, lwd t = wd t
  | .L => rfl
  | .N l r => by
    show ((lwd l ++ shf 1 (lwd r)) ++ [1]) ++ inv (shf 1 (lwd l)) = ((wd l ++ shf 1 (wd r)) ++ [1]) ++ shf 1 (inv (wd l))
    rw [lwd_eq l, lwd_eq r, shf_inv fun n hn => (wd_lets l n hn).1]
def spWd (K : PySem.W.Frag) (g : Tree → List Int) (n : Nat) : Sp := fun vs H Q _ => ∃ (v : V) (t : Tree), vs = [v] ∧ TA K H v t ∧ t.dp < n ∧ t.dp ≤ 6 ∧ t.sz ≤ 12 ∧ ∀ p H', Same H H' → WT K H' p (g t) → Q (.ref p) H'
theorem spWd_no {K : PySem.W.Frag} {g : Tree → List Int} : ∀ vs H Q E, ¬ spWd K g 0 vs H Q E := fun vs H Q E h => by
  obtain ⟨v, t, _, _, h, _⟩ := h
  omega
/-- word_of: the word, or the error -/
def spWordE (K : PySem.W.Frag) (C : Addr) : Sp := fun vs H Q E => ∃ (v : V) (d : PyData), vs = [v] ∧ NT K H v d ∧ ndD d ≤ 1000 ∧ (∀ t : Tree, d = t.d → t.sz ≤ 12 → t.dp ≤ 6 → ∀ p H', Same H H' → WT K H' p (wd t) → Q (.ref p) H') ∧ (okd d = false → ∀ H', Same H H' → E (.ref C) none H')
theorem wfits {a b : List Int} (h : a.length + b.length ≤ 10000) : (a.map V.int).length + (b.map V.int).length ≤ sizeLine := by
  rw [List.length_map, List.length_map]
  exact Nat.le_trans h (by decide)
theorem cat_w {K : PySem.W.Frag} {H : Hp} {a b : Addr} {ns ms : List Int} {Q : VK} (ha : WT K H a ns) (hb : WT K H b ms) (hl : ns.length + ms.length ≤ 10000) (q : ∀ p H', Same H H' → WT K H' p (ns ++ ms) → Q (.ref p) H') : rCatA K (.ref a) (.ref b) H Q :=
  cat_ok ha hb (wfits hl) fun p H' sm h => q p H' sm (by rw [WT, List.map_append]; exact h)
theorem d_inj : ∀ {t u : Tree}, t.d = u.d → t = u
  | .L, .L, _ => rfl
  | .L, .N _ _, h => by
    have h : PyData.tuple [] = .tuple [_, _] := h
    injection h with h
    cases h
  | .N _ _, .L, h => by
    have h : PyData.tuple [_, _] = .tuple [] := h
    injection h with h
    cases h
  | .N l r, .N l' r', h => by
    have h : PyData.tuple [l.d, r.d] = .tuple [l'.d, r'.d] := h
    injection h with h
    injection h with h1 h2
    injection h2 with h2 _
    rw [d_inj h1, d_inj h2]
/-! ### the draws' state, its list of cells named -/
def RngC (H : Hp) (r c : Addr) : Prop := ∃ (ns : List Int) (i b s : Int), H r = some (.lst [.ref c, .int i, .int b, .int s]) ∧ H c = some (.lst (ns.map V.int)) ∧ c ≠ r ∧ 0 ≤ i ∧ 0 ≤ b ∧ 0 ≤ s ∧ s < 2147483647
theorem Rng.toC {H : Hp} {r : Addr} (h : Rng H r) : ∃ c, RngC H r c := by
  obtain ⟨c, h⟩ := h
  exact ⟨c, h⟩
theorem RngC.rng {H : Hp} {r c : Addr} (h : RngC H r c) : Rng H r := ⟨c, h⟩
theorem RngC.keep {H H' : Hp} {r c : Addr} (h : RngC H r c) (e1 : ∀ o, H r = some o → H' r = some o) (e2 : ∀ o, H c = some o → H' c = some o) : RngC H' r c := by
  obtain ⟨ns, i, b, s, h1, h2, h3⟩ := h
  exact ⟨ns, i, b, s, e1 _ h1, e2 _ h2, h3⟩
theorem RngC.same {H H' : Hp} {r c : Addr} (e : Same H H') (h : RngC H r c) : RngC H' r c := h.keep (e _) (e _)
theorem RngC.lst {H : Hp} {r c : Addr} (h : RngC H r c) : ∃ ys, H r = some (.lst ys) := h.rng.lst
theorem RngC.ne {H : Hp} {r c p : Addr} (h : RngC H r c) (e : H p = none) : p ≠ r ∧ p ≠ c := by
  obtain ⟨ns, i, b, s, h1, h2, h3⟩ := h
  refine ⟨fun z => ?_, fun z => ?_⟩
  · rw [z, h1] at e
    cases e
  · rw [z, h2] at e
    cases e
theorem RngC.set {H : Hp} {r c p : Addr} {o : HO} (h : RngC H r c) (n : p ≠ r ∧ p ≠ c) : RngC (upd H p o) r c :=
  h.keep (fun o e => by rw [upd_ne (Ne.symm n.1)]; exact e) (fun o e => by rw [upd_ne (Ne.symm n.2)]; exact e)
theorem RngC.extN {H H' : Hp} {r c : Addr} (e : LamX.ExtN H H') (h : RngC H r c) : RngC H' r c := by
  obtain ⟨ns, i, b, s, h1, h2, h3⟩ := h
  exact ⟨ns, i, b, s, e _ _ h1 (fun _ => by intro y; cases y), e _ _ h2 (fun _ => by intro y; cases y), h3⟩
theorem RngC.tp {H H' : Hp} {r c : Addr} (R : RngC H r c) (b : But r H H') : Tp H H' := by
  obtain ⟨ys, hy⟩ := R.lst
  exact Tp.but hy b
theorem RngC.tabs {T : List (Addr × Str)} {H H' : Hp} {r c : Addr} (R : RngC H r c) (b : But r H H') (t : LamX.Tabs T H) : LamX.Tabs T H' := by
  obtain ⟨ys, hy⟩ := R.lst
  exact tabs_set t hy b
theorem tabs_same {T : List (Addr × Str)} {H H' : Hp} (e : Same H H') (t : LamX.Tabs T H) : LamX.Tabs T H' := fun p hp => by
  obtain ⟨ps, h1, h2, h3⟩ := t p hp
  refine ⟨ps, e _ _ h1, h2, fun pos cv ec => ?_⟩
  obtain ⟨c, rfl, hc⟩ := h3 pos cv ec
  exact ⟨c, rfl, e _ _ hc⟩
def spDrawC : Sp := fun vs H Q _ => ∃ (r : Addr) (n : Int) (c : Addr), vs = [.ref r, .int n] ∧ RngC H r c ∧ 0 < n ∧ n < 1073741824 ∧ ∀ (v : Int) (H' : Hp), 0 ≤ v → v < n → RngC H' r c → But r H H' → Q (.int v) H'
theorem spDraw_C {vs : List V} {H : Hp} {Q : VK} {E : XK} (h : spDraw vs H Q E) : spDrawC vs H Q E := by
  obtain ⟨r, n, rfl, R, h1, h2, q⟩ := h
  obtain ⟨c, R⟩ := R.toC
  exact ⟨r, n, c, rfl, R, h1, h2, fun v H' v0 v1 R' b' => q v H' v0 v1 R'.rng b'⟩
def spPickC (K : PySem.W.Frag) : Sp := fun vs H Q _ => ∃ (r l c : Addr) (xs : List V), vs = [.ref r, .ref l] ∧ RngC H r c ∧ (SqL K H l xs ∨ SqT K H l xs) ∧ 0 < xs.length ∧ xs.length ≤ 10000 ∧ l ≠ r ∧ ∀ v H', v ∈ xs → RngC H' r c → But r H H' → Q v H'
theorem spPick_C {K : PySem.W.Frag} {vs : List V} {H : Hp} {Q : VK} {E : XK} (h : spPick K vs H Q E) : spPickC K vs H Q E := by
  obtain ⟨r, l, xs, rfl, R, h1, h2, h3, h4, q⟩ := h
  obtain ⟨c, R⟩ := R.toC
  exact ⟨r, l, c, xs, rfl, R, h1, h2, h3, h4, fun v H' hv R' b' => q v H' hv R'.rng b'⟩
def spTermC (K : PySem.W.Frag) (n : Nat) : Sp := fun vs H Q _ => ∃ (r : Addr) (many : Int) (k : Nat) (c : Addr), k < n ∧ vs = [.ref r, .int many, .int (2 ^ k)] ∧ k ≤ 6 ∧ 1 ≤ many ∧ many ≤ 2 ^ k ∧ RngC H r c ∧
  ∀ (v : V) (t : Tree) (H' : Hp), TA K H' v t → (t.sz : Int) = many → t.dp ≤ k → RngC H' r c → But r H H' → Q v H'
theorem spTerm_C {K : PySem.W.Frag} {n : Nat} {vs : List V} {H : Hp} {Q : VK} {E : XK} (h : spTerm K n vs H Q E) : spTermC K n vs H Q E := by
  obtain ⟨r, m, k, hk, e, h1, h2, h3, R, q⟩ := h
  obtain ⟨c, R⟩ := R.toC
  exact ⟨r, m, k, c, hk, e, h1, h2, h3, R, fun v t H' a b d R' b' => q v t H' a b d R'.rng b'⟩
def spAnyC (K : PySem.W.Frag) : Sp := fun vs H Q _ => ∃ (r : Addr) (top : Int) (c : Addr), vs = [.ref r, .int top] ∧ 1 ≤ top ∧ top ≤ 64 ∧ RngC H r c ∧
  ∀ (v : V) (t : Tree) (H' : Hp), TA K H' v t → (t.sz : Int) ≤ top → t.dp ≤ 6 → RngC H' r c → But r H H' → Q v H'
theorem spAny_C {K : PySem.W.Frag} {vs : List V} {H : Hp} {Q : VK} {E : XK} (h : spAny K vs H Q E) : spAnyC K vs H Q E := by
  obtain ⟨r, m, e, h1, h2, R, q⟩ := h
  obtain ⟨c, R⟩ := R.toC
  exact ⟨r, m, c, e, h1, h2, R, fun v t H' a b d R' b' => q v t H' a b d R'.rng b'⟩
/-! ### tuple * int, also where the tuple itself is given back -/
section OPR
open PySem.Spec PyProof.Rows
theorem tuple_mul_same (l : Addr) (items : Array Value) (n : Nat) (dd : Option Addr) (sl : Array (Option Value)) (x : Int) (u : Tok) (c0 : (decide (x < -(2 ^ 63)) || decide (x ≥ 2 ^ 63)) = false) (c1 : (items.isEmpty || x == 1) = true) :
    Meets (Builtin.«tuple.__mul__» ⟨[.ref l, .int x u], []⟩) (fun _ R s => s.heap.get? l = some { cls := .type "tuple", dict := dd, data := .seq items n, slots := sl } ∧ R (.ok (.ret (Value.ref l))) { s with heap := s.heap, toks := s.toks }) :=
  .of_wp fun prog w A R s h => by
    obtain ⟨hp, g, d, tk, os⟩ := s
    obtain ⟨hl, h⟩ := h
    have f1 := AutoSeq1.idx_int
    wp_walk using wpAny_loadPart' hl
    repeat (first
      | (refine wpAny_ite_false (decide_eq_false (by rw [c0]; exact Bool.false_ne_true)) ?_; wp_walk using wpAny_loadPart' hl)
      | (refine wpAny_ite_true (decide_eq_true c1) ?_; wp_walk using wpAny_loadPart' hl))
    exact ⟨_, rfl, h⟩
theorem op_repS {X : Cx} : OpR X (binaryOp .Mult) (fun x y H Q => ∃ l k xs, x = .ref l ∧ y = .int k ∧ SqT X.K H l xs ∧ (xs = [] ∨ k = 1) ∧ 1 ≤ k ∧ k ≤ 1000 ∧ Q (.ref l) H) := by
  intro pins s σ H x y v u Q I rx ry h
  obtain ⟨l, k, xs, rfl, rfl, hT, hne, h1, h2, q⟩ := h
  cases rx
  obtain ⟨t, rfl⟩ := ry
  obtain ⟨its, r, ⟨⟨cls, dd, data, sl⟩, ho, hc, n, hd⟩, hs⟩ := I.tuple hT
  simp only at hc hd
  subst hc hd
  have c0 : (decide (k < -(2 ^ 63)) || decide (k ≥ 2 ^ 63)) = false := by
    rw [decide_eq_false (by omega), decide_eq_false (by omega)] <;> rfl
  have c1 : (its.toArray.isEmpty || k == 1) = true := by
    rcases hne with e | e
    · subst e
      cases r
      rfl
    · rw [e]
      simp
  exact wpAny_binaryOp_repeat_ref (T := "tuple") (U := "int") (by decide) ⟨_, ho, rfl⟩ (fun s' => typeIs_int s' k t) noFill_tuple_mul PySem.F.fills_int_mul PySem.F.slot_int_rmul repeat_tuple PySem.F.slot_int_index.lookup
    (call_meets PySem.F.slot_int_rmul (typeIs_int s k t) PySem.F.entry_int_rmul (PySem.F.args_int_rmul_2 _ _) (int_rmul_tuple k t l its.toArray n dd sl)
      ⟨ho, rfl, ⟨_, ho, rfl⟩, call_meets PySem.F.slot_tuple_mul ⟨_, ho, rfl⟩ PySem.F.entry_tuple_mul (PySem.F.args_tuple_mul_2 _ _) (tuple_mul_same l its.toArray n dd sl k t c0 c1) ⟨ho, ⟨.ref l, H, I, rfl, q⟩⟩⟩)
def rRepA (K : PySem.W.Frag) : R2 := fun x y H Q => ∃ l k xs, x = .ref l ∧ y = .int k ∧ SqT K H l xs ∧ 1 ≤ k ∧ k ≤ 1000 ∧ xs.length ≤ 1000 ∧ ∀ p H', Same H H' → SqT K H' p (List.replicate k.toNat xs).flatten → Q (.ref p) H'
theorem op_repA {X : Cx} : OpR X (binaryOp .Mult) (rRepA X.K) := by
  intro pins s σ H x y v u Q I rx ry h
  obtain ⟨l, k, xs, rfl, rfl, hT, h1, h2, hz, q⟩ := h
  by_cases hx : xs = []
  · refine op_repS pins s σ H _ _ v u Q I rx ry ⟨l, k, xs, rfl, rfl, hT, .inl hx, h1, h2, q l H (Same.refl _) ?_⟩
    have e : (List.replicate k.toNat xs).flatten = xs := by
      rw [hx]
      simp
    rw [e]
    exact hT
  · by_cases hk : k = 1
    · refine op_repS pins s σ H _ _ v u Q I rx ry ⟨l, k, xs, rfl, rfl, hT, .inr hk, h1, h2, q l H (Same.refl _) ?_⟩
      have e : (List.replicate k.toNat xs).flatten = xs := by
        rw [hk]
        simp
      rw [e]
      exact hT
    · exact op_repT pins s σ H _ _ v u Q I rx ry ⟨l, k, xs, rfl, rfl, hT, hx, by omega, h2, hz, fun p np => q p _ (Same.new np _) (SqT.here upd_same)⟩
end OPR
/-- a word repeated -/
def repW (k : Int) (ns : List Int) : List Int := (List.replicate k.toNat ns).flatten
theorem repW_map (k : Int) (ns : List Int) : (List.replicate k.toNat (ns.map V.int)).flatten = (repW k ns).map V.int := by
  unfold repW
  rw [List.map_flatten, List.map_replicate]
theorem repW_len (k : Int) (ns : List Int) : (repW k ns).length = k.toNat * ns.length := by
  unfold repW
  rw [List.length_flatten, List.map_replicate, List.sum_replicate_nat]
theorem repW_mem {k : Int} {ns : List Int} {n : Int} (h : n ∈ repW k ns) : n ∈ ns := by
  unfold repW at h
  obtain ⟨l, h1, h2⟩ := List.mem_flatten.mp h
  rw [List.eq_of_mem_replicate h1] at h2
  exact h2
theorem rep_w {K : PySem.W.Frag} {H : Hp} {a : Addr} {ns : List Int} {k : Int} {Q : VK} (ha : WT K H a ns) (h1 : 1 ≤ k) (h2 : k ≤ 1000) (hl : ns.length ≤ 1000) (q : ∀ p H', Same H H' → WT K H' p (repW k ns) → Q (.ref p) H') : rRepA K (.ref a) (.int k) H Q :=
  ⟨a, k, _, rfl, rfl, ha, h1, h2, by rw [List.length_map]; exact hl, fun p H' sm h => q p H' sm (by rw [WT, ← repW_map]; exact h)⟩
/-! ### words that are drawn -/
theorem Tp.rng {r : Addr} {H H' : Hp} (R : Rng H r) (b : But r H H') : Tp H H' := by
  obtain ⟨ys, hy⟩ := R.lst
  exact Tp.but hy b
def spAnyW (K : PySem.W.Frag) : Sp := fun vs H Q _ => ∃ (r : Addr) (top wide : Int) (c : Addr), vs = [.ref r, .int top, .int wide] ∧ 0 ≤ top ∧ top ≤ 1000 ∧ 1 ≤ wide ∧ wide ≤ 1000 ∧ RngC H r c ∧
  ∀ (p : Addr) (ns : List Int) (H' : Hp), WT K H' p ns → (ns.length : Int) ≤ top → Lets wide ns → RngC H' r c → But r H H' → Q (.ref p) H'
def spBadW (K : PySem.W.Frag) : Sp := fun vs H Q _ => ∃ r c : Addr, vs = [.ref r] ∧ RngC H r c ∧ ∀ (p : Addr) (ns : List Int) (H' : Hp), WT K H' p ns → okW ns = false → ns.length ≤ 400 → RngC H' r c → But r H H' → Q (.ref p) H'
theorem okW_mem {ns : List Int} {n : Int} (h : n ∈ ns) (hb : isLet n = false) : okW ns = false := by
  unfold okW
  have : ns.all isLet = false := by
    rw [List.all_eq_false]
    exact ⟨n, h, by rw [hb]; decide⟩
  rw [this, Bool.and_false]
theorem okW_long {ns : List Int} (h : 300 < ns.length) : okW ns = false := by
  unfold okW
  rw [decide_eq_false (by omega)]
  rfl
theorem inv_inv (ns : List Int) : inv (inv ns) = ns := by
  unfold inv
  rw [← List.map_reverse, List.map_map, List.reverse_reverse]
  have e : ((fun n : Int => -n) ∘ fun n => -n) = id := by
    funext n
    exact Int.neg_neg n
  rw [e, List.map_id]
theorem okW_inv {m : Int} (hm : m ≤ 40) {ns : List Int} (h : Lets m ns) (hl : ns.length ≤ 300) : okW (inv ns) = true := okW_of hm h.inv (by rw [inv_len]; exact hl)
theorem shf_all {k : Int} (hk : 0 ≤ k) {ns : List Int} (h : Lets 40 ns) : (shf k ns).all isLet = !(ns.any fun n => decide (40 < ab n + k)) := by
  induction ns with
  | nil => rfl
  | cons n ns ih =>
    have h1 := h n List.mem_cons_self
    have h2 := ih fun x hx => h x (List.mem_cons_of_mem _ hx)
    have h3 := shf_let hk h1.1
    show (isLet (sgn (ab n + k) n) && (shf k ns).all isLet) = !(decide (40 < ab n + k) || ns.any fun n => decide (40 < ab n + k))
    rw [h2, Bool.not_or]
    congr 1
    unfold isLet
    rw [decide_eq_true h3.1, h3.2, Bool.true_and]
    by_cases z : ab n + k ≤ 40
    · rw [decide_eq_true z, decide_eq_false (by omega)]
      rfl
    · rw [decide_eq_false z, decide_eq_true (by omega)]
      rfl
def vD (d : PyData) : PyData := .tuple [.str ("value" : Str), d]
theorem vD_shaped (ns : List Int) : SeqAt.shaped (vD (wD ns)) = true := by
  have h := wD_depth ns
  have hs := wD_shaped ns
  have e1 : (vD (wD ns)).canLay0 = (PyData.canLay0 (.str ("value" : Str)) && (PyData.canLay0 (wD ns) && true)) := rfl
  have e2 : (vD (wD ns)).depth = max (PyData.depth (.str ("value" : Str))) (max (wD ns).depth 0) + 1 := rfl
  have e3 : PyData.depth (.str ("value" : Str)) ≤ 1 := by first | exact Nat.le_refl _ | exact Nat.zero_le _
  unfold SeqAt.shaped
  rw [e1, SeqAt.canLay_of_shaped hs, decide_eq_true (by omega)]
  decide +kernel
theorem vD_wide {ns : List Int} (h : ns.length ≤ 1000) : wide (vD (wD ns)) = true := by
  show (decide (2 ≤ 1000) && (true && (wide (wD ns) && true))) = true
  rw [wD_wide h]
  decide
theorem vD_depth (ns : List Int) : (vD (wD ns)).depth < 12 := by
  have h := wD_depth ns
  have e2 : (vD (wD ns)).depth = max (PyData.depth (.str ("value" : Str))) (max (wD ns).depth 0) + 1 := rfl
  have e3 : PyData.depth (.str ("value" : Str)) ≤ 1 := by first | exact Nat.le_refl _ | exact Nat.zero_le _
  omega
theorem dp_vD {K : PySem.W.Frag} {H : Hp} {q p : Addr} {ns : List Int} (h : SqT K H q [.str ("value" : Str), .ref p]) (w : WT K H p ns) : Dp K H (.ref q) (vD (wD ns)) := Dp.tup h (.cons (.str _) (.cons (dp_wt w) .nil))
theorem dp_eD {K : PySem.W.Frag} {H : Hp} {q : Addr} {j : Nat} (h : SqT K H q [.str (en j), .non]) : Dp K H (.ref q) (eD j) := Dp.tup h (.cons (.str _) (.cons .non .nil))
theorem eD_wide (j : Nat) : wide (eD j) = true := rfl
theorem eD_depth : ∀ j < 20, (eD j).depth < 12 := by decide +kernel
section OPL
open PySem.Spec PyProof.Rows
/-! ### a lambda whose only parameter has a written int for default, and is not read -/
structure LamSD (N : List Str) (sc scope : Scope) : Prop where
  kind : scope.kind = .function
  co : scope.isCoroutine = false
  gen : scope.isGenerator = false
  own : ∀ y ∈ scope.names, y.2 ≠ .cell ∧ (y.2 = .local → y.1 ∉ N)
  free : ∀ y ∈ scope.names, y.2 = .free → sc.names.lookup y.1 = some .cell ∨ sc.names.lookup y.1 = some .free
def lamSDB (N : List Str) (sc scope : Scope) : Bool :=
  decide (scope.kind = .function) && !scope.isCoroutine && !scope.isGenerator && scope.names.all fun y => !decide (y.2 = .cell) && (!decide (y.2 = .local) || !decide (y.1 ∈ N)) && (!decide (y.2 = .free) || decide (sc.names.lookup y.1 = some .cell) || decide (sc.names.lookup y.1 = some .free))
theorem lamSD_by {N : List Str} {sc scope : Scope} (h : lamSDB N sc scope = true) : LamSD N sc scope := by
  unfold lamSDB at h
  simp only [Bool.and_eq_true, Bool.or_eq_true, Bool.not_eq_true', decide_eq_true_eq, decide_eq_false_iff_not, List.all_eq_true] at h
  obtain ⟨⟨⟨h1, h2⟩, h3⟩, h4⟩ := h
  refine ⟨h1, h2, h3, fun y hy => ⟨(h4 y hy).1.1, fun e => ?_⟩, fun y hy e => ?_⟩
  · rcases (h4 y hy).1.2 with z | z
    · exact absurd e z
    · exact z
  · rcases (h4 y hy).2 with (z | z) | z
    · exact absurd e z
    · exact .inl z
    · exact .inr z
theorem LamSD.has {X : Cx} {N : List Str} {scope : Scope} (L : LamSD N X.env.scope scope) (ok : X.Ok) : ∀ y ∈ scope.names, y.2 = .free → ∃ c, X.env.cells.lookup y.1 = some c := fun y hy e => by
  rcases L.free y hy e with k | k
  · exact ok.has _ (.inl k)
  · exact ok.has _ (.inr k)
section
variable {X : Cx} {pins : List (Addr × Obj)} {σ : L2.St} {H HZ : Hp} {s s1 : Shared}
theorem lam_startD {A : Around} {outer : List Env} {E : XK} {scope : Scope} {f c' : Addr} {h₁ : Heap} {tk : Nat} {mb : Str → Option Value} (I : Inv X pins σ H s) (L : LamSD X.N X.env.scope scope) (e0 : Env0 X.prog X.w X.K X.mg X.base A outer s1 HZ) (hd : A.handled = none)
    (un : Un (frs X.stack) [] H HZ s.heap s1.heap) (hns : h₁.Ns s1.heap.objs.size mb) (kp : ∀ b o, s1.heap.get? b = some o → h₁.get? b = some o) :
    Inv (LamX.lamCx X A outer s1 HZ E scope f c') [] σ HZ { s1 with heap := h₁, toks := tk } := by
  have hfree := L.has I.ok
  have cm : ∀ {y c}, (cloFrom X.env.cells scope.names []).lookup y = some c → X.env.cells.lookup y = some c := fun {y c} e => by
    rcases cloFrom_mem (PySem.mem_of_lookup e) with hm | ⟨h1, h2⟩
    · cases hm
    · obtain ⟨c1, hc⟩ := hfree _ h1 rfl
      have hc : X.env.cells.lookup y = some c1 := hc
      have e2 : c = c1 := by
        rw [h2, hc] <;> rfl
      rw [e2]
      exact hc
  have look : ∀ {y}, scope.names.lookup y = some .free → ∃ c, (cloFrom X.env.cells scope.names []).lookup y = some c := fun {y} hl => by
    have hy : (y, NameKind.free) ∈ scope.names := PySem.mem_of_lookup hl
    exact mem_lookup (cloFrom_has (cells := X.env.cells) (acc := []) hy)
  have cellK : ∀ {c : Addr} {v : Option Value}, H c = none → s.heap.IsCell c v → h₁.IsCell c v := fun {c v} n ⟨o, ho, hd⟩ => by
    obtain ⟨sl, q⟩ := un.any ho n (by simp)
    exact ⟨_, kp _ _ q, hd⟩
  have noA : ∀ b : Addr, b ∉ (LamX.lamCx X A outer s1 HZ E scope f c').ex := fun b z => absurd (show b ∈ ([] : List Addr) from z) (by simp)
  refine ⟨⟨e0.mod, L.kind, rfl, rfl, Nat.le_refl _, fun y z c e1 e2 => I.ok.inj y z c (cm e1) (cm e2), fun y hy => ?_, fun y c z _ => ?_, fun _ => hd, Around.frames_deeper e0.frames, .inr ⟨rfl, rfl⟩, fun b z => absurd z (noA b), e0.bs, e0.bsz, fun b _ _ => noA b,
      fun b z => absurd z (noA b), e0.funs, e0.frf⟩,
    rfl, e0.bare, Un.kept kp, ⟨_, hns, fun i y v e1 e2 e3 => ?_⟩, fun y c e => ?_, e0.hok.fresh (Nat.le_refl _), fun y c e => ?_, fun q hq => absurd (show q ∈ ([] : List (Addr × Obj)) ++ [] from hq) (by simp), e0.hok.kept kp, I.len⟩
  · have hy : scope.names.lookup y = some .cell ∨ scope.names.lookup y = some .free := hy
    rcases hy with hy | hy
    · exact absurd rfl (L.own _ (PySem.mem_of_lookup hy)).1
    · exact look hy
  · have z : false = true := z
    cases z
  · have e3 : Vis scope y := e3
    have e1' : X.N[i]? = some y := e1
    rcases e3 with k | k | k
    · exact absurd (List.mem_of_getElem? e1') ((L.own _ (PySem.mem_of_lookup k)).2 rfl)
    · exact absurd rfl (L.own _ (PySem.mem_of_lookup k)).1
    · obtain ⟨m, hn, hl⟩ := I.loc
      have hvis : Vis X.env.scope y := (L.free _ (PySem.mem_of_lookup k) rfl).elim (fun k => .inr (.inl k)) (fun k => .inr (.inr k))
      obtain ⟨w', r, q⟩ := hl i y v e1 e2 hvis
      obtain ⟨c2, h2⟩ := look k
      refine ⟨w', r, .inr ⟨.inr k, c2, h2, ?_⟩⟩
      have c1 := cm h2
      rcases q with ⟨k', _⟩ | ⟨_, c3, e', z⟩
      · have k' : X.env.scope.names.lookup y = some .local := k'
        rcases L.free _ (PySem.mem_of_lookup k) rfl with k2 | k2 <;> rw [show X.env.scope.names.lookup y = _ from k2] at k' <;> cases k'
      · rw [c1] at e'
        cases e'
        exact cellK (I.freeC y _ c1) z
  · obtain ⟨w', z⟩ := I.cell y c (cm e)
    exact ⟨w', cellK (I.freeC y c (cm e)) z⟩
  · obtain ⟨v, o, ho, hd⟩ := I.cell y c (cm e)
    exact un.free c o ho (I.freeC y c (cm e)) (by simp)
theorem lam_makeD {T : List (Addr × Str)} {c P : Addr} {params : Arguments} {body : Expr} {scope : Scope} {pos pz : Pos} {z : Int} {jz : Nat} {Q : Value → Shared → Prop} (I : Inv X pins σ H s) (TB : LamX.TabB X.base X.mg c P) (hcode : X.env.code = .ref c)
    (hm : (P, X.env.qual ++ "<lambda>") ∈ T) (hu : ∀ p ∈ T, p.1 = P → p.2 = X.env.qual ++ "<lambda>") (hT : LamX.Tabs T H) (hd1 : params.defaults = [.Constant (.int z) jz pz]) (hk0 : params.kw_defaults = []) (hfree : ∀ y ∈ scope.names, y.2 = .free → ∃ c, X.env.cells.lookup y.1 = some c)
    (h : ∀ (f c' T0 : Addr) (u doc pm ctv : Value) (H1 : Hp) (s' : Shared), Inv X pins σ H1 s' → LamX.ExtN H H1 → LamX.Tabs T H1 →
      s'.heap.get? f = some (PySem.W.kdv_obj "<lambda>" (X.env.qual ++ "<lambda>") params (.expr body) scope (cloFrom X.env.cells scope.names []) (.ref T0) doc pm c' ctv) → H1 f = none → f ∉ frs X.stack → s'.heap.get? T0 = some (PySem.W.kdv_tup [u]) → H1 T0 = none → T0 ∉ frs X.stack → H1 c' = some (LamX.CodeO c' (X.env.qual ++ "<lambda>")) → Q (.ref f) s') :
    wpAny (model X.prog X.w) X.A (eval (.Lambda params body scope pos) X.env) Q X.xe s := by
  refine PySem.W.kdv_lam (by rw [hd1]; rfl) hk0 ?_
  rw [hd1]
  refine PySem.W.kdv_all1 (thn (pe_int.run pins s σ H (fun v H' => v = .int z ∧ H' = H) I ⟨rfl, rfl⟩) fun u s0 ⟨v, H0, I0, r0, ev, eH⟩ => PySem.W.kdv_all0 ?_)
  subst ev eH
  rw [makeFunction_eq]
  simp only [List.zip_nil_right, List.filterMap_nil, List.isEmpty_nil, if_true, pure_bind, List.isEmpty_cons, Bool.false_eq_true, if_false]
  refine wpAny_bind (wpAny_newTextTuple ?_)
  obtain ⟨ps, hP, ht, ha⟩ := hT _ hm
  have I2 : Inv X pins σ H0 { s0 with heap := s0.heap.push (PySem.W.kdv_tup [u]) } := I0.kept (t' := s0.toks) fun b o e => Heap.get?_push_of_some _ e
  have hT0 : (s0.heap.push (PySem.W.kdv_tup [u])).get? s0.heap.objs.size = some (PySem.W.kdv_tup [u]) := Heap.get?_push_size _ rfl
  have hT0n : H0 s0.heap.objs.size = none := I0.hok.fresh (Nat.le_refl _)
  have bP : (s0.heap.push (PySem.W.kdv_tup [u])).BuiltinsAt X.mg P := TB.bm.keeps I2.bk
  have hP' : (s0.heap.push (PySem.W.kdv_tup [u])).get? P = some { cls := .none, data := .fields ps } := I2.hok P _ hP
  have nofr : ∀ f, s0.heap.objs.size ≤ f → f ∉ frs X.stack := fun f hf z => by
    rcases List.mem_cons.mp (I0.stkSub _ z) with e | e
    · have h1 := I0.lt
      rw [← e] at h1
      exact Nat.lt_irrefl _ (Nat.lt_of_lt_of_le h1 hf)
    · exact I0.nofs hf e
  have sz2 : s0.heap.objs.size ≤ (s0.heap.push (PySem.W.kdv_tup [u])).objs.size := by rw [Heap.size_push]; omega
  have ltT : s0.heap.objs.size < (s0.heap.push (PySem.W.kdv_tup [u])).objs.size := by rw [Heap.size_push]; omega
  have nTP : s0.heap.objs.size ≠ P := fun z => by
    rw [← z, hT0n] at hP
    cases hP
  cases hc : codeAmong pos ps.toList with
  | none =>
    refine PySem.W.kdv_makeTail (s := { s0 with heap := s0.heap.push (PySem.W.kdv_tup [u]) }) (mg := X.mg) (c := c) (P := P) (ps := ps) (closure_ok hfree) I2.ok.glob (I2.mod.glob.keeps I2.bk) hcode (TB.code.keeps I2.bk) hP' ht hc TB.gP bP fun c' ctv doc h' tk hx hge hlt hrec htb => ?_
    obtain ⟨c2, oc, vs, t, e2, hoc, hd, hv⟩ := hrec
    cases e2
    have hsz : (s0.heap.push (PySem.W.kdv_tup [u])).objs.size ≤ h'.objs.size := Nat.le_trans hge (Nat.le_of_lt hlt)
    have nC : H0 c' = none := I2.hok.fresh hge
    have I1 := LamX.inv_table (t' := tk) (more := #[rawInt pos.line, rawInt pos.col, .ref c']) (h' := h'.push (PySem.W.kdv_obj "<lambda>" (X.env.qual ++ "<lambda>") params (.expr body) scope (cloFrom X.env.cells scope.names []) (.ref s0.heap.objs.size) doc ((X.mg "__name__").getD .none) c' ctv)) I2 hP
      (fun b o hb e => Heap.get?_push_of_some _ (hx b o hb e)) (Heap.get?_push_of_some _ htb) hge ⟨oc, vs, t, Heap.get?_push_of_some _ hoc, hd, hv⟩
    have hE : LamX.ExtN H0 (upd (upd H0 P (.tbl (ps ++ #[rawInt pos.line, rawInt pos.col, .ref c']))) c' (LamX.CodeO c' (X.env.qual ++ "<lambda>"))) := fun b o e n => by
      rw [upd_ne (ne_of_none e nC), upd_ne (fun z => n ps (Option.some.inj (e.symm.trans (by rw [z]; exact hP))))]
      exact e
    have eL : (ps ++ #[rawInt pos.line, rawInt pos.col, .ref c']).toList = ps.toList ++ [rawInt pos.line, rawInt pos.col, .ref c'] := by simp
    have nTc : s0.heap.objs.size ≠ c' := Nat.ne_of_lt (Nat.lt_of_lt_of_le ltT hge)
    refine h h'.objs.size c' s0.heap.objs.size u doc ((X.mg "__name__").getD .none) ctv _ _ I1 hE (fun p hp => ?_) (Heap.get?_push_size _ rfl) ?_ (nofr _ (Nat.le_trans sz2 hsz)) (Heap.get?_push_of_some _ (hx _ _ nTP hT0)) ?_ (nofr _ (Nat.le_refl _)) upd_same
    · by_cases hb : p.1 = P
      · rw [hu p hp hb, hb]
        refine ⟨_, by rw [upd_ne (ne_of_none hP nC), upd_same], by rw [eL]; exact PySem.TriplesOk_snoc _ _ _ _ ht, fun p' cv hcv => ?_⟩
        rw [eL] at hcv
        rcases LamX.among_app _ ht hcv with z | z
        · obtain ⟨c0, e1, e2⟩ := ha p' cv z
          exact ⟨c0, e1, hE _ _ e2 LamX.codeO_ne⟩
        · exact ⟨c', z, upd_same⟩
      · obtain ⟨ps', a1, a2, a3⟩ := hT p hp
        refine ⟨ps', by rw [upd_ne (ne_of_none a1 nC), upd_ne hb]; exact a1, a2, fun p' cv hcv => ?_⟩
        obtain ⟨c0, e1, e2⟩ := a3 p' cv hcv
        exact ⟨c0, e1, hE _ _ e2 LamX.codeO_ne⟩
    · have n1 : h'.objs.size ≠ c' := Nat.ne_of_gt hlt
      have n2 : h'.objs.size ≠ P := Nat.ne_of_gt (Nat.lt_of_lt_of_le (Heap.lt_size hP') hsz)
      rw [upd_ne n1, upd_ne n2]
      exact I2.hok.fresh hsz
    · rw [upd_ne nTc, upd_ne nTP]
      exact hT0n
  | some cv =>
    obtain ⟨c', e, hco⟩ := ha pos cv hc
    subst e
    refine PySem.W.kdv_makeTailHit (s := { s0 with heap := s0.heap.push (PySem.W.kdv_tup [u]) }) (mg := X.mg) (c := c) (P := P) (ps := ps) (closure_ok hfree) I2.ok.glob (I2.mod.glob.keeps I2.bk) hcode (TB.code.keeps I2.bk) hP' ht hc bP fun ctv doc h' tk hx hsz => ?_
    have I1 : Inv X pins σ H0 { s0 with heap := h'.push (PySem.W.kdv_obj "<lambda>" (X.env.qual ++ "<lambda>") params (.expr body) scope (cloFrom X.env.cells scope.names []) (.ref s0.heap.objs.size) doc ((X.mg "__name__").getD .none) c' ctv), toks := tk } := I2.kept fun b o e => Heap.get?_push_of_some _ (hx b o e)
    exact h h'.objs.size c' s0.heap.objs.size u doc ((X.mg "__name__").getD .none) ctv H0 _ I1 (LamX.ExtN.refl H0) hT (Heap.get?_push_size _ rfl) (I2.hok.fresh hsz) (nofr _ (Nat.le_trans sz2 hsz)) (Heap.get?_push_of_some _ (hx _ _ hT0)) hT0n (nofr _ (Nat.le_refl _)) hco
theorem pe_actD {CXg : CXT} {Eg : XK} {Ng : List Str} {qg : Str} {sg : Scope} {g f c T0 : Addr} {u doc cdg pm ctv : Value} {params : Arguments} {body : Expr} {scope : Scope} {k i : Nat} {a a0 : Str} {pn : List (Addr × Obj)} {xe : Value → Shared → Prop} {W : WX} {E : L2.St → XK} {tb : XK → TE} {p1 p2 : Pos}
    (I : Inv X pins σ H s) (L : LamSD X.N X.env.scope scope) (hf : s.heap.get? f = some (PySem.W.kdv_obj "<lambda>" (X.env.qual ++ "<lambda>") params (.expr body) scope (cloFrom X.env.cells scope.names []) (.ref T0) doc pm c ctv)) (hfn : H f = none) (hfr : f ∉ frs X.stack)
    (hT0 : s.heap.get? T0 = some (PySem.W.kdv_tup [u])) (hTn : H T0 = none) (hTr : T0 ∉ frs X.stack) (hl0 : scope.names.lookup a0 = some .local)
    (hbind : ∀ (q : Str) (cl : List (Str × Addr)) (dV doc pm cv ctv : Value), ∃ k, bindArgs (PySem.W.kdv_fn "<lambda>" q params (.expr body) scope cl dV doc pm cv ctv) ⟨[], []⟩ = seqItems? dV >>= k ∧ ∀ u, k (some #[u]) = pure [(a0, u)])
    (tk : L2C.Takes ((cxOf CXg X.prog X.w X.K X.mg X.base Ng qg sg g cdg X.A X.stack s H Eg).tr pn xe) W) (hW : ∀ cls d σ2 H2, E σ2 cls d H2 → W cls d σ2 H2) (hr : Room (k + 1) (X.A.deeper (envOfC qg sg s.heap.objs.size g cdg)))
    (hbody : ∀ (A : Around) (outer : List Env) (s : Shared) (H : Hp) (E : XK), Room k (A.deeper (LamX.lamEnv X scope s.heap.objs.size f c)) → PE (lamCxN X A outer s H E scope f c) body (tb E))
    (hN : Ng[i]? = some a) (hv : Vis sg a) (hd : (a == ("__debug__" : Str)) = false := by decide) (hcd : (a == ("__classdict__" : Str)) = false := by decide) :
    PE ((cxOf CXg X.prog X.w X.K X.mg X.base Ng qg sg g cdg X.A X.stack s H Eg).tr pn xe) (.Call (.Name a p1) [] [] p2) (fun σZ HZ Q => σZ[i]? = some (some (.ref f)) ∧ HZ c = some (LamX.CodeO c (X.env.qual ++ "<lambda>")) ∧ tb (E σZ) σ HZ Q) := by
  refine ⟨fun pz sz σz Hz Q Iz ⟨hs, hc, y⟩ => ?_⟩
  refine wpAny_Call_Name_kw (thn ((pe_var (pos := p1) (i := i) hN hv hd hcd).run pz sz σz Hz (fun v H1 => v = .ref f ∧ H1 = Hz) Iz ⟨.ref f, hs, rfl, rfl⟩) fun u' s1 ⟨v, H1, I1, r1, ev, eH⟩ => ?_)
  subst ev eH
  cases (show u' = Value.ref f from r1)
  have of1 := I1.base.keep f _ hf hfn hfr (fun z => nomatch (show f ∈ ([] : List Addr) from z))
  have oT1 := I1.base.keep T0 _ hT0 hTn hTr (fun z => nomatch (show T0 ∈ ([] : List Addr) from z))
  refine PySem.W.callWith_F0 ⟨_, _, _, _, of1⟩ ?_
  obtain ⟨⟨oc, vs, t, hoc, hdc, hvc⟩, _, _⟩ := I1.hok c _ hc
  have run : codeAny (model X.prog X.w) (X.A.deeper (envOfC qg sg s.heap.objs.size g cdg)) (.call (.ref f) ⟨[], []⟩) (CR (L2C.CX X.prog X.w) (envOfC qg sg s.heap.objs.size g cdg :: X.stack) X.prog X.w H1 s1 Q (E σz)) s1 := by
    obtain ⟨kk, hb1, hb2⟩ := hbind (X.env.qual ++ "<lambda>") (cloFrom X.env.cells scope.names []) (.ref T0) doc pm (.ref c) ctv
    have hB : BindsTo s1 (PySem.W.kdv_fn "<lambda>" (X.env.qual ++ "<lambda>") params (.expr body) scope (cloFrom X.env.cells scope.names []) (.ref T0) doc pm (.ref c) ctv) ⟨[], []⟩ [(a0, u)] := BindsTo.of_defaults rfl oT1 rfl hb1 (hb2 u)
    refine PySem.W.kla_callFunE hr.depth of1 rfl L.co L.gen rfl ⟨c, oc, vs, t, rfl, hoc, hdc, hvc⟩ (hB _ _ _ _ ?_)
    refine wpAny_newFunctionEnv (fun y hy => (L.own y hy).1) (fun y hy => by rw [List.mem_singleton.mp hy]; exact hl0) (fun g1 hns hsb => ⟨I1.nolimit.fresh _ hsb, ?_⟩) L.kind
    have kp : ∀ b o, s1.heap.get? b = some o → g1.get? b = some o := fun b o e => hsb.extBut b o (Nat.ne_of_lt (Heap.lt_size e)) (Heap.get?_push_of_some _ e)
    have J := lam_startD (E := E σz) (f := f) (c' := c) (tk := s1.toks + ([(a0, u)] : List (Str × Value)).length) I L I1.env0 hr.hd I1.base hns kp
    refine PySem.W.kla_codeExpr (wpAny_mono ((hbody _ _ s1 H1 (E σz) (hr.deeper _)).run [] _ _ H1 Q (J.wish _) y) (fun v s3 ⟨w3, H3, J3, rv, q⟩ => ⟨w3, H3, J3.os, J3.bare, J3.base, J3.hok, rv, q⟩) fun e s3 z => z)
  refine wpAny_call (codeAny_mono run fun rs s2 hq => ?_)
  cases rs with
  | error e => exact tk e s2 (L2C.XE.of_call I1 (fun cls d H' h => hW cls d σz H' h) hq)
  | ok fl =>
    cases fl with
    | ret u => exact I1.after hq
    | next => exact False.elim hq
    | brk => exact False.elim hq
    | cont => exact False.elim hq
end
theorem pe_lamD {X : Cx} {T : List (Addr × Str)} {TT : (XK → Hp → VK → Prop) → Hp → VK → Prop} {x a a0 : Str} {g c P : Addr} {k : Nat} {pg : Arguments} {bg : List Stmt} {sg : Scope} {dV kV doc pm cdv ct oc : Value} {an od : Option Addr} {osl : Array (Option Value)} {Ng : List Str}
    {params : Arguments} {body : Expr} {scope : Scope} {t : XK → TE} {p lpos pos pz : Pos} {z : Int} {jz : Nat} (hg : Gl X x) (hm : X.mg x = some (.ref g)) (hk : PySem.W.keepIn X.K (.ref g) = true)
    (lk : X.K.lookup g = some ⟨oc, od, .func (PySem.W.fnOf x x pg bg sg dV kV doc pm an cdv ct), osl⟩) (hcg : PySem.W.codeIn X.K cdv x = true) (hb : Binds X.K (PySem.W.fnOf x x pg bg sg dV kV doc pm an cdv ct) [a] []) (Sg : FnScope Ng [a] sg) (hNg : Ng[0]? = some a) (hva : Vis sg a)
    (hG : GivesN X Ng x sg g cdv bg a (X.env.qual ++ "<lambda>") TT) (TB : LamX.TabB X.base X.mg c P) (hcode : X.env.code = .ref c) (hmT : (P, X.env.qual ++ "<lambda>") ∈ T) (hu : ∀ p ∈ T, p.1 = P → p.2 = X.env.qual ++ "<lambda>") (hr : Room (k + 2) X.A) (k40 : 40 ≤ k + 1) (L : LamSD X.N X.env.scope scope) (hd1 : params.defaults = [.Constant (.int z) jz pz]) (hk0 : params.kw_defaults = []) (hl0 : scope.names.lookup a0 = some .local)
    (hbind : ∀ (q : Str) (cl : List (Str × Addr)) (dV doc pm cv ctv : Value), ∃ k, bindArgs (PySem.W.kdv_fn "<lambda>" q params (.expr body) scope cl dV doc pm cv ctv) ⟨[], []⟩ = seqItems? dV >>= k ∧ ∀ u, k (some #[u]) = pure [(a0, u)])
    (hbody : ∀ (A : Around) (outer : List Env) (s : Shared) (H : Hp) (E : XK) (f c2 : Addr), Room k (A.deeper (LamX.lamEnv X scope s.heap.objs.size f c2)) → PE (lamCxN X A outer s H E scope f c2) body (t E))
    (hdb : (x == ("__debug__" : Str)) = false := by decide) (hd : (a == ("__debug__" : Str)) = false := by decide) (hcd : (a == ("__classdict__" : Str)) = false := by decide) :
    PE X (.Call (.Name x p) [.Lambda params body scope lpos] [] pos) (LamX.tLam T TT t) := by
  refine ⟨fun pins s σ H Q I ⟨hT, y⟩ => ?_⟩
  refine wpAny_Call_Name_kw (ld_glob I hg hm (PySem.W.callWith_K (h₀ := X.base) I.ok.mod.kin hk ?_ (by rfl) (by rfl)) hdb)
  show wpAny _ _ (spliced ((false, eval (.Lambda params body scope lpos) X.env) :: backTo pos (starEach [] X.env))) _ _ s
  refine Calls.spliced_cons (lam_makeD I TB hcode hmT hu hT hd1 hk0 (L.has I.ok) fun f c2 T0 u doc2 pm2 ctv H1 s1 I1 eN T1 hf hfn hfr hT0 hTn hTr hco => Calls.spliced_nil ⟨I1.kIn, ?_⟩)
  have run : codeAny (model X.prog X.w) X.A (.call (.ref g) ⟨[.ref f], []⟩) (CR CX0 X.stack X.prog X.w H1 s1 Q E0) s1 := by
    refine LamX.run_ofS (N := Ng) (ps := [a]) (us := [.ref f]) (vs := [.ref f]) lk hcg Sg hr I1.env0 (hb s1 [.ref f] I1.kIn rfl) (.cons rfl .nil) rfl fun hr2 => ?_
    obtain ⟨t2, ht2, hq2⟩ := hG _ f c2 s1 H1 Q (fun E H' Q' => t E σ H' Q') hr2 k40 (fun W pn xe E p1 p2 tk hW => pe_actD (i := 0) I1 L hf hfn hfr hT0 hTn hTr hl0 hbind tk hW hr2 (fun A outer s H E hr3 => hbody A outer s H E f c2 hr3) hNg hva hd hcd) hco (y H1 eN T1)
    exact ⟨t2, ht2.nox, hq2⟩
  refine wpAny_call (codeAny_mono run fun rs s2 hq => ?_)
  cases rs with
  | error e => exact (show False from hq).elim
  | ok fl =>
    cases fl with
    | ret u => exact I1.after hq
    | next => exact False.elim hq
    | brk => exact False.elim hq
    | cont => exact False.elim hq
end OPL
/-! ### paths -/
section OPP
open PySem.Spec PyProof.Rows
theorem op_mulS {X : Cx} : OpR X (binaryOp .Mult) (fun x y H Q => ∃ (z : Str) (n : Int), x = .str z ∧ y = .int n ∧ MulOk z n ∧ Q (.str (Txt.mul z n)) H) := by
  intro pins s σ H x y v u Q I rx ry h
  obtain ⟨z, n, rfl, rfl, ok, q⟩ := h
  obtain ⟨t1, rfl⟩ := rx
  obtain ⟨t2, rfl⟩ := ry
  exact SB.mul ok fun t' k => ⟨.str _, H, I.tok k, ⟨t', rfl⟩, q⟩
end OPP
def okp (z : Str) : Bool := decide (z.length ≤ 60) && decide (V.str (Txt.stripChars z (Str.ofString "01")) = V.str (Str.ofString ""))
theorem pcs_goes : ∀ p : List Bool, (pcs p).takeWhile (Str.ofString "01").cps.contains = pcs p
  | [] => rfl
  | true :: p => by
    show (49 :: pcs p).takeWhile _ = 49 :: pcs p
    rw [List.takeWhile_cons, if_pos (by decide +kernel), pcs_goes p]
  | false :: p => by
    show (48 :: pcs p).takeWhile _ = 48 :: pcs p
    rw [List.takeWhile_cons, if_pos (by decide +kernel), pcs_goes p]
theorem strip_ptx (p : List Bool) : Txt.stripChars (ptx p) (Str.ofString "01") = Str.ofString "" := by
  have e1 : stripLo (Str.ofString "01").cps.contains true (ptx p) = p.length := by
    show ((ptx p).cps.toList.takeWhile _).length = p.length
    rw [ptx_cps, pcs_goes]
    exact List.length_map _
  have e2 : stripHi (Str.ofString "01").cps.contains true (ptx p) p.length = p.length := by
    show (ptx p).length - (((ptx p).cps.toList.drop p.length).reverse.takeWhile _).length = p.length
    have : (ptx p).cps.toList.drop p.length = [] := by
      rw [ptx_cps]
      exact List.drop_eq_nil_of_le (Nat.le_of_eq (List.length_map _))
    rw [this, ptx_len]
    rfl
  cases p with
  | nil => decide +kernel
  | cons b p =>
    show (if stripSame (Str.ofString "01").cps.contains true true (ptx (b :: p)) = true then _ else stripped (Str.ofString "01").cps.contains true true (ptx (b :: p))) = _
    have no : ¬ stripSame (Str.ofString "01").cps.contains true true (ptx (b :: p)) = true := by
      unfold stripSame
      rw [e1, e2]
      intro z
      rw [Bool.and_eq_true] at z
      have z1 : (b :: p).length = 0 := eq_of_beq z.1
      cases z1
    rw [if_neg no]
    unfold stripped
    rw [e1, e2]
    show (⟨(ptx (b :: p)).cps.extract (b :: p).length (b :: p).length⟩ : Str) = ⟨#[]⟩
    congr 1
    simp
    omega
theorem okp_ptx {p : List Bool} (h : p.length ≤ 60) : okp (ptx p) = true := by
  unfold okp
  rw [ptx_len, strip_ptx, decide_eq_true h, decide_eq_true rfl]
  rfl
def spChkP (C : Addr) : Sp := fun vs H Q E => ∃ z : Str, vs = [.str z] ∧ z.length ≤ 1000 ∧ (okp z = true → Q .non H) ∧ (okp z = false → E (.ref C) none H)
/-- what a path asks of a term -/
def PathW (CP CN : Addr) (z : Str) (t : Tree) (E : XK) (H : Hp) (R : Tree → Prop) : Prop := (okp z = false ∧ ∀ H', Same H H' → E (.ref CP) none H') ∨
  ∃ p : List Bool, z = ptx p ∧ p.length ≤ 60 ∧ (t.st p = none → ∀ H', Same H H' → E (.ref CN) none H') ∧ ∀ u, t.st p = some u → R u
def spAlong (K : PySem.W.Frag) (C CP CN : Addr) : Sp := fun vs H Q E => ∃ (x d a b c : Addr) (m : Nat) (z : Str) (ts : List Tree) (t : Tree), vs = [.ref x, .int m, .str z] ∧ z.length ≤ 1000 ∧ PoolA K C x d a b c H ts ∧ ts[m]? = some t ∧
  PathW CP CN z t E H fun u => ∀ (l : Addr) (ms : List V) (k : Nat) (H' : Hp), Same H H' → H l = none → H' l = some (.lst (ms ++ [.int (k : Int)])) → ts[k]? = some u → Q (.ref l) H'
def spSubT (K : PySem.W.Frag) (CI CP CN : Addr) : Sp := fun vs H Q E => ∃ (v : V) (d : PyData) (z : Str), vs = [v, .str z] ∧ z.length ≤ 1000 ∧ NT K H v d ∧ ndD d ≤ 1000 ∧ (okd d = false → ∀ H', Same H H' → E (.ref CI) none H') ∧
  ∀ t : Tree, d = t.d → t.sz ≤ 12 → t.dp ≤ 6 → PathW CP CN z t E H fun u => ∀ (x : V) (H' : Hp), Same H H' → TA K H' x u → Q x H'
def Tree.pts : Tree → List Bool → List (List Bool)
  | .L, p => [p]
  | .N l r, p => ([p] ++ l.pts (p ++ [false])) ++ r.pts (p ++ [true])
theorem Tree.pts_len : ∀ (t : Tree) (p : List Bool), (t.pts p).length = t.nodes
  | .L, p => rfl
  | .N l r, p => by
    show (([p] ++ l.pts (p ++ [false])) ++ r.pts (p ++ [true])).length = l.nodes + r.nodes + 1
    rw [List.length_append, List.length_append, pts_len l, pts_len r, List.length_singleton]
    omega
theorem Tree.pts_le : ∀ (t : Tree) (p q : List Bool), q ∈ t.pts p → q.length ≤ p.length + t.dp
  | .L, p, q, h => by
    rw [List.mem_singleton.mp h]
    exact Nat.le_add_right _ _
  | .N l r, p, q, h => by
    have h : q ∈ ([p] ++ l.pts (p ++ [false])) ++ r.pts (p ++ [true]) := h
    show q.length ≤ p.length + (max l.dp r.dp + 1)
    rcases List.mem_append.mp h with h | h
    · rcases List.mem_append.mp h with h | h
      · rw [List.mem_singleton.mp h]
        omega
      · have := pts_le l _ _ h
        rw [List.length_append, List.length_singleton] at this
        omega
    · have := pts_le r _ _ h
      rw [List.length_append, List.length_singleton] at this
      omega
theorem Tree.pts_pos (t : Tree) (p : List Bool) : 0 < (t.pts p).length := by
  rw [pts_len]
  cases t <;> exact Nat.succ_pos _
def spPts (K : PySem.W.Frag) (n : Nat) : Sp := fun vs H Q _ => ∃ (v : V) (t : Tree) (p : List Bool), vs = [v, .str (ptx p)] ∧ TA K H v t ∧ t.dp < n ∧ n ≤ 30 ∧ t.nodes ≤ 1000 ∧ p.length + t.dp ≤ 60 ∧ ∀ (l : Addr) (H' : Hp), Same H H' → H l = none → H' l = some (.lst (ptxs (t.pts p))) → Q (.ref l) H'
def spAnyP (K : PySem.W.Frag) : Sp := fun vs H Q _ => ∃ (r c : Addr) (v : V) (t : Tree), vs = [.ref r, v] ∧ RngC H r c ∧ TA K H v t ∧ t.dp ≤ 6 ∧ t.sz ≤ 12 ∧ ∀ (p : List Bool) (H' : Hp), p.length ≤ 8 → RngC H' r c → But r H H' → Q (.str (ptx p)) H'
def spBadP : Sp := fun vs H Q _ => ∃ r c : Addr, vs = [.ref r] ∧ RngC H r c ∧ ∀ (z : Str) (H' : Hp), okp z = false → z.length ≤ 1000 → RngC H' r c → But r H H' → Q (.str z) H'
def spStN (K : PySem.W.Frag) : Sp := fun vs H Q _ => ∃ (v : V) (t : Tree) (p : List Bool), vs = [v, .str (ptx p)] ∧ TA K H v t ∧ t.dp ≤ 60 ∧ (t.st p = none → ∀ H', Same H H' → Q .non H') ∧ ∀ u, t.st p = some u → ∀ (x : V) (H' : Hp), TA K H' x u → Same H H' → Q x H'
theorem ptx_nil : Str.ofString "" = ptx [] := rfl
theorem ptx_cut1 (p : List Bool) : cutS (ptx p) none (some 1) = ptx (p.take 1) := by
  unfold cutS
  rw [ptx_cps, ptx_len, HT.sIx_none, show HT.sIx p.length p.length (some 1) = min 1 p.length from HT.sIx_nat _ _ 1]
  cases p with
  | nil => rfl
  | cons b p =>
    have e : min 1 (b :: p).length = 1 := by
      rw [List.length_cons]
      omega
    rw [e]
    rfl
theorem ptx_11 (p : List Bool) : ptx p ++ Str.ofString "11" = ptx (p ++ [true, true]) := by
  show (⟨(pcs p).toArray ++ #[49, 49]⟩ : Str) = ⟨(pcs (p ++ [true, true])).toArray⟩
  congr 1
  apply Array.toList_inj.mp
  unfold pcs
  simp
def tvD (t : Tree) : PyData := .tuple [.str ("value" : Str), t.d]
theorem tvD_shaped {t : Tree} (h : t.dp ≤ 20) : SeqAt.shaped (tvD t) = true := by
  have e1 : (tvD t).canLay0 = (PyData.canLay0 (.str ("value" : Str)) && (PyData.canLay0 t.d && true)) := rfl
  have e2 : (tvD t).depth = max (PyData.depth (.str ("value" : Str))) (max t.d.depth 0) + 1 := rfl
  have e3 : PyData.depth (.str ("value" : Str)) ≤ 1 := by first | exact Nat.le_refl _ | exact Nat.zero_le _
  have e4 := t.d_depth
  unfold SeqAt.shaped
  rw [e1, t.d_lay, decide_eq_true (by omega)]
  decide +kernel
theorem tvD_depth {t : Tree} (h : t.dp ≤ 6) : (tvD t).depth < 12 := by
  have e2 : (tvD t).depth = max (PyData.depth (.str ("value" : Str))) (max t.d.depth 0) + 1 := rfl
  have e3 : PyData.depth (.str ("value" : Str)) ≤ 1 := by first | exact Nat.le_refl _ | exact Nat.zero_le _
  have e4 := t.d_depth
  omega
theorem tree_wide7 : ∀ t : Tree, wide t.d = true
  | .L => rfl
  | .N l r => by
    show (decide (2 ≤ 1000) && (wide l.d && (wide r.d && true))) = true
    rw [tree_wide7 l, tree_wide7 r]
    decide
theorem tvD_wide (t : Tree) : wide (tvD t) = true := by
  show (decide (2 ≤ 1000) && (true && (wide t.d && true))) = true
  rw [tree_wide7]
  decide
theorem dp_tvD {K : PySem.W.Frag} {H : Hp} {q : Addr} {x : V} {t : Tree} (h : SqT K H q [.str ("value" : Str), x]) (w : TA K H x t) : Dp K H (.ref q) (tvD t) := Dp.tup h (.cons (.str _) (.cons w .nil))
/-! ### steps of both kinds -/
def Tree.eqb : Tree → Tree → Bool
  | .L, .L => true
  | .N a b, .N c d => a.eqb c && b.eqb d
  | .L, .N _ _ => false
  | .N _ _, .L => false
theorem Tree.eqb_eq : ∀ {a b : Tree}, a.eqb b = true → a = b
  | .L, .L, _ => rfl
  | .N a b, .N c d, h => by
    have h : (a.eqb c && b.eqb d) = true := h
    rw [Bool.and_eq_true] at h
    rw [eqb_eq h.1, eqb_eq h.2]
  | .L, .N _ _, h => by cases h
  | .N _ _, .L, h => by cases h
theorem Tree.eqb_refl : ∀ a : Tree, a.eqb a = true
  | .L => rfl
  | .N a b => by
    show (a.eqb a && b.eqb b) = true
    rw [eqb_refl a, eqb_refl b]
    rfl
theorem Tree.eqvT : ∀ a b : Tree, PyData.eqv a.d b.d = a.eqb b
  | .L, .L => rfl
  | .L, .N _ _ => rfl
  | .N _ _, .L => rfl
  | .N a b, .N c d => by
    show (PyData.eqv a.d c.d && (PyData.eqv b.d d.d && true)) = (a.eqb c && b.eqb d)
    rw [eqvT a c, eqvT b d, Bool.and_true]
def Tree.ct0 : Tree → Option Tree
  | .N (.N a b) (.N a' c) => if a.eqb a' = true then some (.N a (.N b c)) else none
  | .N .L _ => none
  | .N (.N _ _) .L => none
  | .L => none
def Tree.r0 (on : Bool) (t : Tree) : Option Tree := if on = true then t.ex0 else t.ct0
def Tree.rwt (on : Bool) (t : Tree) (p : List Bool) : Option Tree := (t.st p).bind fun u => (u.r0 on).bind fun u' => t.rp p u'
theorem Tree.rp_some (x : Tree) : ∀ (t : Tree) (p : List Bool) (u : Tree), t.st p = some u → ∃ t', t.rp p x = some t'
  | t, [], u, _ => ⟨x, t.rp_nil x⟩
  | .L, _ :: _, _, h => by cases h
  | .N l r, false :: p, u, h => by
    obtain ⟨l', e⟩ := rp_some x l p u h
    refine ⟨.N l' r, ?_⟩
    show (l.rp p x).map (fun l' => Tree.N l' r) = _
    rw [e]
    rfl
  | .N l r, true :: p, u, h => by
    obtain ⟨r', e⟩ := rp_some x r p u h
    refine ⟨.N l r', ?_⟩
    show (r.rp p x).map (fun r' => Tree.N l r') = _
    rw [e]
    rfl
/-- what holds of a subterm and of what stands in its place -/
theorem Tree.rp_rel {R : Tree → Tree → Prop} (hl : ∀ a a' b, R a a' → R (.N a b) (.N a' b)) (hr : ∀ a b b', R b b' → R (.N a b) (.N a b')) : ∀ (t : Tree) (p : List Bool) (u x t' : Tree), t.st p = some u → t.rp p x = some t' → R u x → R t t'
  | t, [], u, x, t', h1, h2, h3 => by
    rw [st_nil] at h1
    rw [rp_nil] at h2
    cases h1
    cases h2
    exact h3
  | .L, _ :: _, _, _, _, h, _, _ => by cases h
  | .N l r, false :: p, u, x, t', h1, h2, h3 => by
    have h2 : (l.rp p x).map (fun l' => Tree.N l' r) = some t' := h2
    cases e : l.rp p x with
    | none => rw [e] at h2; cases h2
    | some l' =>
      rw [e] at h2
      cases h2
      exact hl _ _ _ (rp_rel hl hr l p u x l' h1 e h3)
  | .N l r, true :: p, u, x, t', h1, h2, h3 => by
    have h2 : (r.rp p x).map (fun r' => Tree.N l r') = some t' := h2
    cases e : r.rp p x with
    | none => rw [e] at h2; cases h2
    | some r' =>
      rw [e] at h2
      cases h2
      exact hr _ _ _ (rp_rel hl hr r p u x r' h1 e h3)
theorem Tree.rwt_parts {on : Bool} {t t' : Tree} {p : List Bool} (h : t.rwt on p = some t') : ∃ u u', t.st p = some u ∧ u.r0 on = some u' ∧ t.rp p u' = some t' := by
  unfold rwt at h
  cases e : t.st p with
  | none => rw [e] at h; cases h
  | some u =>
    rw [e] at h
    have h : (u.r0 on).bind (fun u' => t.rp p u') = some t' := h
    cases e2 : u.r0 on with
    | none => rw [e2] at h; cases h
    | some u' =>
      rw [e2] at h
      exact ⟨u, u', rfl, e2, h⟩
theorem Tree.r0_ind {R : Tree → Tree → Prop} (he : ∀ a b c, R (.N a (.N b c)) (.N (.N a b) (.N a c))) (hc : ∀ a b c, R (.N (.N a b) (.N a c)) (.N a (.N b c))) : ∀ (on : Bool) (u u' : Tree), u.r0 on = some u' → R u u'
  | true, .N a (.N b c), u', h => by
    have h : some (Tree.N (.N a b) (.N a c)) = some u' := h
    cases h
    exact he a b c
  | true, .N a .L, u', h => by
    have h : (none : Option Tree) = some u' := h
    cases h
  | true, .L, u', h => by
    have h : (none : Option Tree) = some u' := h
    cases h
  | false, .N (.N a b) (.N a' c), u', h => by
    have h : (if a.eqb a' = true then some (Tree.N a (.N b c)) else none) = some u' := h
    by_cases e : a.eqb a' = true
    · rw [if_pos e] at h
      cases h
      rw [← eqb_eq e]
      exact hc a b c
    · rw [if_neg e] at h
      cases h
  | false, .N .L r, u', h => by
    have h : (none : Option Tree) = some u' := h
    cases h
  | false, .N (.N a b) .L, u', h => by
    have h : (none : Option Tree) = some u' := h
    cases h
  | false, .L, u', h => by
    have h : (none : Option Tree) = some u' := h
    cases h
/-- a relation that the steps keep -/
theorem Tree.rwt_ind {R : Tree → Tree → Prop} (he : ∀ a b c, R (.N a (.N b c)) (.N (.N a b) (.N a c))) (hc : ∀ a b c, R (.N (.N a b) (.N a c)) (.N a (.N b c))) (hl : ∀ a a' b, R a a' → R (.N a b) (.N a' b)) (hr : ∀ a b b', R b b' → R (.N a b) (.N a b')) {on : Bool} {t t' : Tree} {p : List Bool} (h : t.rwt on p = some t') : R t t' := by
  obtain ⟨u, u', h1, h2, h3⟩ := rwt_parts h
  exact rp_rel hl hr t p u u' t' h1 h3 (r0_ind he hc on u u' h2)
theorem Tree.rwt_dp {on : Bool} {t t' : Tree} {p : List Bool} (h : t.rwt on p = some t') : t'.dp ≤ t.dp + 1 := by
  refine rwt_ind (R := fun a b => b.dp ≤ a.dp + 1) ?_ ?_ ?_ ?_ h
  · intro a b c
    show max (max a.dp b.dp + 1) (max a.dp c.dp + 1) + 1 ≤ max a.dp (max b.dp c.dp + 1) + 1 + 1
    omega
  · intro a b c
    show max a.dp (max b.dp c.dp + 1) + 1 ≤ max (max a.dp b.dp + 1) (max a.dp c.dp + 1) + 1 + 1
    omega
  · intro a a' b h
    show max a'.dp b.dp + 1 ≤ max a.dp b.dp + 1 + 1
    omega
  · intro a b b' h
    show max a.dp b'.dp + 1 ≤ max a.dp b.dp + 1 + 1
    omega
theorem Tree.rwt_len {on : Bool} {t t' : Tree} {p : List Bool} (h : t.rwt on p = some t') : p.length ≤ t.dp := by
  obtain ⟨u, u', h1, _⟩ := rwt_parts h
  have := st_len t p u h1
  omega
inductive Stp : Tree → Tree → Prop
  | refl (t : Tree) : Stp t t
  | step {t u v : Tree} {on : Bool} {p : List Bool} : Stp t u → u.rwt on p = some v → Stp t v
theorem Stp.ind {R : Tree → Tree → Prop} (h0 : ∀ t, R t t) (h2 : ∀ a b c, R a b → R b c → R a c) (he : ∀ a b c, R (.N a (.N b c)) (.N (.N a b) (.N a c))) (hc : ∀ a b c, R (.N (.N a b) (.N a c)) (.N a (.N b c))) (hl : ∀ a a' b, R a a' → R (.N a b) (.N a' b)) (hr : ∀ a b b', R b b' → R (.N a b) (.N a b')) {t u : Tree} (h : Stp t u) : R t u := by
  induction h with
  | refl => exact h0 _
  | step _ h2' ih => exact h2 _ _ _ ih (Tree.rwt_ind he hc hl hr h2')
def spR0 (K : PySem.W.Frag) (on : Bool) : Sp := fun vs H Q _ => ∃ (v : V) (t : Tree), vs = [v] ∧ TA K H v t ∧ t.dp ≤ 60 ∧ (t.r0 on = none → ∀ H', Same H H' → Q .non H') ∧ ∀ u, t.r0 on = some u → ∀ (x : V) (H' : Hp), TA K H' x u → Same H H' → Q x H'
def spRwN (K : PySem.W.Frag) (n : Nat) : Sp := fun vs H Q _ => ∃ (v : V) (t : Tree) (p : List Bool) (on : Bool), vs = [v, .str (ptx p), .bl on] ∧ TA K H v t ∧ t.dp ≤ 60 ∧ p.length < n ∧ n ≤ 62 ∧ (t.rwt on p = none → ∀ H', Same H H' → Q .non H') ∧ ∀ u, t.rwt on p = some u → ∀ (x : V) (H' : Hp), TA K H' x u → Same H H' → Q x H'
def spFits (K : PySem.W.Frag) : Sp := fun vs H Q _ => ∃ (v : V) (t : Tree) (top : Int), vs = [v, .int top] ∧ TA K H v t ∧ t.dp ≤ 8 ∧ (∀ H', Same H H' → (t.sz : Int) ≤ top → t.dp ≤ 6 → Q (.bl true) H') ∧ ∀ H', Same H H' → Q (.bl false) H'
def StepAt (K : PySem.W.Frag) (H : Hp) (t : Tree) (v : V) : Prop := ∃ (q : Addr) (p : List Bool) (on : Bool) (t' : Tree), v = .ref q ∧ SqT K H q [.str (ptx p), .bl on] ∧ t.rwt on p = some t'
theorem StepAt.tp {K : PySem.W.Frag} {H H' : Hp} {t : Tree} {v : V} (e : Tp H H') (h : StepAt K H t v) : StepAt K H' t v := by
  obtain ⟨q, p, on, t', h1, h2, h3⟩ := h
  exact ⟨q, p, on, t', h1, e.sqT h2, h3⟩
def spStps (K : PySem.W.Frag) : Sp := fun vs H Q _ => ∃ (v : V) (t : Tree), vs = [v] ∧ TA K H v t ∧ t.dp ≤ 8 ∧ t.nodes ≤ 400 ∧ ∀ (l : Addr) (xs : List V) (H' : Hp), Same H H' → H l = none → H' l = some (.lst xs) → xs.length ≤ 1000 → (∀ x ∈ xs, StepAt K H' t x) → Q (.ref l) H'
def spRwd (K : PySem.W.Frag) : Sp := fun vs H Q _ => ∃ (r c : Addr) (v : V) (t : Tree) (turns top : Int), vs = [.ref r, v, .int turns, .int top] ∧ RngC H r c ∧ TA K H v t ∧ t.dp ≤ 6 ∧ t.sz ≤ 12 ∧ 0 ≤ turns ∧ turns ≤ 1000 ∧ top ≤ 12 ∧
  ∀ (x : V) (t' : Tree) (H' : Hp), TA K H' x t' → Stp t t' → t'.dp ≤ 6 → t'.sz ≤ 12 → (t' = t ∨ (t'.sz : Int) ≤ top) → RngC H' r c → But r H H' → Q x H'
/-! ### steps by numbers -/
theorem PoolA.inj {K : PySem.W.Frag} {C x d a b c : Addr} {H : Hp} {ts : List Tree} (p : PoolA K C x d a b c H ts) {t : Tree} {i j : Nat} (h1 : ts[i]? = some t) (h2 : ts[j]? = some t) : i = j := by
  obtain ⟨dx, es, ps, cs, _, _, _, _, _, _, _, _, g, _⟩ := p
  exact g.inj t i j h1 h2
theorem Tree.st_app : ∀ (t : Tree) (p q : List Bool), t.st (p ++ q) = (t.st p).bind fun u => u.st q
  | t, [], q => by rw [st_nil]; rfl
  | .L, b :: p, q => by cases b <;> rfl
  | .N l r, false :: p, q => st_app l p q
  | .N l r, true :: p, q => st_app r p q
def spPR (K : PySem.W.Frag) (C : Addr) (on : Bool) : Sp := fun vs H Q _ => ∃ (x d a b c : Addr) (m : Nat) (ts : List Tree) (t : Tree), vs = [.ref x, .int m] ∧ PoolA K C x d a b c H ts ∧ ts.length ≤ 900000 ∧ ts[m]? = some t ∧ t ≠ .L ∧ (t.r0 on = none → ∀ H', Same H H' → Q .non H') ∧
  ∀ u, t.r0 on = some u → ∀ (n : Nat) (ts' : List Tree) (H' : Hp), PoolA K C x d a b c H' ts' → Ex4 d a b c H H' → Pre ts ts' → ts'[n]? = some u → ts'.length ≤ ts.length + 3 → Q (.int n) H'
def spPW (K : PySem.W.Frag) (C : Addr) : Sp := fun vs H Q _ => ∃ (x d a b c : Addr) (m : Nat) (on : Bool) (ts : List Tree) (t : Tree), vs = [.ref x, .int m, .bl on] ∧ PoolA K C x d a b c H ts ∧ ts.length ≤ 900000 ∧ ts[m]? = some t ∧ (t.r0 on = none → ∀ H', Same H H' → Q .non H') ∧
  ∀ u, t.r0 on = some u → ∀ (n : Nat) (ts' : List Tree) (H' : Hp), PoolA K C x d a b c H' ts' → Ex4 d a b c H H' → Pre ts ts' → ts'[n]? = some u → ts'.length ≤ ts.length + 3 → Q (.int n) H'
abbrev jV (x : Nat) : V := V.int (x : Int)
def spAl8 (K : PySem.W.Frag) (C CP CN : Addr) : Sp := fun vs H Q E => ∃ (x d a b c : Addr) (m : Nat) (z : Str) (ts : List Tree) (t : Tree), vs = [.ref x, .int m, .str z] ∧ z.length ≤ 1000 ∧ PoolA K C x d a b c H ts ∧ ts[m]? = some t ∧
  ((okp z = false ∧ ∀ H', Same H H' → E (.ref CP) none H') ∨ ∃ p, z = ptx p ∧ p.length ≤ 60 ∧ (t.st p = none → ∀ H', Same H H' → E (.ref CN) none H') ∧
    ∀ u, t.st p = some u → ∀ (l : Addr) (ks : List Nat) (H' : Hp), Same H H' → H l = none → H' l = some (.lst (ks.map jV)) → ks.length = p.length + 1 → (∀ j u', j ≤ p.length → t.st (p.take j) = some u' → ∃ k, ks[j]? = some k ∧ ts[k]? = some u') → Q (.ref l) H')
def spRA (K : PySem.W.Frag) (C CP CN CR : Addr) : Sp := fun vs H Q E => ∃ (x d a b c : Addr) (m : Nat) (z : Str) (on : Bool) (ts : List Tree) (t : Tree), vs = [.ref x, .int m, .str z, .bl on] ∧ z.length ≤ 1000 ∧ PoolA K C x d a b c H ts ∧ ts.length ≤ 800000 ∧ ts[m]? = some t ∧
  ((okp z = false ∧ ∀ H', Same H H' → E (.ref CP) none H') ∨ ∃ p, z = ptx p ∧ p.length ≤ 60 ∧ (t.st p = none → ∀ H', Same H H' → E (.ref CN) none H') ∧ (∀ u, t.st p = some u → u.r0 on = none → ∀ H', Same H H' → E (.ref CR) none H') ∧
    ∀ t', t.rwt on p = some t' → ∀ (n : Nat) (ts' : List Tree) (H' : Hp), PoolA K C x d a b c H' ts' → Ex4 d a b c H H' → Pre ts ts' → ts'[n]? = some t' → Q (.int n) H')
/-- expand, contract -/
def spST (K : PySem.W.Frag) (CI CP CN CR : Addr) (on : Option Bool) : Sp := fun vs H Q E => ∃ (v : V) (d : PyData) (z : Str) (o : Bool), (vs = match on with | none => [v, .str z, .bl o] | some _ => [v, .str z]) ∧ (∀ b, on = some b → o = b) ∧ z.length ≤ 1000 ∧ NT K H v d ∧ ndD d ≤ 1000 ∧ (okd d = false → ∀ H', Same H H' → E (.ref CI) none H') ∧
  ∀ t : Tree, d = t.d → t.sz ≤ 12 → t.dp ≤ 6 → ((okp z = false ∧ ∀ H', Same H H' → E (.ref CP) none H') ∨ ∃ p, z = ptx p ∧ p.length ≤ 60 ∧ (t.st p = none → ∀ H', Same H H' → E (.ref CN) none H') ∧ (∀ u, t.st p = some u → u.r0 o = none → ∀ H', Same H H' → E (.ref CR) none H') ∧
    ∀ t', t.rwt o p = some t' → ∀ (x : V) (H' : Hp), Same H H' → TA K H' x t' → Q x H')
theorem Tree.rp_st (x : Tree) : ∀ (t : Tree) (p : List Bool) (u t' : Tree), t.st p = some u → t.rp p x = some t' → t'.st p = some x ∧ t'.rp p u = some t
  | t, [], u, t', h1, h2 => by
    rw [st_nil] at h1
    rw [rp_nil] at h2
    cases h1
    cases h2
    exact ⟨st_nil _, rp_nil _ _⟩
  | .L, _ :: _, _, _, h, _ => by cases h
  | .N l r, false :: p, u, t', h1, h2 => by
    have h2 : (l.rp p x).map (fun l' => Tree.N l' r) = some t' := h2
    cases e : l.rp p x with
    | none => rw [e] at h2; cases h2
    | some l' =>
      rw [e] at h2
      cases h2
      obtain ⟨a1, a2⟩ := rp_st x l p u l' h1 e
      refine ⟨a1, ?_⟩
      show (l'.rp p u).map (fun l' => Tree.N l' r) = _
      rw [a2]
      rfl
  | .N l r, true :: p, u, t', h1, h2 => by
    have h2 : (r.rp p x).map (fun r' => Tree.N l r') = some t' := h2
    cases e : r.rp p x with
    | none => rw [e] at h2; cases h2
    | some r' =>
      rw [e] at h2
      cases h2
      obtain ⟨a1, a2⟩ := rp_st x r p u r' h1 e
      refine ⟨a1, ?_⟩
      show (r'.rp p u).map (fun r' => Tree.N l r') = _
      rw [a2]
      rfl
theorem Tree.r0_back (on : Bool) : ∀ (u u' : Tree), u.r0 on = some u' → u'.r0 (!on) = some u := by
  cases on with
  | true =>
    intro u u' h
    match u, h with
    | .N a (.N b c), h =>
      have h : some (Tree.N (.N a b) (.N a c)) = some u' := h
      cases h
      show (if a.eqb a = true then some (Tree.N a (.N b c)) else none) = _
      rw [if_pos (eqb_refl a)]
    | .N a .L, h => exact nomatch (show (none : Option Tree) = some u' from h)
    | .L, h => exact nomatch (show (none : Option Tree) = some u' from h)
  | false =>
    intro u u' h
    match u, h with
    | .N (.N a b) (.N a' c), h =>
      have h : (if a.eqb a' = true then some (Tree.N a (.N b c)) else none) = some u' := h
      by_cases e : a.eqb a' = true
      · rw [if_pos e] at h
        cases h
        rw [← eqb_eq e]
        rfl
      · rw [if_neg e] at h
        cases h
    | .N .L r, h => exact nomatch (show (none : Option Tree) = some u' from h)
    | .N (.N a b) .L, h => exact nomatch (show (none : Option Tree) = some u' from h)
    | .L, h => exact nomatch (show (none : Option Tree) = some u' from h)
theorem Tree.rwt_back {on : Bool} {t t' : Tree} {p : List Bool} (h : t.rwt on p = some t') : t'.rwt (!on) p = some t := by
  obtain ⟨u, u', h1, h2, h3⟩ := rwt_parts h
  obtain ⟨a1, a2⟩ := rp_st u' t p u t' h1 h3
  unfold rwt
  rw [a1]
  show (u'.r0 (!on)).bind (fun x => t'.rp p x) = some t
  rw [r0_back on u u' h2]
  exact a2
theorem Tree.rwt_small {t t' : Tree} {p : List Bool} (h : t.rwt false p = some t') : t'.dp ≤ t.dp ∧ t'.sz ≤ t.sz := by
  obtain ⟨u, u', h1, h2, h3⟩ := rwt_parts h
  refine rp_rel (R := fun a b => b.dp ≤ a.dp ∧ b.sz ≤ a.sz) ?_ ?_ t p u u' t' h1 h3 ?_
  · intro a a' b h
    show max a'.dp b.dp + 1 ≤ max a.dp b.dp + 1 ∧ a'.sz + b.sz ≤ a.sz + b.sz
    omega
  · intro a b b' h
    show max a.dp b'.dp + 1 ≤ max a.dp b.dp + 1 ∧ a.sz + b'.sz ≤ a.sz + b.sz
    omega
  · have hb := r0_back false u u' h2
    match u', hb with
    | .N a (.N b c), hb =>
      have hb : some (Tree.N (.N a b) (.N a c)) = some u := hb
      cases hb
      show max a.dp (max b.dp c.dp + 1) + 1 ≤ max (max a.dp b.dp + 1) (max a.dp c.dp + 1) + 1 ∧ a.sz + (b.sz + c.sz) ≤ (a.sz + b.sz) + (a.sz + c.sz)
      omega
    | .N a .L, hb => exact nomatch (show (none : Option Tree) = some u from hb)
    | .L, hb => exact nomatch (show (none : Option Tree) = some u from hb)
def dueD (t : Tree) (p : List Bool) (on : Bool) : PyData := match t.st p with
  | none => eD 3
  | some _ => match t.rwt on p with
    | none => eD 4
    | some t' => tvD t'
/-- how a step came out -/
def Out (K : PySem.W.Frag) (G : Hp) (e : Addr) (t : Tree) (p : List Bool) (on : Bool) : Prop := (t.st p = none ∧ SqT K G e [.str (en 3), .non]) ∨ (∃ u, t.st p = some u ∧ u.r0 on = none ∧ SqT K G e [.str (en 4), .non]) ∨ ∃ (x : V) (t' : Tree), t.rwt on p = some t' ∧ SqT K G e [.str ("value" : Str), x] ∧ TA K G x t'
theorem Out.tp {K : PySem.W.Frag} {G G' : Hp} {e : Addr} {t : Tree} {p : List Bool} {on : Bool} (k : Tp G G') (h : Out K G e t p on) : Out K G' e t p on := by
  rcases h with ⟨h1, h2⟩ | ⟨u, h1, h2, h3⟩ | ⟨x, t', h1, h2, h3⟩
  · exact .inl ⟨h1, k.sqT h2⟩
  · exact .inr (.inl ⟨u, h1, h2, k.sqT h3⟩)
  · exact .inr (.inr ⟨x, t', h1, k.sqT h2, ta_mono k h3⟩)
theorem rwt_none {t : Tree} {p : List Bool} {on : Bool} {u : Tree} (h1 : t.st p = some u) (h2 : u.r0 on = none) : t.rwt on p = none := by
  unfold Tree.rwt
  rw [h1]
  show (u.r0 on).bind (fun u' => t.rp p u') = none
  rw [h2]
  rfl
theorem Out.dp {K : PySem.W.Frag} {G : Hp} {e : Addr} {t : Tree} {p : List Bool} {on : Bool} (h : Out K G e t p on) : Dp K G (.ref e) (dueD t p on) := by
  unfold dueD
  rcases h with ⟨h1, h2⟩ | ⟨u, h1, h2, h3⟩ | ⟨x, t', h1, h2, h3⟩
  · rw [h1]
    exact dp_eD h2
  · rw [h1, rwt_none h1 h2]
    exact dp_eD h3
  · obtain ⟨u, u', a1, _⟩ := Tree.rwt_parts h1
    rw [a1, h1]
    exact dp_tvD h2 h3
theorem due_ok {t : Tree} (p : List Bool) (on : Bool) (hd : t.dp ≤ 6) : SeqAt.shaped (dueD t p on) = true ∧ (dueD t p on).depth < 14 ∧ wide (dueD t p on) = true := by
  unfold dueD
  cases t.st p with
  | none => exact ⟨eD_shaped 3 (by decide), Nat.lt_of_lt_of_le (eD_depth 3 (by decide)) (by decide), eD_wide 3⟩
  | some u =>
    cases e : t.rwt on p with
    | none => exact ⟨eD_shaped 4 (by decide), Nat.lt_of_lt_of_le (eD_depth 4 (by decide)) (by decide), eD_wide 4⟩
    | some t' =>
      have := Tree.rwt_dp e
      refine ⟨tvD_shaped (by omega), ?_, tvD_wide t'⟩
      have e2 : (tvD t').depth = max (PyData.depth (.str ("value" : Str))) (max t'.d.depth 0) + 1 := rfl
      have e3 : PyData.depth (.str ("value" : Str)) ≤ 1 := by first | exact Nat.le_refl _ | exact Nat.zero_le _
      have e4 := t'.d_depth
      show (tvD t').depth < 14
      omega
def spDue (K : PySem.W.Frag) : Sp := fun vs H Q _ => ∃ (v : V) (t : Tree) (p : List Bool) (on : Bool), vs = [v, .str (ptx p), .bl on] ∧ TA K H v t ∧ t.dp ≤ 6 ∧ p.length ≤ 8 ∧ ∀ (x : V) (H' : Hp), Dp K H' x (dueD t p on) → Same H H' → Q x H'
structure Fr08 (K : PySem.W.Frag) (T : List (Addr × Str)) (r c : Addr) (v : V) (t : Tree) (l : Addr) (xs : List V) (G : Hp) : Prop where
  R : RngC G r c
  tb : LamX.Tabs T G
  a : TA K G v t
  L : G l = some (.lst xs)
theorem Fr08.same {K : PySem.W.Frag} {T : List (Addr × Str)} {r c l : Addr} {v : V} {t : Tree} {xs : List V} {G G' : Hp} (h : Fr08 K T r c v t l xs G) (s : Same G G') : Fr08 K T r c v t l xs G' := ⟨h.R.same s, tabs_same s h.tb, ta_mono (Tp.same s) h.a, s _ _ h.L⟩
theorem Fr08.extN {K : PySem.W.Frag} {T : List (Addr × Str)} {r c l : Addr} {v : V} {t : Tree} {xs : List V} {G G' : Hp} (h : Fr08 K T r c v t l xs G) (e : LamX.ExtN G G') (t' : LamX.Tabs T G') : Fr08 K T r c v t l xs G' := ⟨h.R.extN e, t', ta_mono (Tp.extN e) h.a, e _ _ h.L (fun _ => nofun)⟩
def PthV (x : V) : Prop := ∃ p : List Bool, x = .str (ptx p) ∧ p.length ≤ 8
theorem cutV_takeN {xs : List V} {k : Nat} : cutV xs none (some (k : Int)) = xs.take k := by
  unfold cutV
  rw [HT.sIx_none, HT.sIx_nat, List.drop_zero, Nat.sub_zero]
  rcases Nat.le_total k xs.length with h | h
  · rw [Nat.min_eq_left h]
  · rw [Nat.min_eq_right h, List.take_of_length_le (Nat.le_refl _), List.take_of_length_le h]
/-! ### the kinds of fields: 1 position, 2 name, 3 size, 4 row -/
def fk (j : Nat) : Nat := if [1, 9, 17].contains j then 1 else if [14, 15].contains j then 2 else if j = 5 then 3 else if j = 19 then 4 else 0
def fnm (n : Nat) : Str := if n = 1 then "position" else if n = 2 then "name" else if n = 3 then "size" else "row"
theorem fk_in3 : ∀ j, j < 20 → inV (.str (en j)) [.str (en 1), .str (en 9), .str (en 17)] = decide (fk j = 1) := by decide +kernel
theorem fk_in2 : ∀ j, j < 20 → inV (.str (en j)) [.str (en 14), .str (en 15)] = decide (fk j = 2) := by decide +kernel
theorem fk_big : ∀ j, j < 20 → decide (V.str (en j) = V.str (en 5)) = decide (fk j = 3) := by decide +kernel
theorem fk_row : ∀ j, j < 20 → decide (V.str (en j) = V.str (en 19)) = decide (fk j = 4) := by decide +kernel
theorem fk_none0 : ∀ j, j < 20 → decide (fk j = 1) = false → decide (fk j = 2) = false → decide (fk j = 3) = false → decide (fk j = 4) = false → fk j = 0 := by decide +kernel
theorem fk_none (j : Nat) (h : j < 20) (c1' : decide (fk j = 1) = false) (c2' : decide (fk j = 2) = false) (c3' : decide (fk j = 3) = false) (c4' : decide (fk j = 4) = false) : fk j = 0 := fk_none0 j h c1' c2' c3' c4'
/-! ### labels: texts as lists of signs -/
def sL (l : List Nat) : Str := ⟨l.toArray⟩
theorem sL_cps (l : List Nat) : (sL l).cps.toList = l := rfl
theorem sL_len (l : List Nat) : (sL l).length = l.length := rfl
theorem sL_app (a b : List Nat) : sL a ++ sL b = sL (a ++ b) := by
  show (⟨a.toArray ++ b.toArray⟩ : Str) = ⟨(a ++ b).toArray⟩
  congr 1
  apply Array.toList_inj.mp
  simp
theorem sL_eta (z : Str) : sL z.cps.toList = z := rfl
theorem sL_inj {a b : List Nat} (h : sL a = sL b) : a = b := by
  have e := congrArg (fun z : Str => z.cps.toList) h
  exact e
def nmV (n : List Nat) : V := .str (sL n)
def nmK (n : List Nat) : L2.Key := Sum.inr (sL n)
theorem nmK_inj {a b : List Nat} (h : nmK a = nmK b) : a = b := sL_inj (Sum.inr.inj h)
theorem inV_nm (n : List Nat) (kn : List (List Nat)) : inV (nmV n) (kn.map nmV) = decide (n ∈ kn) := by
  unfold inV
  induction kn with
  | nil => rfl
  | cons a r ih =>
    rw [List.map_cons, List.any_cons, ih]
    by_cases e : a = n
    · have z : eqV (nmV a) (nmV n) = true := by rw [e]; simp [nmV, eqV]
      rw [z, decide_eq_true (List.mem_cons.mpr (.inl e.symm)), Bool.true_or]
    · have z : eqV (nmV a) (nmV n) = false := by
        simp only [nmV, eqV]
        exact decide_eq_false fun z => e (sL_inj z)
      rw [z, Bool.false_or]
      refine decide_eq_decide.mpr ⟨fun h => List.mem_cons_of_mem _ h, fun h => ?_⟩
      rcases List.mem_cons.mp h with h | h
      · exact absurd h.symm e
      · exact h
theorem flat_nms : ∀ kn : List (List Nat), (kn.map nmV).all flatV = true
  | [] => rfl
  | _ :: r => flat_nms r
def Asc (l : List Nat) : Prop := ∀ c ∈ l, c < 128
theorem Asc.app {a b : List Nat} (h1 : Asc a) (h2 : Asc b) : Asc (a ++ b) := fun c hc => (List.mem_append.mp hc).elim (h1 c) (h2 c)
theorem Asc.cons {a : Nat} {b : List Nat} (h1 : a < 128) (h2 : Asc b) : Asc (a :: b) := fun c hc => by
  rcases List.mem_cons.mp hc with rfl | hc
  · exact h1
  · exact h2 c hc
theorem asc_nil : Asc [] := fun _ z => nomatch z
theorem asc_ok {l : List Nat} (h : Asc l) : PyData.canLay0 (.str (sL l)) = true := by
  show ((l.toArray).all fun c => decide (c < 0x110000)) = true
  rw [List.all_toArray]
  refine List.all_eq_true.mpr fun c hc => decide_eq_true ?_
  have := h c hc
  omega
theorem asc_all {ls : List (List Nat)} (h : ∀ l ∈ ls, Asc l) : PyData.canLayAll0 (ls.map fun l => PyData.str (sL l)) = true := by
  induction ls with
  | nil => rfl
  | cons l ls ih =>
    show (PyData.canLay0 (.str (sL l)) && PyData.canLayAll0 (ls.map fun l => PyData.str (sL l))) = true
    rw [asc_ok (h l List.mem_cons_self), ih fun x hx => h x (List.mem_cons_of_mem _ hx)]
    rfl
def strsD (ls : List (List Nat)) : PyData := .list (ls.map fun l => PyData.str (sL l))
theorem strs_depth (ls : List (List Nat)) : (strsD ls).depth ≤ 2 := by
  have e : PyData.depthAll (ls.map fun l => PyData.str (sL l)) ≤ 1 := by
    induction ls with
    | nil => exact Nat.zero_le _
    | cons l ls ih =>
      show max (PyData.depth (.str (sL l))) (PyData.depthAll (ls.map fun l => PyData.str (sL l))) ≤ 1
      have e3 : PyData.depth (.str (sL l)) ≤ 1 := by first | exact Nat.le_refl _ | exact Nat.zero_le _
      omega
  show PyData.depthAll (ls.map fun l => PyData.str (sL l)) + 1 ≤ 2
  omega
theorem strs_shaped {ls : List (List Nat)} (h : ∀ l ∈ ls, Asc l) : SeqAt.shaped (strsD ls) = true := by
  have e1 : (strsD ls).canLay0 = true := asc_all h
  have e2 := strs_depth ls
  unfold SeqAt.shaped
  rw [e1, decide_eq_true (by omega)]
  rfl
theorem strs_wide {ls : List (List Nat)} (h : ls.length ≤ 1000) : wide (strsD ls) = true := by
  have e : wideAll (ls.map fun l => PyData.str (sL l)) = true := by
    clear h
    induction ls with
    | nil => rfl
    | cons l ls ih =>
      show (wide (.str (sL l)) && wideAll (ls.map fun l => PyData.str (sL l))) = true
      rw [ih]
      rfl
  show (decide ((ls.map fun l => PyData.str (sL l)).length ≤ 1000) && wideAll (ls.map fun l => PyData.str (sL l))) = true
  rw [e, List.length_map, decide_eq_true h]
  rfl
theorem strs_dp {K : PySem.W.Frag} {H : Hp} {t : Addr} {ls : List (List Nat)} (h : SqL K H t (ls.map nmV)) : Dp K H (.ref t) (strsD ls) := by
  refine Dp.lst h ?_
  clear h
  induction ls with
  | nil => exact .nil
  | cons e ds ih => exact .cons (.str _) ih
theorem strs_eqv {ls : List (List Nat)} (h : ∀ l ∈ ls, Asc l) : PyData.eqv (strsD ls) (strsD ls) = true := SeqAt.eqv_refl _ (SeqAt.canLay_of_shaped (strs_shaped h))
def okNmV (v : V) : Prop := ∃ l : List Nat, v = nmV l ∧ l.length ≤ 100
/-! ### try: .. except (A, B): a suite that raises out -/
section TRYSEL
open PySem PySem.Spec PyProof.Rows L2 HotX L2H
theorem fly_push {B h h' : Heap} {l : List Env} {a : Addr} {Z : Obj → Prop} (k : ∀ b o, h.get? b = some o → h'.get? b = some o) (x : HandSPX.FlyingZ B l a Z h) : HandSPX.FlyingZ B l a Z h' := by
  obtain ⟨x1, x2, x3, oe, vs, T, oT, ts, e1, z, d1, f1, nb, ne, e2, d2, f2⟩ := x
  exact ⟨fun b o q => k b o (x1 b o q), x2, Heap.FunFrames.of_keeps (fun b o q _ => ⟨o, k b o q, rfl⟩) x3, oe, vs, T, oT, ts, k _ _ e1, z, d1, f1, nb, ne, k _ _ e2, d2, f2⟩
/-- the clause's test, asked of an exception of a class -/
def SelT (X : Cx) (te : Expr) (m : Value → Option Bool) : Prop := ∀ (a : Addr) (oe : Obj) (pn pins : List (Addr × Obj)) (σ : L2.St) (H : Hp) (s : Shared) (cls : Value) (b : Bool) (Q : Bool → Shared → Prop) (E : Value → Shared → Prop),
  Inv (X.suite a ((a, oe) :: pn)) pins σ H s → X.K.In s.heap → PySem.W.Looks (model X.prog X.w) s.heap (typeOf (.ref a)) cls → m cls = some b → (∀ h', (∀ q o, s.heap.get? q = some o → h'.get? q = some o) → Q b { s with heap := h' }) →
  wpAny (model X.prog X.w) (X.A.mark (some (.ref a))) (eval te X.env) (fun c s1 => wpAny (model X.prog X.w) (X.A.mark (some (.ref a))) (excMatches (.ref a) c) Q E s1) E s
theorem sel_name {X : Cx} {a : Addr} {oe : Obj} {pn pins : List (Addr × Obj)} {σ : L2.St} {H : Hp} {s : Shared} {x : Str} {np : Pos} {c : Value} {Q E : Value → Shared → Prop} (hc : Names X x c) (I : Inv (X.suite a ((a, oe) :: pn)) pins σ H s) (q : Q c s) :
    wpAny (model X.prog X.w) (X.A.mark (some (.ref a))) (eval (.Name x np) X.env) Q E s := by
  obtain ⟨g, db, hm | ⟨hm, hv, hn⟩⟩ := hc
  · exact ld_glob I g hm q db
  · exact ld_blt I g hm hv q hn db
theorem sel_tup2 {X : Cx} {x1 x2 : Str} {c1 c2 : Value} {p1 p2 tp : Pos} {kk : Nat} (n1 : Names X x1 c1) (n2 : Names X x2 c2) : SelT X (.Tuple [.Name x1 p1, .Name x2 p2] kk tp) fun cls => PySem.W.exmAny X.K cls [c1, c2] := by
  intro a oe pn pins σ H s cls b Q E I KI LT hm q
  refine wpAny_Tuple (wpAny_items_cons (sel_name n1 I (wpAny_items_cons (sel_name n2 I (wpAny_items_nil ⟨by size_fits, ?_⟩)))))
  have k : ∀ z o, s.heap.get? z = some o → (s.heap.push { cls := .type "tuple", data := .seq [c1, c2].toArray }).get? z = some o := fun _ _ => Heap.get?_push_of_some _
  exact (PySem.W.exm_tup2 (KI.keeps k) (LT.keeps k) (Heap.get?_push_size s.heap rfl) hm).here (q _ k)
theorem sel_tup3 {X : Cx} {x1 x2 x3 : Str} {c1 c2 c3 : Value} {p1 p2 p3 tp : Pos} {kk : Nat} (n1 : Names X x1 c1) (n2 : Names X x2 c2) (n3 : Names X x3 c3) : SelT X (.Tuple [.Name x1 p1, .Name x2 p2, .Name x3 p3] kk tp) fun cls => PySem.W.exmAny X.K cls [c1, c2, c3] := by
  intro a oe pn pins σ H s cls b Q E I KI LT hm q
  refine wpAny_Tuple (wpAny_items_cons (sel_name n1 I (wpAny_items_cons (sel_name n2 I (wpAny_items_cons (sel_name n3 I (wpAny_items_nil ⟨by size_fits, ?_⟩)))))))
  have k : ∀ z o, s.heap.get? z = some o → (s.heap.push { cls := .type "tuple", data := .seq [c1, c2, c3].toArray }).get? z = some o := fun _ _ => Heap.get?_push_of_some _
  exact (PySem.W.exm_tup3 (KI.keeps k) (LT.keeps k) (Heap.get?_push_size s.heap rfl) hm).here (q _ k)
/-- what such a clause wishes of an exception of the body -/
def wSel (m : Value → Option Bool) (ts : Addr → Value → Option Addr → TS) (Wout : WX) (D : Ends) : WX := fun cls d σ H => ∃ b, m cls = some b ∧ (b = true → ∀ a, H a = none → ts a cls d D σ H) ∧ (b = false → Wout cls d σ H)
theorem ps_try_sel {X : Cx} {te : Expr} {m : Value → Option Bool} {body suite : List Stmt} {b₀ : Stmt} {pos pos' : Pos} {tb : WX → TS} {ts : Addr → Value → Option Addr → TS} {Wout : WX} (hs : X.stack = X.env :: X.outer) (hf : X.env.frame = some X.env.locals) (ht : SelT X te m)
    (hpa : ∀ hd : Option Value, PassesOwnAt (model X.prog X.w) (X.A.mark hd) X.A X.env X.xe) (tk : L2C.Takes X Wout)
    (hb : ∀ (W : WX) (pn : List (Addr × Obj)) (xe : Value → Shared → Prop), L2N.Takes (X.tr pn xe) W → PassesOwn (model X.prog X.w) X.A X.env xe → PSs (X.tr pn xe) body (tb W))
    (hsu : ∀ (a : Addr) (oe : Obj) (cls : Value) (d : Option Addr) (pn : List (Addr × Obj)), L2C.Takes (L2H.suiteX X a ((a, oe) :: pn)) Wout → HotC (L2H.suiteX X a ((a, oe) :: pn)) → PSs (L2H.suiteX X a ((a, oe) :: pn)) (b₀ :: suite) (ts a cls d)) :
    PS X (.Try body [.ExceptHandler (some te) none (b₀ :: suite) pos'] [] [] pos) (fun D σ H => tb (wSel m ts Wout D) D σ H) := by
  refine ⟨fun pins s σ H D I h => ?_⟩
  have ok := I.ok
  have fr : X.A.frames = some (X.env :: X.outer) := by rw [ok.frames, hs]
  refine wpAny_Try_except (wpAny_mono ((hb (wSel m ts Wout D) (X.pn ++ pins) (fun e s₁ => wpAny (model X.prog X.w) X.A (noteFrame e X.env) (fun _ s₂ => wpAny (model X.prog X.w) X.A (setFlight e none) (fun _ s₃ => wpAny (model X.prog X.w) X.A (handleBy e X.env [.ExceptHandler (some te) none (b₀ :: suite) pos']) (SP X pins D) X.xe s₃) X.xe s₂) X.xe s₁) (fun u s' xx => ?_) PassesOwn.looking).run [] s σ H D (I.toTry _) h) (fun f s1 hsp => ?_) fun e s1 he => he)
  · obtain ⟨a, B, sI, _, σ', H', cls, d, rfl, JT, nb, up, sky, na, os, ag, b, hm, hyes, hno⟩ := xx
    have J : Inv X pins σ' H' sI := JT.ofTry ok
    show wpAny (model X.prog X.w) X.A (noteFrame (.ref a) X.env) _ _ _
    refine L2N.Sky.land L2N.Zn.steady fr hf (show Sky B (X.env :: X.outer) a (L2N.Zn cls d) X.env.locals s'.heap by rw [← hs]; exact sky) fun g1 fl1 up1 => ?_
    obtain ⟨o1, w1, eo1, z1, d1⟩ := fl1.there
    have offF : ∀ {B2 h2 : Heap} {o2 : Obj} {w2 : Array Value}, h2.FunFrames B2 (X.env :: X.outer) → h2.get? a = some o2 → o2.data = .fields w2 → a ∉ frs (X.env :: X.outer) := fun ff eq dq hq => by
      obtain ⟨_, o', e', hd'⟩ := ff.mem hq
      rw [eq] at e'
      cases e'
      exact hd' _ dq
    have off := offF fl1.2.2.1 eo1 d1
    have offL : a ≠ X.env.locals := fun z => off (List.mem_filterMap.mpr ⟨X.env, List.mem_cons_self, by rw [hf, z]⟩)
    have offS : a ∉ X.fs := fun hq => by
      obtain ⟨e, he, hq⟩ := List.mem_filterMap.mp hq
      exact off (List.mem_filterMap.mpr ⟨e, List.mem_cons_of_mem _ he, hq⟩)
    have J1 : Inv X pins σ' H' { s' with heap := g1 } := J.landed nb fl1.1 (up.trans up1) os ag
    have LT : PySem.W.Looks (model X.prog X.w) g1 (typeOf (.ref a)) cls := fun A Q E s k q => wpAny_typeOf_ref (k _ _ eo1) (by rw [z1.1]; exact q)
    refine wpAny_handleBy_cons (codeAny_handlers_test (ht a o1 (X.pn ++ pins) _ _ _ _ cls b _ _ (J1.suite eo1 d1 na offL offS) J1.kIn LT hm fun g2 k2 => ?_)) (by intro q; cases q)
    have fl2 := fly_push k2 fl1
    have up2 : sI.heap.UpToSlots g2 := (up.trans up1).trans (Heap.UpToSlots.of_keeps k2)
    cases b with
    | true =>
      refine codeAny_handlers_suite (HandSPX.lands_againZ fl2 fun g3 fl3 up3 => ?_)
      obtain ⟨o3, w3, eo3, z3, d3⟩ := fl3.there
      have S3 := (J.landed (s' := { s' with heap := g3 }) nb fl3.1 (up2.trans up3) os ag).suite eo3 d3 na offL offS
      have tkS : L2C.Takes (L2H.suiteX X a ((a, o3) :: (X.pn ++ pins))) Wout := fun u4 s4 x4 => by
        obtain ⟨a4, B4, sI4, pn4, σ4, H4, cls4, d4, e4, I4, nb4, up4, sky4, na4, os4, ag4, w4⟩ := x4
        exact tk u4 s4 ⟨a4, B4, sI4, pins, σ4, H4, cls4, d4, e4, L2H.unsuiteX I4 ok, nb4, up4, sky4, na4, os4, ag4, w4⟩
      refine wpAny_mono ((hsu a o3 cls d (X.pn ++ pins) tkS ⟨(a, o3), ⟨rfl, w3, d3, z3.2.2 w3 d3⟩, List.mem_cons_self⟩).run [] _ _ H' _ (L2H.suiteX_of S3) (hyes rfl a na)) (fun f s6 hq => ?_) fun e6 s6 z => hpa (some (.ref a)) e6 s6 z
      cases f with
      | next => exact hq.elim fun σ6 y => y.elim fun H6 y => ⟨σ6, H6, L2H.unsuiteX y.1 ok, y.2⟩
      | brk => exact hq.elim fun σ6 y => y.elim fun H6 y => ⟨σ6, H6, L2H.unsuiteX y.1 ok, y.2⟩
      | cont => exact hq.elim fun σ6 y => y.elim fun H6 y => ⟨σ6, H6, L2H.unsuiteX y.1 ok, y.2⟩
      | ret u => exact hq.elim fun v6 y => y.elim fun σ6 y => y.elim fun H6 y => ⟨v6, σ6, H6, L2H.unsuiteX y.1 ok, y.2⟩
    | false =>
      show wpAny _ X.A (handleBy (.ref a) X.env []) _ _ _
      refine wpAny_handleBy_nil ?_
      have flc : HandSPX.FlyingZ B (X.env :: X.outer) a (L2C.Zx B H' cls d) g2 := ⟨fl2.1, fl2.2.1, fl2.2.2.1, L2C.traced_imp (fun o => L2C.zx_ofN) fl2.2.2.2⟩
      obtain ⟨_, _, _, oe, vs, T, oT, ts', he, hz, hd, h1, hr⟩ := id flc
      unfold PySem.passOn
      refine wpAny_bind (wpAny_field he hd h1 ?_)
      rw [if_neg (show ¬ ((Value.ref T == Value.none) = true) by simp)]
      have fin : wpAny (model X.prog X.w) X.A (setFlight (.ref a) X.env.frame) (fun _ s4 => wpAny (model X.prog X.w) X.A (throw (.ref a) : Sem Flow) (SP X pins D) X.xe s4) X.xe { s' with heap := g2 } := by
        rw [hf]
        exact HandSPX.setFlight_upZ flc fun g4 hh4 up4 => wpAny_throw (tk _ _ ⟨a, B, sI, pins, σ', H', cls, d, rfl, J, nb, up2.trans up4, .inr (.inr (by rw [hs]; exact hh4)), na, os, ag, hno rfl⟩)
      first | exact wpAny_bind (wpAny_pure (wpAny_bind fin)) | exact wpAny_bind fin
  · cases f with
    | next => exact hsp.elim fun σ6 y => y.elim fun H6 y => wpAny_execs_nil ⟨σ6, H6, y.1.ofTry ok, y.2⟩
    | brk => exact hsp.elim fun σ6 y => y.elim fun H6 y => ⟨σ6, H6, y.1.ofTry ok, y.2⟩
    | cont => exact hsp.elim fun σ6 y => y.elim fun H6 y => ⟨σ6, H6, y.1.ofTry ok, y.2⟩
    | ret u => exact hsp.elim fun v6 y => y.elim fun σ6 y => y.elim fun H6 y => ⟨v6, σ6, H6, y.1.ofTry ok, y.2⟩
/-- a new exception, its context on the ground, is in our air -/
theorem xe_newC {X : Cx} {W : WX} {pins : List (Addr × Obj)} {σ : L2.St} {H : Hp} {sI s' : Shared} {a : Addr} {oe : Obj} {vs : Array Value} {cls : Value} {d : Option Addr} (I : Inv X pins σ H sI) (k : ∀ b o, sI.heap.get? b = some o → s'.heap.get? b = some o) (fr : sI.heap.get? a = none) (he : s'.heap.get? a = some oe)
    (hcl : oe.cls = cls) (hdi : oe.dict = d) (hd : oe.data = .fields vs) (h1 : vs[1]? = some .none) (cx : HotY.Ctx2 (fun y oy => sI.heap.get? y = some oy ∧ H y = none ∧ y ∉ frs X.stack) vs[2]?) (na : H a = none) (os : s'.os = sI.os) (ag : AllBare s'.gens) (w : W cls d σ H) : L2C.XE X W (.ref a) s' := by
  have off : (PySem.W.hideAll sI.heap (frs X.stack)).get? a = none := by
    cases q : (PySem.W.hideAll sI.heap (frs X.stack)).get? a with
    | none => rfl
    | some o => exact absurd ((PySem.W.of_hideAll _ q).symm.trans fr) (by simp)
  refine ⟨a, PySem.W.hideAll sI.heap (frs X.stack), sI, pins, σ, H, cls, d, rfl, I, fun b o e m => PySem.W.hideAll_get _ e m, Heap.UpToSlots.of_keeps k, .inl ⟨fun b o e => k b o (PySem.W.of_hideAll _ e), off, ?_, oe, vs, he, ⟨hcl, hdi, fun vs2 e2 => ?_⟩, hd, h1⟩, na, os, ag, w⟩
  · exact Heap.FunFrames.of_keeps (fun b o e _ => ⟨o, k b o e, rfl⟩) (funFrames_none I.stack fun b m => PySem.W.hideAll_none _ m)
  · rw [hd] at e2
    cases e2
    exact cx.imp fun y oy z _ => ⟨PySem.W.hideAll_get _ z.1 z.2.2, z.2.1⟩
/-- raise X(..) from None in an except suite: the handled one becomes its context -/
theorem ps_raiseHC {X : Cx} {W : WX} {e : Expr} {t : L2.St → Hp → XK → Prop} {j : Nat} {cpos pos : Pos} (hc : HotC X) (tk : L2C.Takes X W) (he : PMk5 X e t) :
    PS X (.Raise (some e) (some (.Constant .none j cpos)) pos) (fun _ σ H => t σ H fun cls d H' => W cls d σ H') := by
  refine ⟨fun pins s σ H D I h => ?_⟩
  obtain ⟨p, ⟨ph, pv, pe, pc⟩, pm⟩ := hc
  show wpAny _ _ (do standAt pos; raiseStmt X.env (some (do let v ← eval e X.env; standAt pos; pure v)) (some (do let v ← eval (.Constant .none j cpos) X.env; standAt pos; pure v))) _ _ _
  refine wpAny_bind (wpAny_standAt (raise_made_hotN (x1 := p.1) (fun s2 Q2 q2 => wpAny_bind (Constant_none (wpAny_bind (wpAny_standAt (wpAny_pure q2))))) (wpAny_bind (wpAny_mono (he pins s σ H _ I h) (fun u s1 hu => wpAny_bind (wpAny_standAt (wpAny_pure ?_))) fun _ _ x => x))))
  obtain ⟨⟨a, oe, vs, sI, H', cls, d, rfl, J, k, fr, ha, hz, hd, h1, na, os, ag, r, q⟩, six⟩ := hu
  have big : 4 < vs.size := six a oe vs rfl ha hd
  have ne : ∀ {b u}, sI.heap.get? b = some u → a ≠ b := fun z y => by
    rw [← y, fr] at z
    cases z
  have kN : ∀ b u, sI.heap.get? b = some u → (noneFrom s1.heap a).get? b = some u := fun b u z => (noneFrom_other (ne z)).trans (k b u z)
  obtain ⟨p1, p2, p3, p4, _⟩ := J.pin p (List.mem_append_left _ pm)
  obtain ⟨aN, dN⟩ := noneFrom_at ha hd
  have rD := Obj.data_mapFields dN (·.setIfInBounds 2 (Value.ref p.1))
  have c1 : (((vs.setIfInBounds 3 Value.none).setIfInBounds 4 (Value.bool true)).setIfInBounds 2 (Value.ref p.1))[1]? = some Value.none := set_other (by decide) (set_other (by decide) (set_other (by decide) h1))
  have c2 : (((vs.setIfInBounds 3 Value.none).setIfInBounds 4 (Value.bool true)).setIfInBounds 2 (Value.ref p.1))[2]? = some (Value.ref p.1) := by
    rw [Array.getElem?_setIfInBounds_self_of_lt (by rw [set_size, set_size]; omega)]
  refine ⟨a, oe, vs, cls, rfl, ha, hz.1, hd, h1, big, (ne p1).symm, ⟨ph, p.2, pv, k _ _ p1, pe, pc⟩, (r (model X.prog X.w) s1.heap (J.kIn.keeps k)).1, (r (model X.prog X.w) (noneFrom s1.heap a) (J.kIn.keeps kN)).2, tk _ _ (xe_newC J (fun b u z => ?_) fr (Heap.get?_update_self _ aN (Obj.isFreed_of_fields rD)) ?_ ?_ rD c1 (.inr ⟨p.1, p.2, pv, c2, ⟨p1, p2, fun z => (List.mem_cons.mp (J.stkSub p.1 z)).elim p3 p4⟩, pe, pc⟩) na os ag q)⟩
  · show ((noneFrom s1.heap a).update a (Obj.mapFields (·.setIfInBounds 2 (.ref p.1)))).get? b = some u
    rw [Heap.get?_update_other _ _ (ne z)]
    exact kN b u z
  · rw [Obj.cls_mapFields, Obj.cls_mapFields, Obj.cls_mapFields]
    exact hz.1
  · rw [HandSPX.dict_mapFields, HandSPX.dict_mapFields, HandSPX.dict_mapFields]
    exact hz.2.1
end TRYSEL
section OPNH
open PySem PySem.Spec PyProof.Rows L2 HotX L2H
/-! ### such an __init__ while an exception is handled -/
def cxSH (CX : CXT) (P : Program) (w : World) (K : PySem.W.Frag) (mg : Str → Option Value) (base : Heap) (N : List Str) (qual : Str) (scope : Scope) (f : Addr) (cd : Value) (cc : Addr) (A : Around) (outer : List Env) (s : Shared) (H : Hp) (E : XK) (pH : Addr × Obj) : Cx := { cxS CX P w K mg base N qual scope f cd cc A outer s H E with calm := false, pn := [pH] }
theorem inv_startSH {CX : CXT} {P : Program} {w : World} {K : PySem.W.Frag} {mg : Str → Option Value} {base : Heap} {ps : List Str} {qual : Str} {scope : Scope} {f cc D : Addr} {cd cl : Value} {cld : Option Addr} {csl : Array (Option Value)} {A : Around} {outer : List Env} {s : Shared} {h1 : Heap} {tk : Nat} {H : Hp} {E : XK} {us : List Value} {vs : List V}
    (S : SupScope ps scope) (hcell : K.lookup cc = some ⟨cl, cld, .cell (some (.ref D)), csl⟩) {pH : Addr × Obj} (hpin : PinOk outer H s pH) (e0 : Env0 P w K mg base A outer s H) (hl : vs.length = ps.length) (r : Vals vs us)
    (ns : h1.Ns s.heap.objs.size (fun x => (ps.zip us).reverse.lookup x)) (hk : ∀ b o, s.heap.get? b = some o → h1.get? b = some o) :
    Inv (cxSH CX P w K mg base ps qual scope f cd cc A outer s H E pH) [] (vs.map some) H { s with heap := h1, toks := tk } := by
  have KX : K.In s.heap := e0.mod.kin.keeps fun b o e => (e0.bs b o e).1
  have noA : ∀ b : Addr, b ∉ (cxSH CX P w K mg base ps qual scope f cd cc A outer s H E pH).ex := fun b z => absurd (show b ∈ ([] : List Addr) from z) (by simp)
  have look1 : ∀ y c, (cxSH CX P w K mg base ps qual scope f cd cc A outer s H E pH).env.cells.lookup y = some c → y = ("__class__" : Str) ∧ c = cc := fun y c h => by
    have h : List.lookup y [(("__class__" : Str), cc)] = some c := h
    rw [List.lookup_cons] at h
    by_cases q : (y == ("__class__" : Str)) = true
    · rw [q] at h
      exact ⟨eq_of_beq q, (Option.some.inj h).symm⟩
    · rw [Bool.not_eq_true] at q
      rw [q] at h
      cases h
  have base0 : base.get? cc = some ⟨cl, cld, .cell (some (.ref D)), csl⟩ := e0.mod.kin _ _ hcell
  refine ⟨⟨e0.mod, S.kind, rfl, rfl, Nat.le_refl _, fun y z c h1 h2 => ?_, fun y hy => ?_, fun y c h => ?_, (fun z => Bool.noConfusion (show false = true from z)), Around.frames_deeper e0.frames, .inr ⟨rfl, rfl⟩, fun b z => absurd z (noA b), e0.bs, e0.bsz, fun b _ _ => noA b, fun b z => absurd z (noA b), e0.funs, e0.frf⟩,
    rfl, e0.bare, Un.kept hk, ⟨_, ns, fun i y v h1 h2 h3 => ?_⟩, fun y c h => ?_, e0.hok.fresh (Nat.le_refl _), fun y c h => ?_, fun q hq => ?_, e0.hok.kept hk, ?_⟩
  · rw [(look1 _ _ h1).1, (look1 _ _ h2).1]
  · have hy : scope.names.lookup y = some .cell ∨ scope.names.lookup y = some .free := hy
    rcases hy with hy | hy
    · exact absurd rfl (S.noc _ (PySem.mem_of_lookup hy))
    · exact ⟨cc, by rw [S.fre _ hy]; rfl⟩
  · exact nomatch h
  · have ha : vs[i]? = some v := by
      rw [List.getElem?_map] at h2
      cases e : vs[i]? with
      | none => rw [e] at h2; cases h2
      | some a => rw [e] at h2; cases h2; rfl
    obtain ⟨u, hu, rv⟩ := r.get ha
    have hp : ps[i]? = some y := h1
    refine ⟨u, rv, .inl ⟨S.par y (List.mem_of_getElem? hp), ?_⟩⟩
    exact rev_lookup S.nd hp hu
  · obtain ⟨rfl, rfl⟩ := look1 _ _ h
    exact ⟨_, _, hk _ _ (KX _ _ hcell), rfl⟩
  · obtain ⟨rfl, rfl⟩ := look1 _ _ h
    exact (e0.bs _ _ base0).2
  · have eq : q = pH := by simpa using (show q ∈ [pH] ++ ([] : List (Addr × Obj)) from hq)
    rw [eq]
    exact ⟨hk pH.1 pH.2 hpin.get, hpin.free, Nat.ne_of_lt (Heap.lt_size hpin.get), hpin.nofs, hpin.nocell⟩
  · show (vs.map some).length = ps.length
    rw [List.length_map, hl]
open PySem.W in
theorem ok_supH {CX : CXT} {P : Program} {w : World} {K : PySem.W.Frag} {mg : Str → Option Value} {base : Heap} {f cda cc C : Addr} {name qual sf xn fld file : Str} {params : Arguments} {scope : Scope} {dV kV doc pm ct oc cl ccl : Value} {an od cld cdd : Option Addr} {osl csl ccs : Array (Option Value)} {cvs : Array Value} {tf : Tok} {ar : Arg} {e : Expr} {okv : V → Prop} {p0 p1 p2 p3 p4 q1 q2 q3 q4 : Pos}
    (lk : K.lookup f = some ⟨oc, od, .func (ksFn name qual params [.Expr (.Call (.Attribute (.Call (.Name ("super" : Str) p0) [] [] p1) ("__init__" : Str) p2) [e] [] p3) p4, .Assign [.Attribute (.Name sf q1) fld q2] (.Name xn q3) q4] scope dV kV doc pm an (.ref cda) ct cc), osl⟩)
    (hcd : codeIn K (.ref cda) qual = true) (S : SupScope [sf, xn] scope) (hp : (params.posonlyargs ++ params.args).head? = some ar) (har : ar.arg = sf)
    (hcode : K.lookup cda = some ⟨ccl, cdd, .fields cvs, ccs⟩) (hvs : cvs[2]? = some (.str file tf)) (hfile : ((P.main.file : Str) == file) = true) (htop : (P.main.scope.names.lookup ("super" : Str)).isSome = false)
    (hcell : K.lookup cc = some ⟨cl, cld, .cell (some (.ref C)), csl⟩) (T : OexC K C) (hsub : mroIn K C (.ref C) = some true) (hsuper : mg ("super" : Str) = none) (ho : nsIn K cStatics "thirdparty.any" = some none)
    (hm : ks_superIn K C C "__init__" = some (some (.builtin "ValueError.__init__"))) (hB : subIn K (.ref C) (.type "ValueError") = some true) (hno : findIn K (.ref C) fld = some none)
    (he : ∀ (A : Around) (outer : List Env) (s : Shared) (H : Hp) (E : XK) (pH : Addr × Obj) (a : Addr) (v : V), HotC (cxSH CX P w K mg base [sf, xn] qual scope f (.ref cda) cc A outer s H E pH) → okv v → ∃ ta, PA (cxSH CX P w K mg base [sf, xn] qual scope f (.ref cda) cc A outer s H E pH) [e] ta ∧ ta [some (.ref a), some v] H fun ws H2 => ws.length ≤ 1000 ∧ H2 = H)
    (hev : ∀ env : Env, ∃ pl : Sem Bool, eval (.Call (.Attribute (.Call (.Name ("super" : Str) p0) [] [] p1) ("__init__" : Str) p2) [e] [] p3) env = (do
      let ov ← attributeBase (.Call (.Name ("super" : Str) p0) [] [] p1) ("__init__" : Str) env (eval (.Call (.Name ("super" : Str) p0) [] [] p1) env)
      standAt p2.atName
      let (f, first) ← holding [ov] (getMethod ov ("__init__" : Str) pl)
      callWith p3 f first (backTo p3 (starEach [e] env)) []) := by exact fun _ => ⟨_, rfl⟩)
    (hsw : ∀ env : Env, swapsWith (.Call (.Attribute (.Call (.Name ("super" : Str) p0) [] [] p1) ("__init__" : Str) p2) [e] [] p3) none p4.line env = pure false := by exact fun _ => rfl)
    (hstar : ∀ env, starEach [e] env = [(false, eval e env)] := by exact fun _ => rfl) (hsw2 : ∀ env : Env, swapsWith (.Name xn q3) (some (.Attribute (.Name sf q1) fld q2)) q4.line env = pure false := by exact fun _ => rfl)
    (n1 : (sf == ("__debug__" : Str)) = false := by decide) (n2 : (sf == ("__classdict__" : Str)) = false := by decide) (n3 : (xn == ("__debug__" : Str)) = false := by decide) (n4 : (xn == ("__classdict__" : Str)) = false := by decide) :
    FnH P w K mg base CX 1 f (ksFn name qual params [.Expr (.Call (.Attribute (.Call (.Name ("super" : Str) p0) [] [] p1) ("__init__" : Str) p2) [e] [] p3) p4, .Assign [.Attribute (.Name sf q1) fld q2] (.Name xn q3) q4] scope dV kV doc pm an (.ref cda) ct cc) [sf, xn] (spS C fld okv) := by
  refine ⟨fun vs H Q E h => ?_, fun A outer s H args us vs Q E pH hr hot hpin e0 hb r hsp => ?_⟩
  · obtain ⟨_, _, rfl, _⟩ := h
    rfl
  obtain ⟨a, v, rfl, ha, hv, q⟩ := hsp
  have KX : K.In s.heap := e0.mod.kin.keeps fun b o e => (e0.bs b o e).1
  have lim : s.heap.NoLimit := e0.mod.nolimit.keeps fun b o e => (e0.bs b o e).1
  have hloc : ∀ y ∈ [sf, xn].zip us, scope.names.lookup y.1 = some .local := fun ⟨n, v⟩ hy => S.par n (List.of_mem_zip hy).1
  refine ks_codeAny_call_defAt (body := [.Expr (.Call (.Attribute (.Call (.Name ("super" : Str) p0) [] [] p1) ("__init__" : Str) p2) [e] [] p3) p4, .Assign [.Attribute (.Name sf q1) fld q2] (.Name xn q3) q4]) (binds := [sf, xn].zip us) hr.depth (KX _ _ lk) rfl lim (codeRec_of KX hcd) rfl hb S.noc hloc (fun h1 hns hk => ?_) S.co S.gen S.kind
  have I := inv_startSH (CX := CX) (qual := qual) (f := f) (cd := .ref cda) (tk := s.toks + ([sf, xn].zip us).length) (E := E) S hcell hpin e0 rfl r hns hk
  obtain ⟨ta, hpa, hta⟩ := he A outer s H E pH a v ⟨pH, hot, List.mem_cons_self⟩ hv
  obtain ⟨u, rfl, ru⟩ : ∃ u, us = [.ref a, u] ∧ RelV v u := by
    cases r with
    | cons r1 r2 =>
      cases r2 with
      | cons r3 r4 =>
        cases r4
        obtain rfl := (show _ = Value.ref a from r1)
        exact ⟨_, rfl, r3⟩
  have hz : ([sf, xn].zip [Value.ref a, u]).reverse.lookup sf = some (.ref a) := rev_lookup (i := 0) S.nd rfl rfl
  obtain ⟨mb, b1, b2⟩ := I.mod.blt
  obtain ⟨nm, qn, N, bs, bm, sn, sub, ab, col, dd, k0, k1, k2, k3, k5, hC, hbm⟩ := id T.cls
  have hcl : clsIn K C = some { name := nm, bases := bs, mro := .ref C :: bm, ns := N, qualname := qn, hasDict := true, slotNames := sn, subclasses := sub, abstract := ab, collection := col, hasDel := false } := by unfold clsIn; rw [hC] <;> rfl
  have hD1 := I.kIn _ _ hC
  obtain ⟨t1, ho1⟩ := exo_at I.hok ha
  obtain ⟨pl, hev1⟩ := hev (ksEnv qual scope s.heap.objs.size f (.ref cda) cc)
  refine ks_wpAt_execs_cons (ks_wpAt_Expr_any (ks_wpAt_MethodCall (pl := pl) ?_ hev1) (by show (scope.kind == .module && _) = false; rw [S.kind]; rfl) (hsw _))
  refine ks_wpAt_super_base (env := ksEnv qual scope s.heap.objs.size f (.ref cda) cc) S.sup S.cls (by decide) rfl (I.kIn _ _ lk) rfl hp rfl (I.kIn _ _ hcode) rfl hvs hfile htop ?_
  refine ks_loadName_global S.kind S.sup (Calls.loadGlobal_builtin (env := ksEnv qual scope s.heap.objs.size f (.ref cda) cc) (I.mod.glob.keeps I.bk) hsuper (b1.keeps I.bk) ((b2 _ (by decide)).trans PyProof.Rows.Boot.«super») ⟨rfl, ?_⟩)
  refine wpAny_loadName_free S.kind S.cls rfl ⟨_, I.kIn _ _ hcell, rfl⟩ ?_
  refine wpAny_loadName_local S.kind (by rw [har]; exact S.par sf (by simp)) hns (by rw [har]; exact hz) ?_
  refine ks_wpAny_isType_cls hD1 rfl ⟨rfl, ?_⟩
  refine ks_wpAny_call_super hD1 rfl ho1 rfl (fun c z => nomatch z) (looks_mroIn I.kIn hsub) (fun h2 e2 k2 => ?_)
  have I2 := I.kept (t' := s.toks + ([sf, xn].zip [Value.ref a, u]).length) k2
  have inst : InstAt h2 a { cls := .ref C, dict := none, data := .fields #[.ref t1, .none, .none, .none, .bool false, .none] } C none := ⟨k2 _ _ ho1, rfl, rfl, trivial⟩
  have hI : Looks (model P w) h2 (isInstance (.ref a) (.type "ValueError")) true := inst.type.andThen (looks_subIn I2.kIn hB)
  have hm1 : alongIn K "__init__" (((Value.ref C :: bm).dropWhile (· != .ref C)).drop 1) = some (some (.builtin "ValueError.__init__")) := by
    have z := hm
    unfold ks_superIn at z
    rw [hcl] at z
    exact z
  refine kxs_getMethod kxs_ValueError e2 (looks_opaque I2.kIn ho) (l₀ := .ref C :: bm) (fun A Q E s k q => wpAny_bind ((looks_clsIn I2.kIn hcl) A _ E s k (wpAny_pure q))) rfl I2.kIn hm1 hI (ks_ne I2.kIn inst hcl) (by decide) ?_
  have I3 := (I2.kept (t' := s.toks + ([sf, xn].zip [Value.ref a, u]).length + 1) (h' := h2.push (kxs_mw "ValueError.__init__" a)) fun b o z => Heap.get?_push_of_some _ z).pins_of (pins' := [(h2.objs.size, kxs_mw "ValueError.__init__" a)]) fun p hp => by
    obtain rfl : p = (h2.objs.size, kxs_mw "ValueError.__init__" a) := by simpa using hp
    exact ⟨Heap.get?_push_at rfl rfl, I2.hok.fresh (Nat.le_refl _), Nat.ne_of_gt I2.lt, I2.nofs (Nat.le_refl _), fun v z => nomatch z⟩
  refine cw1 (i := "ValueError.__init__") (x := a) (thn (hpa.run p3 _ _ _ _ _ I3 hta) fun us s4 ⟨vs, H1, I4, r4, hlen, hH⟩ => ?_) (hstar _)
  subst hH
  have hu := (I4.pin _ (List.mem_append_right _ (List.mem_singleton.mpr rfl))).1
  refine ⟨hu, call_mw T I4 ha hu (by rw [← Paired.length r4, sizeLine_eq]; omega) fun s5 J => ?_⟩
  have P2 : PS (cxSH CX P w K mg base [sf, xn] qual scope f (.ref cda) cc A outer s H1 E pH) (.Assign [.Attribute (.Name sf q1) fld q2] (.Name xn q3) q4) (tOst K fld (tVar 0) (tVar 1)) := ps_ost (pe_var rfl (.inl (S.par sf (by simp))) n1 n2) (pe_var rfl (.inl (S.par xn (by simp))) n3 n4) (hsw2 _)
  refine ks_wpAt_execs_cons (wpAt_of_wpAny (thn (P2.run _ s5 _ _ { nx := fun _ H' => Q .non H', rt := Q } J ⟨_, rfl, _, rfl, a, C, rfl, T, hno, .inl ⟨ha, q⟩⟩) fun fl s6 hs => ?_))
  cases fl with
  | ret u =>
    obtain ⟨v, σ', H', J, rv, q⟩ := hs
    exact ⟨v, H', J.os, J.bare, J.base, J.hok, rv, q⟩
  | next =>
    obtain ⟨σ', H', J, q⟩ := hs
    exact wpAt_of_wpAny (wpAny_pure ⟨.non, H', J.os, J.bare, J.base, J.hok, rfl, q⟩)
  | brk =>
    obtain ⟨_, _, _, q⟩ := hs
    exact False.elim q
  | cont =>
    obtain ⟨_, _, _, q⟩ := hs
    exact False.elim q
end OPNH
/-! ### defs that let out exceptions whose context may stand on the ground -/
section OKC
open PySem.Spec PyProof.Rows
theorem Fun.okC {P : Program} {w : World} {K : PySem.W.Frag} {mg : Str → Option Value} {base : Heap} {x qual : Str} {st : Stmt} {f : Addr} {fd : FuncData} {N ps : List Str} {k : Nat} {sp : Sp} (F : L2.Fun K x qual st f fd) (S : FnScope N ps (defScope st)) (len : ∀ vs H Q E, sp vs H Q E → vs.length = ps.length)
    (hbody : ∀ (cdv : Value) (A : Around) (outer : List Env) (s : Shared) (H : Hp) (vs : List V) (Q : VK) (E : XK), Room k (A.deeper (PyProof.Rows.envOfC qual (defScope st) s.heap.objs.size f cdv)) → sp vs H Q E →
      ∃ t, PSs (cxOf (L2C.CX P w) P w K mg base N qual (defScope st) f cdv A outer s H E) (defBody st) t ∧ t { nx := fun _ H' => Q .non H', rt := Q } (L2.start N vs) H) : FnOk P w K mg base (L2C.CX P w) (k + 1) f fd ps sp := by
  obtain ⟨oc, od, kV, doc, pm, an, cdv, ct, osl, rfl, lk, hcd⟩ := F.ex
  exact fn_of lk hcd S len fun A outer s H vs Q E hr hsp => hbody cdv A outer s H vs Q E hr hsp
section
variable {P : Program} {w : World} {K : PySem.W.Frag} {mg : Str → Option Value} {base : Heap} {N : List Str} {q : Str} {sc : Scope} {f : Addr} {cdv : Value} {A : Around} {outer : List Env} {s : Shared} {H : Hp} {E : XK}
theorem passDC : Passes (L2N.CX P w) (cxOf (L2C.CX P w) P w K mg base N q sc f cdv A outer s H E) E := L2C.passesN (X := cxOf (L2C.CX P w) P w K mg base N q sc f cdv A outer s H E) (L2C.takes_of rfl rfl rfl rfl)
theorem passDCC : Passes (L2C.CX P w) (cxOf (L2C.CX P w) P w K mg base N q sc f cdv A outer s H E) E := L2C.passes (X := cxOf (L2C.CX P w) P w K mg base N q sc f cdv A outer s H E) (L2C.takes_of rfl rfl rfl rfl)
end
theorem passC0 {X : Cx} : Passes (L2C.CX X.prog X.w) X (fun _ _ _ => False) := fun _ _ _ _ _ _ _ ⟨_, _, _, _, _, _, _, _, _, _, _, _, z⟩ => z.elim
theorem passAt {X : Cx} {W : WX} (tk : L2N.Takes X W) : ∀ σ, PassesAt (L2N.CX X.prog X.w) X σ (fun cls d H => W cls d σ H) := fun σ pins H s e s' I c => tk e s' (L2N.XE.of_call I (fun _ _ _ h => h) c)
/-- C(v): the error and its field -/
theorem out_core {H : Hp} {E : XK} {C : Addr} {fld : Str} {okv : V → Prop} {v : V} (ok : okv v) (q : ∀ (e : Addr) (H' : Hp), Same H H' → H e = none → H' e = some (.xd [(fld, v)]) → E (.ref C) (some e) H') : [v].length ≤ 1000 ∧ ∀ a, H a = none → spS C fld okv (.ref a :: ([v] ++ [])) (upd H a (exo a C none))
    (fun v H2 => v = .non ∧ ∃ (d : Addr) (fs : List (Str × V)), H2 a = some (exo a C (some d)) ∧ H2 d = some (exd d fs) ∧ H d = none ∧ E (.ref C) (some d) (upd (del H2 a) d (.xd fs))) (fun _ _ _ => False) := by
  refine ⟨(by show 1 ≤ 1000; omega), fun a na => ⟨a, v, rfl, upd_same, ok, fun dx' ndx ne => ?_⟩⟩
  rw [upd_ne ne] at ndx
  refine ⟨rfl, dx', _, upd_same, (upd_ne ne).trans upd_same, ndx, ?_⟩
  refine q dx' _ (fun b o hb' => ?_) ndx upd_same
  have ba : b ≠ a := ne_of_none hb' na
  have bd : b ≠ dx' := ne_of_none hb' ndx
  rw [upd_ne bd, del_ne ba, upd_ne ba, upd_ne bd, upd_ne ba]
  exact hb'
theorem out_own {σ : L2.St} {H : Hp} {E : XK} {C : Addr} {fld : Str} {okv : V → Prop} {v : V} {i : Nat} (hv : σ[i]? = some (some v)) (ok : okv v) (q : ∀ (e : Addr) (H' : Hp), Same H H' → H e = none → H' e = some (.xd [(fld, v)]) → E (.ref C) (some e) H') : tMkO C (spS C fld okv) [] (tCons (tVar i) tNil) σ H (fun cls d H' => E cls d H') := ⟨_, hv, out_core ok q⟩
end OKC
/-! ### lists of steps -/
theorem goes_set (S : Str) (c : Nat) : S.cps.contains c = decide (c ∈ S.cps.toList) := by
  by_cases h : c ∈ S.cps.toList
  · rw [decide_eq_true h]
    exact Array.contains_iff_mem.mpr (Array.mem_toList_iff.mp h)
  · rw [decide_eq_false h]
    cases e : S.cps.contains c with
    | false => rfl
    | true => exact absurd (Array.mem_toList_iff.mpr (Array.contains_iff_mem.mp e)) h
theorem tw_all {p : Nat → Bool} : ∀ {l : List Nat}, l.all p = true → l.takeWhile p = l
  | [], _ => rfl
  | c :: l, h => by
    rw [List.all_cons, Bool.and_eq_true] at h
    rw [List.takeWhile_cons, if_pos h.1, tw_all h.2]
theorem tw_some {p : Nat → Bool} : ∀ {l : List Nat}, l.all p = false → ∃ c r, l.drop (l.takeWhile p).length = c :: r ∧ p c = false
  | [], h => by cases h
  | c :: l, h => by
    rw [List.takeWhile_cons]
    cases e : p c with
    | false => exact ⟨c, l, rfl, e⟩
    | true =>
      rw [if_pos rfl]
      rw [List.all_cons, e, Bool.true_and] at h
      exact tw_some h
theorem strip_set (S : Str) (z : List Nat) : decide (V.str (Txt.stripChars (sL z) S) = V.str (Str.ofString "")) = z.all fun c => decide (c ∈ S.cps.toList) := by
  have eg : S.cps.contains = fun c => decide (c ∈ S.cps.toList) := funext (goes_set S)
  have hne : ∀ y : Str, 0 < y.length → decide (V.str y = V.str (Str.ofString "")) = false := fun y hy => decide_eq_false fun h => by
    injection h with h
    rw [h] at hy
    exact absurd hy (by decide)
  show decide (V.str (if stripSame S.cps.contains true true (sL z) = true then sL z else stripped S.cps.contains true true (sL z)) = V.str (Str.ofString "")) = _
  rw [eg]
  cases ha : z.all fun c => decide (c ∈ S.cps.toList) with
  | true =>
    have e1 : stripLo (fun c => decide (c ∈ S.cps.toList)) true (sL z) = z.length := by
      show (z.takeWhile _).length = z.length
      rw [tw_all ha]
    have e2 : stripHi (fun c => decide (c ∈ S.cps.toList)) true (sL z) z.length = z.length := by
      show z.length - ((z.drop z.length).reverse.takeWhile _).length = z.length
      rw [List.drop_length]
      rfl
    cases z with
    | nil =>
      rw [if_pos (show stripSame (fun c => decide (c ∈ S.cps.toList)) true true (sL []) = true from rfl)]
      decide +kernel
    | cons b p =>
      have no : ¬ stripSame (fun c => decide (c ∈ S.cps.toList)) true true (sL (b :: p)) = true := by
        unfold stripSame
        rw [e1, e2]
        intro z
        rw [Bool.and_eq_true] at z
        have z1 : (b :: p).length = 0 := eq_of_beq z.1
        cases z1
      rw [if_neg no]
      unfold stripped
      rw [e1, e2]
      have e3 : (⟨(sL (b :: p)).cps.extract (b :: p).length (b :: p).length⟩ : Str) = Str.ofString "" := by
        show (⟨_⟩ : Str) = ⟨#[]⟩
        congr 1
        simp
        omega
      exact decide_eq_true (congrArg V.str e3)
  | false =>
    obtain ⟨c, r, h1, h2⟩ := tw_some ha
    have hl : (z.takeWhile fun c => decide (c ∈ S.cps.toList)).length < z.length := by
      have := congrArg List.length h1
      rw [List.length_drop, List.length_cons] at this
      omega
    have hz : 0 < (sL z).length := Nat.lt_of_le_of_lt (Nat.zero_le _) (show _ < z.length from hl)
    have e1 : stripLo (fun c => decide (c ∈ S.cps.toList)) true (sL z) = (z.takeWhile fun c => decide (c ∈ S.cps.toList)).length := rfl
    have e2 : (z.takeWhile fun c => decide (c ∈ S.cps.toList)).length < stripHi (fun c => decide (c ∈ S.cps.toList)) true (sL z) (z.takeWhile fun c => decide (c ∈ S.cps.toList)).length := by
      show _ < z.length - ((z.drop (z.takeWhile fun c => decide (c ∈ S.cps.toList)).length).reverse.takeWhile fun c => decide (c ∈ S.cps.toList)).length
      rw [h1, List.reverse_cons]
      have h3 : ((r.reverse ++ [c]).takeWhile fun c => decide (c ∈ S.cps.toList)).length ≤ r.length := by
        have key : ∀ l : List Nat, ((l ++ [c]).takeWhile fun c => decide (c ∈ S.cps.toList)).length ≤ l.length := fun l => by
          induction l with
          | nil =>
            show (([c] : List Nat).takeWhile _).length ≤ 0
            rw [List.takeWhile_cons, h2]
            exact Nat.zero_le _
          | cons x l ih =>
            rw [List.cons_append, List.takeWhile_cons]
            by_cases q : decide (x ∈ S.cps.toList) = true
            · rw [if_pos q, List.length_cons, List.length_cons]
              omega
            · rw [if_neg q]
              exact Nat.zero_le _
        have := key r.reverse
        rwa [List.length_reverse] at this
      have h4 := congrArg List.length h1
      rw [List.length_drop, List.length_cons] at h4
      omega
    by_cases q : stripSame (fun c => decide (c ∈ S.cps.toList)) true true (sL z) = true
    · rw [if_pos q]
      exact hne _ hz
    · rw [if_neg q]
      refine hne _ ?_
      unfold stripped
      rw [e1]
      show 0 < ((sL z).cps.extract _ _).size
      rw [Array.size_extract]
      have hhi : stripHi (fun c => decide (c ∈ S.cps.toList)) true (sL z) (z.takeWhile fun c => decide (c ∈ S.cps.toList)).length ≤ (sL z).cps.size := Nat.sub_le _ _
      omega
def S01 : List Nat := (Str.ofString "01").cps.toList
theorem okp_all (z : List Nat) : okp (sL z) = (decide (z.length ≤ 60) && z.all fun c => decide (c ∈ S01)) := by
  unfold okp
  rw [strip_set]
  rfl
theorem Tree.rwt_sz2 {on : Bool} {t t' : Tree} {p : List Bool} (h : t.rwt on p = some t') : t'.sz ≤ 2 * t.sz := by
  refine rwt_ind (R := fun a b => b.sz ≤ 2 * a.sz) ?_ ?_ ?_ ?_ h
  · intro a b c
    show (a.sz + b.sz) + (a.sz + c.sz) ≤ 2 * (a.sz + (b.sz + c.sz))
    omega
  · intro a b c
    show a.sz + (b.sz + c.sz) ≤ 2 * ((a.sz + b.sz) + (a.sz + c.sz))
    omega
  · intro a a' b h
    show a'.sz + b.sz ≤ 2 * (a.sz + b.sz)
    omega
  · intro a b b' h
    show a.sz + b'.sz ≤ 2 * (a.sz + b.sz)
    omega
theorem take_snocS {α : Type} {l : List α} {i : Nat} {x : α} (h : l[i]? = some x) : l.take (i + 1) = l.take i ++ [x] := by
  rw [List.take_add_one, h]
  rfl
theorem drop_at {α : Type} {l : List α} {i : Nat} {x : α} (h : l[i]? = some x) : l.drop i = x :: l.drop (i + 1) := by
  have hi := (List.getElem?_eq_some_iff.mp h).1
  have e := (List.getElem?_eq_some_iff.mp h).2
  rw [List.drop_eq_getElem_cons hi, e]
/-- a path's text -/
def PthT (z : Str) (op : Option (List Bool)) : Prop := z.length ≤ 1000 ∧ ((op = none ∧ okp z = false) ∨ ∃ p, op = some p ∧ z = ptx p ∧ p.length ≤ 60)
abbrev SP10 := Option (List Bool) × Bool
def stR (t : Tree) (m : SP10) : Option Tree := m.1.bind fun p => t.rwt m.2 p
inductive XR
  | ok (t : Tree)
  | inv (i : Nat)
  | big (n : Nat)
def runS : Nat → Tree → List SP10 → XR
  | _, t, [] => .ok t
  | i, t, m :: r => match stR t m with
    | none => .inv i
    | some u => if 2000 < u.sz then .big u.sz else runS (i + 1) u r
theorem runS_none {i : Nat} {t : Tree} {m : SP10} {r : List SP10} (h : stR t m = none) : runS i t (m :: r) = .inv i := by
  show (match stR t m with | none => XR.inv i | some u => if 2000 < u.sz then .big u.sz else runS (i + 1) u r) = _
  rw [h]
theorem runS_big {i : Nat} {t u : Tree} {m : SP10} {r : List SP10} (h : stR t m = some u) (b : 2000 < u.sz) : runS i t (m :: r) = .big u.sz := by
  show (match stR t m with | none => XR.inv i | some u => if 2000 < u.sz then .big u.sz else runS (i + 1) u r) = _
  rw [h]
  exact if_pos b
theorem runS_on {i : Nat} {t u : Tree} {m : SP10} {r : List SP10} (h : stR t m = some u) (b : ¬ 2000 < u.sz) : runS i t (m :: r) = runS (i + 1) u r := by
  show (match stR t m with | none => XR.inv i | some u => if 2000 < u.sz then .big u.sz else runS (i + 1) u r) = _
  rw [h]
  exact if_neg b
theorem runS_ge : ∀ {ms : List SP10} {i k : Nat} {t : Tree}, runS i t ms = .inv k → i ≤ k
  | [], i, k, t, h => by cases h
  | m :: r, i, k, t, h => by
    cases e : stR t m with
    | none =>
      rw [runS_none e] at h
      injection h with h
      omega
    | some u =>
      by_cases b : 2000 < u.sz
      · rw [runS_big e b] at h
        cases h
      · rw [runS_on e b] at h
        have := runS_ge h
        omega
theorem ptx_lay (p : List Bool) : PyData.canLay0 (.str (ptx p)) = true := by
  show (ptx p).cps.all (· < 0x110000) = true
  have e : (ptx p).cps = (pcs p).toArray := by
    rw [← ptx_cps]
  rw [e, List.all_toArray]
  unfold pcs
  rw [List.all_map]
  exact List.all_eq_true.mpr fun b _ => by cases b <;> decide
def spBadP10 : Sp := fun vs H Q _ => ∃ r c : Addr, vs = [.ref r] ∧ RngC H r c ∧ ∀ (z : Str) (H' : Hp), okp z = false → z.length ≤ 1000 → PyData.canLay0 (.str z) = true → RngC H' r c → But r H H' → Q (.str z) H'
/-- a pair (path, onward) -/
def StT (K : PySem.W.Frag) (H : Hp) (x : V) (m : SP10) : Prop := ∃ (q : Addr) (z : Str), x = .ref q ∧ SqT K H q [.str z, .bl m.2] ∧ PthT z m.1 ∧ PyData.canLay0 (.str z) = true
inductive StA (K : PySem.W.Frag) (H : Hp) : List V → List SP10 → Prop
  | nil : StA K H [] []
  | cons {x : V} {m : SP10} {xs : List V} {ms : List SP10} : StT K H x m → StA K H xs ms → StA K H (x :: xs) (m :: ms)
section
variable {K : PySem.W.Frag} {H H' : Hp} {xs xs' : List V} {ms ms' : List SP10}
theorem StT.tp {x : V} {m : SP10} (e : Tp H H') (h : StT K H x m) : StT K H' x m := by
  obtain ⟨q, z, h1, h2, h3⟩ := h
  exact ⟨q, z, h1, e.sqT h2, h3⟩
theorem StA.tp (e : Tp H H') (h : StA K H xs ms) : StA K H' xs ms := by
  induction h with
  | nil => exact .nil
  | cons a _ ih => exact .cons (a.tp e) ih
theorem StA.len (h : StA K H xs ms) : xs.length = ms.length := by
  induction h with
  | nil => rfl
  | cons _ _ ih => exact congrArg (· + 1) ih
theorem StA.at (h : StA K H xs ms) : ∀ {i : Nat} {x : V}, xs[i]? = some x → ∃ m, ms[i]? = some m ∧ StT K H x m := by
  induction h with
  | nil => intro i x e; simp at e
  | cons a _ ih =>
    intro i x e
    cases i with
    | zero => cases e; exact ⟨_, rfl, a⟩
    | succ i => exact ih (i := i) e
theorem StA.snoc {x : V} {m : SP10} (h : StA K H xs ms) (a : StT K H x m) : StA K H (xs ++ [x]) (ms ++ [m]) := by
  induction h with
  | nil => exact .cons a .nil
  | cons b _ ih => exact .cons b ih
end
def spApp (K : PySem.W.Frag) (CI CL CS : Addr) : Sp := fun vs H Q E => ∃ (v : V) (b : Addr) (d : PyData) (us : List V) (ms : List SP10), vs = [v, .ref b] ∧ NT K H v d ∧ ndD d ≤ 1000 ∧ (SqL K H b us ∨ SqT K H b us) ∧ StA K H us ms ∧ ms.length ≤ 60 ∧ (okd d = false → ∀ H', Same H H' → E (.ref CI) none H') ∧
  ∀ t : Tree, d = t.d → t.sz ≤ 12 → t.dp ≤ 6 → (∀ u, runS 0 t ms = .ok u → ∀ (x : V) (H' : Hp), Same H H' → TA K H' x u → Q x H') ∧
    (∀ i, runS 0 t ms = .inv i → ∀ (e : Addr) (H' : Hp), Same H H' → H e = none → H' e = some (.xd [("position", .int (i : Int))]) → E (.ref CS) (some e) H') ∧
    ∀ n, runS 0 t ms = .big n → ∀ (e : Addr) (H' : Hp), Same H H' → H e = none → H' e = some (.xd [("size", .int (n : Int))]) → E (.ref CL) (some e) H'
def spExpd (K : PySem.W.Frag) : Sp := fun vs H Q _ => ∃ (v : V) (b : Addr) (t : Tree) (us : List V) (ms : List SP10), vs = [v, .ref b] ∧ TA K H v t ∧ t.sz ≤ 2000 ∧ (∃ k, t.dp + k ≤ 30 ∧ (ms.length ≤ k ∨ ∃ i, i < k ∧ runS 0 t ms = .inv i)) ∧ SqL K H b us ∧ StA K H us ms ∧ ms.length ≤ 60 ∧
  (∀ u, runS 0 t ms = .ok u → ∀ (p : Addr) (x : V) (H' : Hp), Same H H' → SqT K H' p [.str "value", x] → TA K H' x u → Q (.ref p) H') ∧
  (∀ i, runS 0 t ms = .inv i → ∀ (p : Addr) (H' : Hp), Same H H' → SqT K H' p [.str "InvalidStep", .int (i : Int)] → Q (.ref p) H') ∧
  ∀ n, runS 0 t ms = .big n → ∀ (p : Addr) (H' : Hp), Same H H' → SqT K H' p [.str "TooLarge", .int (n : Int)] → Q (.ref p) H'
section
variable {P : Program} {w : World} {K : PySem.W.Frag} {mg : Str → Option Value} {base : Heap} {f : Addr} {fd : FuncData}

abbrev s_PInit : Stmt := inClass (top 24) 0
abbrev s_PPair : Stmt := inClass (top 24) 1
abbrev s_PNum : Stmt := inClass (top 24) 2
theorem sc_PInit : FnScope ["self"] ["self"] (defScope s_PInit) := ⟨rfl, rfl, rfl, by decide +kernel, rfl, by decide +kernel, by decide +kernel⟩
theorem sc_PPair : FnScope ["self", "left", "right", "operands"] ["self", "left", "right"] (defScope s_PPair) := ⟨rfl, rfl, rfl, by decide +kernel, rfl, by decide +kernel, by decide +kernel⟩
theorem sc_PNum : FnScope ["self", "term"] ["self", "term"] (defScope s_PNum) := ⟨rfl, rfl, rfl, by decide +kernel, rfl, by decide +kernel, by decide +kernel⟩
theorem ok_PInit {C : Addr} (F : Fun K "__init__" "Pool.__init__" s_PInit f fd) (T : PoolT K mg C) : FnOk P w K mg base CX0 1 f fd ["self"] (spPInit K C) := by
  refine F.ok sc_PInit (fun vs H Q E h => ?_) (fun cdv A outer s H vs Q E hr h => ?_)
  · obtain ⟨_, _, _, rfl, _⟩ := h
    rfl
  obtain ⟨H0, x, dx, rfl, s0, x0, hx, q⟩ := h
  refine ⟨_, pss_cons (ps_fld (pv 0) pe_dnewT rfl) (pss_cons (ps_fld (pv 0) (pe_lst (pa_cons (pe_tup pa_nil) pa_nil)) rfl) (pss_cons (ps_fld (pv 0) (pe_lst (pa_cons pe_int pa_nil)) rfl) (pss_one (ps_fld (pv 0) (pe_lst (pa_cons (pe_tup pa_nil) pa_nil)) rfl)))), ?_⟩
  intro d hd
  have nxd : x ≠ d := ne_of_none hx hd
  refine ⟨_, rfl, x, C, dx, [], rfl, (by rw [upd_ne nxd]; exact hx), T.cl, T.n1, (by show 0 < 1000; decide), ?_⟩
  have d0 : H0 d = none := s0.free hd
  have k1 : ∀ q o, q ≠ x → H q = some o → (upd (upd H d (.dT [])) x (.ins C dx (putF "numbers" (.ref d) []))) q = some o := fun q o nq e => by
    rw [upd_ne nq, upd_ne (ne_of_none e hd)]
    exact e
  have hd1 : (upd (upd H d (.dT [])) x (.ins C dx (putF "numbers" (.ref d) []))) d = some (.dT []) := by rw [upd_ne nxd.symm, upd_same]
  have hx1 : (upd (upd H d (.dT [])) x (.ins C dx (putF "numbers" (.ref d) []))) x = some (.ins C dx (putF "numbers" (.ref d) [])) := upd_same
  generalize (upd (upd H d (.dT [])) x (.ins C dx (putF "numbers" (.ref d) []))) = H1 at *
  refine ⟨zero_le', fun q1 hq1 => ⟨one_le, fun a ha => ?_⟩⟩
  have sq1 := (Same.new hq1 (.tup [])).trans (Same.new ha (.lst [.ref q1]))
  have a0 : H0 a = none := by
    cases e : H0 a with
    | none => rfl
    | some o =>
      have := (Same.new hq1 (.tup [])) _ _ (k1 a o (fun z => by rw [z, x0] at e; cases e) (s0 _ _ e))
      rw [ha] at this
      cases this
  have hq1' : (upd (upd H1 q1 (.tup [])) a (.lst [.ref q1])) q1 = some (.tup []) := (Same.new ha _) _ _ upd_same
  have ha' : (upd (upd H1 q1 (.tup [])) a (.lst [.ref q1])) a = some (.lst [.ref q1]) := upd_same
  have k2 : ∀ q o, q ≠ x → H q = some o → (upd (upd H1 q1 (.tup [])) a (.lst [.ref q1])) q = some o := fun q o nq e => sq1 _ _ (k1 q o nq e)
  have hd2 := sq1 _ _ hd1
  have hx2 := sq1 _ _ hx1
  generalize (upd (upd H1 q1 (.tup [])) a (.lst [.ref q1])) = H2 at *
  refine ⟨_, rfl, x, C, dx, _, rfl, hx2, T.cl, T.n2, (by show 1 < 1000; decide), ?_⟩
  have nax : a ≠ x := ne_of ha' hx2 (by intro z; cases z)
  have ndx : d ≠ x := nxd.symm
  have nqx : q1 ≠ x := ne_of hq1' hx2 (by intro z; cases z)
  have k3 : ∀ q o, q ≠ x → H q = some o → (upd H2 x (.ins C dx (putF "pairs" (.ref a) (putF "numbers" (.ref d) [])))) q = some o := fun q o nq e => by rw [upd_ne nq]; exact k2 q o nq e
  have hd3 : (upd H2 x (.ins C dx (putF "pairs" (.ref a) (putF "numbers" (.ref d) [])))) d = some (.dT []) := by rw [upd_ne ndx]; exact hd2
  have ha3 : (upd H2 x (.ins C dx (putF "pairs" (.ref a) (putF "numbers" (.ref d) [])))) a = some (.lst [.ref q1]) := by rw [upd_ne nax]; exact ha'
  have hq3 : (upd H2 x (.ins C dx (putF "pairs" (.ref a) (putF "numbers" (.ref d) [])))) q1 = some (.tup []) := by rw [upd_ne nqx]; exact hq1'
  have hx3 : (upd H2 x (.ins C dx (putF "pairs" (.ref a) (putF "numbers" (.ref d) [])))) x = some (.ins C dx (putF "pairs" (.ref a) (putF "numbers" (.ref d) []))) := upd_same
  generalize (upd H2 x (.ins C dx (putF "pairs" (.ref a) (putF "numbers" (.ref d) [])))) = H3 at *
  refine ⟨one_le, fun b hb => ?_⟩
  have sb := Same.new hb (.lst [.int 1])
  have b0 : H0 b = none := by
    cases e : H0 b with
    | none => rfl
    | some o =>
      have := k3 b o (fun z => by rw [z, x0] at e; cases e) (s0 _ _ e)
      rw [hb] at this
      cases this
  have hb4 : (upd H3 b (.lst [.int 1])) b = some (.lst [.int 1]) := upd_same
  have nbx : b ≠ x := (ne_of_none hx3 hb).symm
  have nab : a ≠ b := ne_of_none ha3 hb
  have k4 : ∀ q o, q ≠ x → H q = some o → (upd H3 b (.lst [.int 1])) q = some o := fun q o nq e => sb _ _ (k3 q o nq e)
  have hd4 := sb _ _ hd3
  have ha4 := sb _ _ ha3
  have hq4 := sb _ _ hq3
  have hx4 := sb _ _ hx3
  generalize (upd H3 b (.lst [.int 1])) = H4 at *
  refine ⟨_, rfl, x, C, dx, _, rfl, hx4, T.cl, T.n3, (by show 2 < 1000; decide), ?_⟩
  have k5 : ∀ q o, q ≠ x → H q = some o → (upd H4 x (.ins C dx (putF "sizes" (.ref b) (putF "pairs" (.ref a) (putF "numbers" (.ref d) []))))) q = some o := fun q o nq e => by rw [upd_ne nq]; exact k4 q o nq e
  have hd5 : (upd H4 x (.ins C dx (putF "sizes" (.ref b) (putF "pairs" (.ref a) (putF "numbers" (.ref d) []))))) d = some (.dT []) := by rw [upd_ne ndx]; exact hd4
  have ha5 : (upd H4 x (.ins C dx (putF "sizes" (.ref b) (putF "pairs" (.ref a) (putF "numbers" (.ref d) []))))) a = some (.lst [.ref q1]) := by rw [upd_ne nax]; exact ha4
  have hq5 : (upd H4 x (.ins C dx (putF "sizes" (.ref b) (putF "pairs" (.ref a) (putF "numbers" (.ref d) []))))) q1 = some (.tup []) := by rw [upd_ne nqx]; exact hq4
  have hb5 : (upd H4 x (.ins C dx (putF "sizes" (.ref b) (putF "pairs" (.ref a) (putF "numbers" (.ref d) []))))) b = some (.lst [.int 1]) := by rw [upd_ne nbx]; exact hb4
  have hx5 : (upd H4 x (.ins C dx (putF "sizes" (.ref b) (putF "pairs" (.ref a) (putF "numbers" (.ref d) []))))) x = some (.ins C dx (putF "sizes" (.ref b) (putF "pairs" (.ref a) (putF "numbers" (.ref d) [])))) := upd_same
  generalize (upd H4 x (.ins C dx (putF "sizes" (.ref b) (putF "pairs" (.ref a) (putF "numbers" (.ref d) []))))) = H5 at *
  refine ⟨zero_le', fun q2 hq2 => ⟨one_le, fun c hc => ?_⟩⟩
  have sc := (Same.new hq2 (.tup [])).trans (Same.new hc (.lst [.ref q2]))
  have c0 : H0 c = none := by
    cases e : H0 c with
    | none => rfl
    | some o =>
      have := (Same.new hq2 (.tup [])) _ _ (k5 c o (fun z => by rw [z, x0] at e; cases e) (s0 _ _ e))
      rw [hc] at this
      cases this
  have hq26 : (upd (upd H5 q2 (.tup [])) c (.lst [.ref q2])) q2 = some (.tup []) := (Same.new hc _) _ _ upd_same
  have hc6 : (upd (upd H5 q2 (.tup [])) c (.lst [.ref q2])) c = some (.lst [.ref q2]) := upd_same
  have nac : a ≠ c := ne_of_none ((Same.new hq2 _) _ _ ha5) hc
  have nbc : b ≠ c := ne_of_none ((Same.new hq2 _) _ _ hb5) hc
  have hd6 := sc _ _ hd5
  have ha6 := sc _ _ ha5
  have hb6 := sc _ _ hb5
  have hq6 := sc _ _ hq5
  have hx6 := sc _ _ hx5
  have k6 : ∀ q o, q ≠ x → H q = some o → (upd (upd H5 q2 (.tup [])) c (.lst [.ref q2])) q = some o := fun q o nq e => sc _ _ (k5 q o nq e)
  generalize (upd (upd H5 q2 (.tup [])) c (.lst [.ref q2])) = H6 at *
  have ncx : c ≠ x := ne_of hc6 hx6 (by intro z; cases z)
  have nq2x : q2 ≠ x := ne_of hq26 hx6 (by intro z; cases z)
  refine ⟨_, rfl, x, C, dx, _, rfl, hx6, T.cl, T.n4, (by show 3 < 1000; decide), ?_⟩
  refine q d a b c _ ⟨dx, [], [.ref q1], [.ref q2], upd_same, ?_, ?_, ?_, ?_, nab, nac, nbc, ⟨rfl, rfl, (fun i l r h => by simp at h), List.nodup_nil⟩, ⟨rfl, ⟨q1, rfl, SqT.here ?_⟩, fun i l r h => by simp at h⟩, .cons (ta_leaf (SqT.here ?_)) .nil⟩ (fun q o e => ?_) d0 a0 b0 c0
  · rw [upd_ne ndx]
    exact hd6
  · rw [upd_ne nax]
    exact ha6
  · rw [upd_ne nbx]
    exact hb6
  · rw [upd_ne ncx]
    exact hc6
  · rw [upd_ne nqx]
    exact hq6
  · rw [upd_ne nq2x]
    exact hq26
  · have nq : q ≠ x := fun z => by
      rw [z, x0] at e
      cases e
    rw [upd_ne nq]
    exact k6 q o nq (s0 _ _ e)
theorem ok_PPair {C : Addr} (F : Fun K "pair" "Pool.pair" s_PPair f fd) (T : PoolT K mg C) (B : Blt mg) : FnOk P w K mg base CX0 1 f fd ["self", "left", "right"] (spPair K C) := by
  refine F.ok sc_PPair (fun vs H Q E h => ?_) (fun cdv A outer s H vs Q E hr h => ?_)
  · obtain ⟨_, _, _, _, _, _, _, _, _, _, rfl, _⟩ := h
    rfl
  obtain ⟨x, d, a, b, c, l, r, ts, tl, tr, rfl, hP, hlen, hl, hr', q⟩ := h
  refine ⟨_, pss_cons (ps_set (i := 3) sc_PPair.nd rfl (Or.inl rfl) (pe_tup (pa_cons (pv 1) (pa_cons (pv 2) pa_nil))))
    (pss_cons (ps_if (pt_cmp (pc_dnotin (hu_of hr) (pv 3) (pe_fld (pv 0) rfl)))
      (pss_cons (ps_dput (hu_of hr) (pe_fld (pv 0) rfl) (pv 3) (pe_callB call_len_seq (by rfl) B.len PySem.boot_len (pa_cons (pe_fld (pv 0) rfl) pa_nil)) rfl)
      (pss_cons (ps_expr (pe_bm PySem.F.plainAttrs_list PySem.F.slot_list_append PySem.F.type_list_append mt_append (pe_fld (pv 0) rfl) (pa_cons (pv 3) pa_nil)))
      (pss_cons (ps_expr (pe_bm PySem.F.plainAttrs_list PySem.F.slot_list_append PySem.F.type_list_append mt_append (pe_fld (pv 0) rfl) (pa_cons (pe_op op_add (pe_ix ix_list (pe_fld (pv 0) rfl) (pv 1) (fun _ _ => rfl)) (pe_ix ix_list (pe_fld (pv 0) rfl) (pv 2) (fun _ _ => rfl))) pa_nil)))
      (pss_one (ps_expr (pe_bm PySem.F.plainAttrs_list PySem.F.slot_list_append PySem.F.type_list_append mt_append (pe_fld (pv 0) rfl) (pa_cons (pe_tup (pa_cons (pe_ix ix_list (pe_fld (pv 0) rfl) (pv 1) (fun _ _ => rfl)) (pa_cons (pe_ix ix_list (pe_fld (pv 0) rfl) (pv 2) (fun _ _ => rfl)) pa_nil))) pa_nil))))))) pss_nil)
    (pss_one (ps_ret (pe_dget (hu_of hr) (pe_fld (pv 0) rfl) (pv 3) (fun _ _ => rfl))))), ?_⟩
  refine ⟨_, rfl, _, rfl, two_le, fun o ho => ?_⟩
  have so := Same.new ho (.tup [.int (l : Nat), .int (r : Nat)])
  have hP1 := hP.same so
  have ho1 : (upd H o (.tup [.int (l : Nat), .int (r : Nat)])) o = some (.tup ((key2 l r).map kV)) := upd_same
  generalize (upd H o (.tup [.int (l : Nat), .int (r : Nat)])) = H1 at *
  obtain ⟨dx, es, ps, cs, hx, hd, ha, hb, hc, nab, nac, nbc, gd, op, dd⟩ := id hP1
  refine ⟨_, rfl, _, rfl, x, C, dx, _, _, rfl, hx, T.cl, T.n1, pf_n _ _ _ _, d, _, rfl, DGet.t (k := key2 l r) hd ho1, _, rfl, ?_⟩
  cases e : valV (kv es 1) (key2 l r) with
  | some v =>
    obtain ⟨n, rfl, hn⟩ := kv_some es 1 l r v e
    have hg := DGet.t (k := key2 l r) hd ho1
    rw [e] at hg
    refine iteF ⟨_, rfl, x, C, dx, _, _, rfl, hx, T.cl, T.n1, pf_n _ _ _ _, _, rfl, d, _, rfl, hg, ?_⟩
    · obtain ⟨tl', tr', h1, h2, h3⟩ := gd.pair n l r hn
      have e1 : tl' = tl := Option.some.inj (h1.symm.trans hl)
      have e2 : tr' = tr := Option.some.inj (h2.symm.trans hr')
      subst e1 e2
      exact q (n + 1) ts H1 hP1 (Ex4.same so) (fun _ _ h => h) h3 (Nat.le_succ _)
  | none =>
    have hk := val_none e
    have lts := gd.len
    have lps := op.len
    have les : es.length ≤ 1000000 := by omega
    have eput : putK (kv es 1) (key2 l r) (.int ((ps.length : Nat) : Int)) = kv (es ++ [(l, r)]) 1 := by
      unfold putK
      rw [hk, if_neg Bool.false_ne_true, kv_snoc, lps, Nat.add_comm]
    have hput := DPut.t (v := V.int ((ps.length : Nat) : Int)) (k := key2 l r) hd ho1 (by rw [kv_len]; exact mil les)
    rw [eput] at hput
    have nda : d ≠ a := ne_of hd ha (by intro z; cases z)
    have ndb : d ≠ b := ne_of hd hb (by intro z; cases z)
    have ndc : d ≠ c := ne_of hd hc (by intro z; cases z)
    have ndx : x ≠ d := ne_of hx hd (by intro z; cases z)
    have nxa : x ≠ a := ne_of hx ha (by intro z; cases z)
    have nxb : x ≠ b := ne_of hx hb (by intro z; cases z)
    have nxc : x ≠ c := ne_of hx hc (by intro z; cases z)
    have nod : o ≠ d := ne_of ho1 hd (by intro z; cases z)
    have noa : o ≠ a := ne_of ho1 ha (by intro z; cases z)
    have nob : o ≠ b := ne_of ho1 hb (by intro z; cases z)
    have noc : o ≠ c := ne_of ho1 hc (by intro z; cases z)
    have il : l < ts.length := (List.getElem?_eq_some_iff.mp hl).1
    have ir : r < ts.length := (List.getElem?_eq_some_iff.mp hr').1
    have al : atI (ts.map fun t => V.int (t.sz : Nat)) (l : Int) = some (.int (tl.sz : Nat)) := atI_nat (by rw [List.getElem?_map, hl]; rfl)
    have ar : atI (ts.map fun t => V.int (t.sz : Nat)) (r : Int) = some (.int (tr.sz : Nat)) := atI_nat (by rw [List.getElem?_map, hr']; rfl)
    obtain ⟨vl, evl, dvl⟩ := dpAll_at dd l tl.d (by rw [List.getElem?_map, hl]; rfl)
    obtain ⟨vr, evr, dvr⟩ := dpAll_at dd r tr.d (by rw [List.getElem?_map, hr']; rfl)
    have lcs := dpAll_len dd
    rw [List.length_map] at lcs
    refine iteT ?_
    -- self.numbers[operands] = len(self.pairs)
    refine ⟨_, rfl, x, C, dx, _, _, rfl, hx, T.cl, T.n2, pf_p _ _ _ _, a, _, rfl, .inl (SqL.here ha), _, rfl, x, C, dx, _, _, rfl, hx, T.cl, T.n1, pf_n _ _ _ _, _, rfl, d, _, rfl, hput, ?_⟩
    have ex2 : Ex4 d a b c H1 (upd H1 d (.dT (kv (es ++ [(l, r)]) 1))) := fun q' o' e' n1 _ _ _ => by rw [upd_ne n1]; exact e'
    have hx2 : (upd H1 d (.dT (kv (es ++ [(l, r)]) 1))) x = some (.ins C dx (pf d a b c)) := by rw [upd_ne ndx]; exact hx
    have hd2 : (upd H1 d (.dT (kv (es ++ [(l, r)]) 1))) d = some (.dT (kv (es ++ [(l, r)]) 1)) := upd_same
    have ha2 : (upd H1 d (.dT (kv (es ++ [(l, r)]) 1))) a = some (.lst ps) := by rw [upd_ne nda.symm]; exact ha
    have hb2 : (upd H1 d (.dT (kv (es ++ [(l, r)]) 1))) b = some (.lst (ts.map fun t => V.int (t.sz : Nat))) := by rw [upd_ne ndb.symm]; exact hb
    have hc2 : (upd H1 d (.dT (kv (es ++ [(l, r)]) 1))) c = some (.lst cs) := by rw [upd_ne ndc.symm]; exact hc
    have ho2 : (upd H1 d (.dT (kv (es ++ [(l, r)]) 1))) o = some (.tup ((key2 l r).map kV)) := by rw [upd_ne nod]; exact ho1
    generalize (upd H1 d (.dT (kv (es ++ [(l, r)]) 1))) = H2 at *
    -- self.pairs.append(operands)
    refine ⟨_, rfl, x, C, dx, _, _, rfl, hx2, T.cl, T.n2, pf_p _ _ _ _, .inl ⟨rfl, _, SqL.here ha2⟩, _, rfl, a, _, _, rfl, rfl, ha2, mil (by omega), ?_⟩
    have ex3 : Ex4 d a b c H1 (upd H2 a (.lst (ps ++ [.ref o]))) := fun q' o' e' n1 n2 n3 n4 => by rw [upd_ne n2]; exact ex2 q' o' e' n1 n2 n3 n4
    have hx3 : (upd H2 a (.lst (ps ++ [.ref o]))) x = some (.ins C dx (pf d a b c)) := by rw [upd_ne nxa]; exact hx2
    have hd3 : (upd H2 a (.lst (ps ++ [.ref o]))) d = some (.dT (kv (es ++ [(l, r)]) 1)) := by rw [upd_ne nda]; exact hd2
    have ha3 : (upd H2 a (.lst (ps ++ [.ref o]))) a = some (.lst (ps ++ [.ref o])) := upd_same
    have hb3 : (upd H2 a (.lst (ps ++ [.ref o]))) b = some (.lst (ts.map fun t => V.int (t.sz : Nat))) := by rw [upd_ne nab.symm]; exact hb2
    have hc3 : (upd H2 a (.lst (ps ++ [.ref o]))) c = some (.lst cs) := by rw [upd_ne nac.symm]; exact hc2
    have ho3 : (upd H2 a (.lst (ps ++ [.ref o]))) o = some (.tup ((key2 l r).map kV)) := by rw [upd_ne noa]; exact ho2
    generalize (upd H2 a (.lst (ps ++ [.ref o]))) = H3 at *
    -- self.sizes.append(..)
    refine ⟨_, rfl, x, C, dx, _, _, rfl, hx3, T.cl, T.n3, pf_s _ _ _ _, .inl ⟨rfl, _, SqL.here hb3⟩, _, rfl, x, C, dx, _, _, rfl, hx3, T.cl, T.n3, pf_s _ _ _ _, _, rfl, b, _, _, _, rfl, rfl, SqL.here hb3, al, _, rfl, x, C, dx, _, _, rfl, hx3, T.cl, T.n3, pf_s _ _ _ _, _, rfl, b, _, _, _, rfl, rfl, SqL.here hb3, ar, _, _, rfl, rfl, b, _, _, rfl, rfl, hb3, mil (by rw [List.length_map]; omega), ?_⟩
    have esz : ((ts.map fun t => V.int (t.sz : Nat)) ++ [V.int ((tl.sz : Int) + (tr.sz : Int))]) = (ts ++ [Tree.N tl tr]).map fun t => V.int (t.sz : Nat) := by
      rw [List.map_append]
      show _ = _ ++ [V.int (((tl.sz + tr.sz : Nat) : Nat) : Int)]
      rw [Int.natCast_add]
    have ex4 : Ex4 d a b c H1 (upd H3 b (.lst ((ts.map fun t => V.int (t.sz : Nat)) ++ [V.int ((tl.sz : Int) + (tr.sz : Int))]))) := fun q' o' e' n1 n2 n3 n4 => by rw [upd_ne n3]; exact ex3 q' o' e' n1 n2 n3 n4
    have hx4 : (upd H3 b (.lst ((ts.map fun t => V.int (t.sz : Nat)) ++ [V.int ((tl.sz : Int) + (tr.sz : Int))]))) x = some (.ins C dx (pf d a b c)) := by rw [upd_ne nxb]; exact hx3
    have hd4 : (upd H3 b (.lst ((ts.map fun t => V.int (t.sz : Nat)) ++ [V.int ((tl.sz : Int) + (tr.sz : Int))]))) d = some (.dT (kv (es ++ [(l, r)]) 1)) := by rw [upd_ne ndb]; exact hd3
    have ha4 : (upd H3 b (.lst ((ts.map fun t => V.int (t.sz : Nat)) ++ [V.int ((tl.sz : Int) + (tr.sz : Int))]))) a = some (.lst (ps ++ [.ref o])) := by rw [upd_ne nab]; exact ha3
    have hb4 : (upd H3 b (.lst ((ts.map fun t => V.int (t.sz : Nat)) ++ [V.int ((tl.sz : Int) + (tr.sz : Int))]))) b = some (.lst ((ts ++ [Tree.N tl tr]).map fun t => V.int (t.sz : Nat))) := by rw [upd_same, esz]
    have hc4 : (upd H3 b (.lst ((ts.map fun t => V.int (t.sz : Nat)) ++ [V.int ((tl.sz : Int) + (tr.sz : Int))]))) c = some (.lst cs) := by rw [upd_ne nbc.symm]; exact hc3
    have ho4 : (upd H3 b (.lst ((ts.map fun t => V.int (t.sz : Nat)) ++ [V.int ((tl.sz : Int) + (tr.sz : Int))]))) o = some (.tup ((key2 l r).map kV)) := by rw [upd_ne nob]; exact ho3
    clear esz
    generalize (upd H3 b (.lst ((ts.map fun t => V.int (t.sz : Nat)) ++ [V.int ((tl.sz : Int) + (tr.sz : Int))]))) = H4 at *
    -- self.terms.append(..)
    refine ⟨_, rfl, x, C, dx, _, _, rfl, hx4, T.cl, T.n4, pf_t _ _ _ _, .inl ⟨rfl, _, SqL.here hc4⟩, _, rfl, x, C, dx, _, _, rfl, hx4, T.cl, T.n4, pf_t _ _ _ _, _, rfl, c, _, _, _, rfl, rfl, SqL.here hc4, atI_nat evl, _, rfl, x, C, dx, _, _, rfl, hx4, T.cl, T.n4, pf_t _ _ _ _, _, rfl, c, _, _, _, rfl, rfl, SqL.here hc4, atI_nat evr, two_le, fun q2 hq2 => ?_⟩
    have sq2 := Same.new hq2 (.tup [vl, vr])
    have nq2c : q2 ≠ c := (ne_of_none hc4 hq2).symm
    refine ⟨c, _, _, rfl, rfl, sq2 _ _ hc4, mil (by omega), ?_⟩
    have ex6 : Ex4 d a b c H1 (upd (upd H4 q2 (.tup [vl, vr])) c (.lst (cs ++ [.ref q2]))) := fun q' o' e' n1 n2 n3 n4 => by rw [upd_ne n4]; exact sq2 _ _ (ex4 q' o' e' n1 n2 n3 n4)
    have hx6 : (upd (upd H4 q2 (.tup [vl, vr])) c (.lst (cs ++ [.ref q2]))) x = some (.ins C dx (pf d a b c)) := by rw [upd_ne nxc]; exact sq2 _ _ hx4
    have hd6 : (upd (upd H4 q2 (.tup [vl, vr])) c (.lst (cs ++ [.ref q2]))) d = some (.dT (kv (es ++ [(l, r)]) 1)) := by rw [upd_ne ndc]; exact sq2 _ _ hd4
    have ha6 : (upd (upd H4 q2 (.tup [vl, vr])) c (.lst (cs ++ [.ref q2]))) a = some (.lst (ps ++ [.ref o])) := by rw [upd_ne nac]; exact sq2 _ _ ha4
    have hb6 : (upd (upd H4 q2 (.tup [vl, vr])) c (.lst (cs ++ [.ref q2]))) b = some (.lst ((ts ++ [Tree.N tl tr]).map fun t => V.int (t.sz : Nat))) := by rw [upd_ne nbc]; exact sq2 _ _ hb4
    have hc6 : (upd (upd H4 q2 (.tup [vl, vr])) c (.lst (cs ++ [.ref q2]))) c = some (.lst (cs ++ [.ref q2])) := upd_same
    have ho6 : (upd (upd H4 q2 (.tup [vl, vr])) c (.lst (cs ++ [.ref q2]))) o = some (.tup ((key2 l r).map kV)) := by rw [upd_ne noc]; exact sq2 _ _ ho4
    have hq6 : (upd (upd H4 q2 (.tup [vl, vr])) c (.lst (cs ++ [.ref q2]))) q2 = some (.tup [vl, vr]) := by rw [upd_ne nq2c, upd_same]
    generalize (upd (upd H4 q2 (.tup [vl, vr])) c (.lst (cs ++ [.ref q2]))) = H6 at *
    have tp := hP1.tp ex6
    have hg := DGet.t (k := key2 l r) hd6 ho6
    have ev : valV (kv (es ++ [(l, r)]) 1) (key2 l r) = some (.int ((es.length + 1 : Nat) : Int)) := by
      rw [kv_snoc, Nat.add_comm]
      exact val_snoc e
    rw [ev] at hg
    refine ⟨_, rfl, x, C, dx, _, _, rfl, hx6, T.cl, T.n1, pf_n _ _ _ _, _, rfl, d, _, rfl, hg, ?_⟩
    have pre : Pre ts (ts ++ [Tree.N tl tr]) := fun i t h => by
      have hi := (List.getElem?_eq_some_iff.mp h).1
      rw [List.getElem?_append_left hi]
      exact h
    have last : (ts ++ [Tree.N tl tr])[es.length + 1]? = some (.N tl tr) := by
      rw [← lts, List.getElem?_append_right (Nat.le_refl _), Nat.sub_self]
      rfl
    refine q (es.length + 1) (ts ++ [Tree.N tl tr]) H6 ⟨dx, es ++ [(l, r)], ps ++ [.ref o], cs ++ [.ref q2], hx6, hd6, ha6, hb6, hc6, nab, nac, nbc, ⟨?_, pre _ _ gd.zero, fun i l' r' h => ?_, nodup_snoc gd.nd (kv_none es 1 l r e)⟩, ⟨?_, ?_, fun i l' r' h => ?_⟩, ?_⟩ ((Ex4.same so).trans ex6) pre last (by rw [List.length_append]; exact Nat.le_refl _)
    · rw [List.length_append, List.length_append, lts]
      rfl
    · by_cases hi : i < es.length
      · rw [List.getElem?_append_left hi] at h
        obtain ⟨t1, t2, h1, h2, h3⟩ := gd.pair i l' r' h
        exact ⟨t1, t2, pre _ _ h1, pre _ _ h2, pre _ _ h3⟩
      · have ei : i = es.length := by
          have := (List.getElem?_eq_some_iff.mp h).1
          rw [List.length_append, List.length_singleton] at this
          omega
        subst ei
        rw [List.getElem?_append_right (Nat.le_refl _), Nat.sub_self] at h
        cases h
        exact ⟨tl, tr, pre _ _ hl, pre _ _ hr', last⟩
    · rw [List.length_append, List.length_append, lps]
      rfl
    · obtain ⟨q0, h1, h2⟩ := op.zero
      exact ⟨q0, by rw [List.getElem?_append_left (by omega)]; exact h1, tp.sqT h2⟩
    · by_cases hi : i < es.length
      · rw [List.getElem?_append_left hi] at h
        obtain ⟨q0, h1, h2⟩ := op.pair i l' r' h
        exact ⟨q0, by rw [List.getElem?_append_left (by omega)]; exact h1, tp.sqT h2⟩
      · have ei : i = es.length := by
          have := (List.getElem?_eq_some_iff.mp h).1
          rw [List.length_append, List.length_singleton] at this
          omega
        subst ei
        rw [List.getElem?_append_right (Nat.le_refl _), Nat.sub_self] at h
        cases h
        exact ⟨o, by rw [← lps, List.getElem?_append_right (Nat.le_refl _), Nat.sub_self]; rfl, SqT.here ho6⟩
    · rw [List.map_append]
      exact dpAll_snoc (dpAll_tp tp dd) (ta_node (SqT.here hq6) (ta_mono tp dvl) (ta_mono tp dvr))
theorem ok_PNum {C fP : Addr} {fdP : FuncData} (F : Fun K "number_of" "Pool.number_of" s_PNum f fd) (bN : Binds K fd ["self", "term"] []) (mN : Meth K C "number_of" f) (T : PoolT K mg C) (B : Blt mg) (GEN : ∃ t, mg "GENERATOR" = some (.int 0 t))
    (FP : Fun K "pair" "Pool.pair" s_PPair fP fdP) (bP : Binds K fdP ["self", "left", "right"] []) (mP : Meth K C "pair" fP) : ∀ n : Nat, FnOk P w K mg base CX0 (n + 1) f fd ["self", "term"] (spNum K C n)
  | 0 => fn_none fun vs H Q E h => by
    obtain ⟨_, _, _, _, _, _, _, _, _, _, _, h, _⟩ := h
    omega
  | n + 1 => by
    have GN := ok_PNum F bN mN T B GEN FP bP mP n
    have GP : FnOk P w K mg base CX0 1 fP fdP ["self", "left", "right"] (spPair K C) := ok_PPair FP T B
    obtain ⟨tg, C_GENERATOR⟩ := GEN
    refine F.ok sc_PNum (fun vs H Q E h => ?_) (fun cdv A outer s H vs Q E hr h => ?_)
    · obtain ⟨_, _, _, _, _, _, _, _, rfl, _⟩ := h
      rfl
    obtain ⟨x, d, a, b, c, v, t, ts, rfl, hP, ht, hd, hn, hlen, q⟩ := h
    refine ⟨_, pss_cons (ps_if (pt_cmpR (op_eqD hr.units) (pv 1) (pe_tup pa_nil) (nomark _)) (pss_one (ps_ret (pe_glob (v := .int 0) rfl C_GENERATOR ⟨_, rfl⟩))) pss_nil)
      (pss_one (ps_ret (pe_meth (pv 0) T.cl mP GP (hr.mono (by omega)) bP .nil pass0 (pa_cons (pe_meth (pv 0) T.cl mN GN hr bN .nil pass0 (pa_cons (pe_ix ix_tup (pv 1) pe_int (fun _ _ => rfl)) pa_nil)) (pa_cons (pe_meth (pv 0) T.cl mN GN hr bN .nil pass0 (pa_cons (pe_ix ix_tup (pv 1) pe_int (fun _ _ => rfl)) pa_nil)) pa_nil))))), ?_⟩
    refine ⟨_, rfl, zero_le', fun p hp => ⟨t.d, .tuple [], ta_mono (Tp.same (Same.new hp _)) ht, Dp.tup (SqT.here upd_same) .nil, Tree.shaped (by omega), shapedE, _, rfl, ite_eq (Tree.eqvL t) ?_⟩⟩
    have s1 := Same.new hp (.tup [])
    have hP1 := hP.same s1
    have n1 : ∀ {z : Str}, z = "number_of" ∨ z = "pair" → (pf d a b c).lookup z = none := fun {z} hz => by
      rcases hz with rfl | rfl
      · exact pf_no _ _ _ _ (by decide +kernel) (by decide +kernel) (by decide +kernel) (by decide +kernel)
      · exact pf_no _ _ _ _ (by decide +kernel) (by decide +kernel) (by decide +kernel) (by decide +kernel)
    cases t with
    | L =>
      obtain ⟨dx, es, ps, cs, hx, r1, r2, r3, r4, r5, r6, r7, gd, r8⟩ := id hP1
      exact iteT (q 0 ts _ hP1 (Ex4.same s1) (fun _ _ h => h) gd.zero (Nat.le_add_right _ _))
    | N l r =>
      have hd : max l.dp r.dp + 1 < n + 1 := hd
      have hlen : ts.length + (l.nodes + r.nodes + 1) ≤ 1000000 := hlen
      obtain ⟨qq, x1, x2, rfl, hS, hL, hR⟩ := ta_invN (ta_mono (Tp.same s1) ht)
      obtain ⟨dx, es, ps, cs, hx, _⟩ := id hP1
      refine iteF ⟨_, rfl, x, dx, _, rfl, hx, n1 (.inr rfl), _, rfl, x, dx, _, rfl, hx, n1 (.inl rfl), _, rfl, qq, _, 0, _, rfl, rfl, hS, rfl, x, d, a, b, c, x1, l, ts, rfl, hP1, hL, by omega, by omega, by omega, fun m1 ts1 H2 P2 e2 pr2 hm1 ln1 => ?_⟩
      have tp2 := hP1.tp e2
      obtain ⟨dx2, es2, ps2, cs2, hx2, _⟩ := id P2
      refine ⟨_, rfl, x, dx2, _, rfl, hx2, n1 (.inl rfl), _, rfl, qq, _, 1, _, rfl, rfl, tp2.sqT hS, rfl, x, d, a, b, c, x2, r, ts1, rfl, P2, ta_mono tp2 hR, by omega, by omega, by omega, fun m2 ts2 H3 P3 e3 pr3 hm2 ln2 => ?_⟩
      refine ⟨x, d, a, b, c, m1, m2, ts2, l, r, rfl, P3, by omega, pr3 _ _ hm1, hm2, fun m ts3 H4 P4 e4 pr4 hm ln3 => ?_⟩
      exact q m ts3 H4 P4 ((((Ex4.same s1).trans e2).trans e3).trans e4) ((pr2.trans pr3).trans pr4) hm (by show ts3.length ≤ ts.length + (l.nodes + r.nodes + 1); omega)
abbrev s_ISInit : Stmt := inClass (top 4) 0
theorem sc_ISInit : SupScope ["self", "position"] (defScope s_ISInit) := ⟨rfl, rfl, rfl, by decide +kernel, by decide +kernel, by decide +kernel, by decide +kernel, by decide +kernel, fun x h => by
  have z : ∀ y ∈ (defScope s_ISInit).names, y.2 = .free → y.1 = ("__class__" : Str) := by decide +kernel
  exact z _ (PySem.mem_of_lookup h) rfl⟩
theorem ok_ISInit {C : Addr} (F : FunS P K mg "InvalidStep" "InvalidStep.__init__" s_ISInit ["self", "position"] C f fd) (hno : PySem.W.findIn K (.ref C) "position" = some none) : FnOk P w K mg base CX0 1 f fd ["self", "position"] (spS C "position" okInt) := by
  obtain ⟨oc, od, dV, kV, doc, pm, an, cda, ct, osl, cc, cl, cld, csl, ccl, cdd, cvs, ccs, file, tf, rfl, lk, hcd, hcode, hvs, hfile, hcell⟩ := F.ex
  refine ok_sup (sf := "self") (xn := "position") (fld := "position") lk hcd sc_ISInit rfl rfl hcode hvs hfile F.top hcell F.T F.mro F.sup F.any F.ini F.val hno (fun A outer s H E a v hv => ?_)
  obtain ⟨n, rfl, h1, h2⟩ := hv
  refine ⟨_, pa_cons (pe_joined (PJ.cons pe_str (PJ.cons (pe_fmt (pv 1)) (PJ.cons pe_str PJ.nil)))) pa_nil, ?_⟩
  have L : (Str.ofString (toString n)).length ≤ 12 := PyProof.Rows.toString_length_le h1 (by decide) h2
  have lg : n.natAbs.log2 < 1920 := by
    have a1 : n.natAbs < 2 ^ 40 := by
      have : (10 : Int) ^ 12 < 2 ^ 40 := by decide
      omega
    have := (Nat.log2_lt (n := n.natAbs) (k := 40))
    by_cases z : n.natAbs = 0
    · rw [z]; decide
    · have := (Nat.log2_lt z).mpr a1
      omega
  have e := PySem.Str.length_append (Str.empty ++ Str.ofString "the step at position ") (Str.ofString (toString n))
  have e2 : (Str.empty ++ Str.ofString "the step at position ").length ≤ 100 := by decide +kernel
  have e3 : ((Str.empty ++ Str.ofString "the step at position ") ++ (toString n : Str)).length = _ := e
  refine ⟨_, rfl, (by decide +kernel), _, rfl, .inr ⟨n, rfl, lg, _, rfl, ?_, ?_⟩⟩
  · rw [sizeLine_eq]
    omega
  · refine ⟨_, rfl, ?_, ⟨by show 1 ≤ 1000; omega, rfl⟩⟩
    have e4 := PySem.Str.length_append ((Str.empty ++ Str.ofString "the step at position ") ++ Str.ofString (toString n)) (Str.ofString " does not apply")
    have e5 : (Str.ofString " does not apply").length ≤ 100 := by decide +kernel
    have e6 : (((Str.empty ++ Str.ofString "the step at position ") ++ (toString n : Str)) ++ (" does not apply" : Str)).length = _ := e4
    rw [sizeLine_eq]
    omega
theorem ok_ISInitH {C : Addr} (F : FunS P K mg "InvalidStep" "InvalidStep.__init__" s_ISInit ["self", "position"] C f fd) (hno : PySem.W.findIn K (.ref C) "position" = some none) : L2H.FnH P w K mg base CX0 1 f fd ["self", "position"] (spS C "position" okInt) := by
  obtain ⟨oc, od, dV, kV, doc, pm, an, cda, ct, osl, cc, cl, cld, csl, ccl, cdd, cvs, ccs, file, tf, rfl, lk, hcd, hcode, hvs, hfile, hcell⟩ := F.ex
  refine ok_supH (sf := "self") (xn := "position") (fld := "position") lk hcd sc_ISInit rfl rfl hcode hvs hfile F.top hcell F.T F.mro F.sup F.any F.ini F.val hno (fun A outer s H E pH a v hot hv => ?_)
  obtain ⟨n, rfl, h1, h2⟩ := hv
  refine ⟨_, pa_cons (pe_joined (PJ.cons pe_str (PJ.cons (pe_fmt (pv 1)) (PJ.cons pe_str PJ.nil)))) pa_nil, ?_⟩
  have L : (Str.ofString (toString n)).length ≤ 12 := PyProof.Rows.toString_length_le h1 (by decide) h2
  have lg : n.natAbs.log2 < 1920 := by
    have a1 : n.natAbs < 2 ^ 40 := by
      have : (10 : Int) ^ 12 < 2 ^ 40 := by decide
      omega
    have := (Nat.log2_lt (n := n.natAbs) (k := 40))
    by_cases z : n.natAbs = 0
    · rw [z]; decide
    · have := (Nat.log2_lt z).mpr a1
      omega
  have e := PySem.Str.length_append (Str.empty ++ Str.ofString "the step at position ") (Str.ofString (toString n))
  have e2 : (Str.empty ++ Str.ofString "the step at position ").length ≤ 100 := by decide +kernel
  have e3 : ((Str.empty ++ Str.ofString "the step at position ") ++ (toString n : Str)).length = _ := e
  refine ⟨_, rfl, (by decide +kernel), _, rfl, .inr ⟨n, rfl, lg, _, rfl, ?_, ?_⟩⟩
  · rw [sizeLine_eq]
    omega
  · refine ⟨_, rfl, ?_, ⟨by show 1 ≤ 1000; omega, rfl⟩⟩
    have e4 := PySem.Str.length_append ((Str.empty ++ Str.ofString "the step at position ") ++ Str.ofString (toString n)) (Str.ofString " does not apply")
    have e5 : (Str.ofString " does not apply").length ≤ 100 := by decide +kernel
    have e6 : (((Str.empty ++ Str.ofString "the step at position ") ++ (toString n : Str)) ++ (" does not apply" : Str)).length = _ := e4
    rw [sizeLine_eq]
    omega
abbrev s_TLInit : Stmt := inClass (top 3) 0
theorem sc_TLInit : SupScope ["self", "size"] (defScope s_TLInit) := ⟨rfl, rfl, rfl, by decide +kernel, by decide +kernel, by decide +kernel, by decide +kernel, by decide +kernel, fun x h => by
  have z : ∀ y ∈ (defScope s_TLInit).names, y.2 = .free → y.1 = ("__class__" : Str) := by decide +kernel
  exact z _ (PySem.mem_of_lookup h) rfl⟩
theorem ok_TLInit {C : Addr} (F : FunS P K mg "TooLarge" "TooLarge.__init__" s_TLInit ["self", "size"] C f fd) (hno : PySem.W.findIn K (.ref C) "size" = some none) : FnOk P w K mg base CX0 1 f fd ["self", "size"] (spS C "size" okInt) := by
  obtain ⟨oc, od, dV, kV, doc, pm, an, cda, ct, osl, cc, cl, cld, csl, ccl, cdd, cvs, ccs, file, tf, rfl, lk, hcd, hcode, hvs, hfile, hcell⟩ := F.ex
  refine ok_sup (sf := "self") (xn := "size") (fld := "size") lk hcd sc_TLInit rfl rfl hcode hvs hfile F.top hcell F.T F.mro F.sup F.any F.ini F.val hno (fun A outer s H E a v hv => ?_)
  obtain ⟨n, rfl, h1, h2⟩ := hv
  refine ⟨_, pa_cons pe_str pa_nil, ?_⟩
  refine ⟨?_, rfl⟩
  show 1 ≤ 1000
  omega
abbrev s_is_pair : Stmt := top 29
theorem sc_is_pair : FnScope ["part"] ["part"] (defScope s_is_pair) := ⟨rfl, rfl, rfl, by decide +kernel, rfl, by decide +kernel, by decide +kernel⟩
theorem ok_is_pair (d : D K mg "is_pair" s_is_pair ["part"] f fd) (B : Blt mg) : FnOk P w K mg base CX0 1 f fd ["part"] (spIsPairD K) := by
  refine d.F.ok sc_is_pair (fun vs H Q E h => ?_) (fun cdv A outer s H vs Q E hr h => ?_)
  · obtain ⟨_, _, rfl, _⟩ := h
    rfl
  obtain ⟨v, d, rfl, ha, q⟩ := h
  refine ⟨_, (pss_one (ps_ret (pe_and (pe_callB call_isi (by rfl) B.isinstance (by decide +kernel) (pa_cons (pv 0) (pa_cons (pe_bltn (v := .ty "tuple") (by rfl) B.tuple (by decide +kernel) rfl) pa_nil))) (pe_one (pe_cmpR op_eq (pe_callB call_len_seq (by rfl) B.len PySem.boot_len (pa_cons (pv 0) pa_nil)) pe_int (nomark _)))))), ?_⟩
  obtain ⟨a, xs, ds, rfl, rfl, hS, hA⟩ := ha.inv
  have hx : decide (V.int ((xs.length : Nat) : Int) = V.int 2) = isPr (.tuple ds) := by
    rw [dpAll_len hA]
    match ds with
    | [] => rfl
    | [_] => rfl
    | [_, _] => rfl
    | _ :: _ :: _ :: r =>
      show decide (V.int (((r.length + 1 + 1 + 1 : Nat)) : Int) = V.int 2) = false
      refine decide_eq_false fun z => ?_
      have z : ((r.length + 1 + 1 + 1 : Nat) : Int) = 2 := V.int.inj z
      omega
  refine ⟨_, rfl, _, _, _, _, true, rfl, .ty "tuple", tyx_tup hS, kit_ty (by decide +kernel), true, rfl, iteT ⟨_, rfl, a, _, rfl, .inr hS, rfl, ?_⟩⟩
  show Q (.bl (decide (V.int ((xs.length : Nat) : Int) = V.int 2))) H
  rw [hx]
  exact q

abbrev s_is_term : Stmt := top 28
theorem sc_is_term : FnScope ["term", "waiting", "size", "part", "depth"] ["term"] (defScope s_is_term) := ⟨rfl, rfl, rfl, by decide +kernel, rfl, by decide +kernel, by decide +kernel⟩
theorem ok_is_term {fp : Addr} {fpd : FuncData} (d : D K mg "is_term" s_is_term ["term"] f fd) (B : Blt mg) (C : Cst mg) (d_is_pair : D K mg "is_pair" s_is_pair ["part"] fp fpd) : FnOk P w K mg base CX0 2 f fd ["term"] (spIsTerm K) := by
  have G_is_pair : FnOk P w K mg base CX0 1 fp fpd ["part"] (spIsPairD K) := ok_is_pair d_is_pair B
  obtain ⟨⟨t1, C_MAX_SIZE⟩, ⟨t2, C_MAX_DEPTH⟩⟩ := C
  refine d.F.ok sc_is_term (fun vs H Q E h => ?_) (fun cdv A outer s H vs Q E hr h => ?_)
  · obtain ⟨_, _, rfl, _⟩ := h
    rfl
  obtain ⟨v, dd, rfl, ha, hz, q⟩ := h
  refine ⟨_, (pss_cons (ps_set (i := 1) sc_is_term.nd rfl (Or.inl rfl) (pe_lst (pa_cons (pe_tup (pa_cons (pv 0) (pa_cons pe_int pa_nil))) pa_nil)))
 (pss_cons (ps_set (i := 2) sc_is_term.nd rfl (Or.inl rfl) pe_int)
 (pss_cons (ps_while PassesOwn.never (pt_truth (pv 1) (by intro _; rfl)) (pss_cons (ps_asg (pe_bm0 PySem.F.plainAttrs_list PySem.F.slot_list_pop PySem.F.type_list_pop mt_pop (pv 1)) (pg_tup (by rfl) (pgs_cons (pg_name (i := 3) sc_is_term.nd rfl (Or.inl rfl)) (pgs_cons (pg_name (i := 4) sc_is_term.nd rfl (Or.inl rfl)) pgs_nil))))
 (pss_cons (ps_if (pt_cmpR (op_eqD hr.units) (pv 3) (pe_tup pa_nil) (nomark _)) (pss_one (ps_aug (i := 2) sc_is_term.nd rfl (Or.inl rfl) pe_int ip_add)) (pss_one (ps_if (PW.pt (pw_and (pt_val (pe_call G_is_pair (hr.mono (by decide)) rfl d_is_pair.m d_is_pair.F.kp d_is_pair.b .nil pass0 (pa_cons (pv 3) pa_nil))) (pw_and1 (pt_cmpR op_lt (pv 4) (pe_glob (v := .int 6) rfl C_MAX_DEPTH ⟨_, rfl⟩) (nomark _))))) (pss_cons (ps_expr (pe_bm PySem.F.plainAttrs_list PySem.F.slot_list_append PySem.F.type_list_append mt_append (pv 1) (pa_cons (pe_tup (pa_cons (pe_ix ix_tup (pv 3) pe_int (fun _ _ => rfl)) (pa_cons (pe_op op_add (pv 4) pe_int) pa_nil))) pa_nil)))
 (pss_one (ps_expr (pe_bm PySem.F.plainAttrs_list PySem.F.slot_list_append PySem.F.type_list_append mt_append (pv 1) (pa_cons (pe_tup (pa_cons (pe_ix ix_tup (pv 3) pe_int (fun _ _ => rfl)) (pa_cons (pe_op op_add (pv 4) pe_int) pa_nil))) pa_nil))))) (pss_one (ps_ret pe_bl)))))
 (pss_one (ps_if (pt_cmpR op_gt (pv 2) (pe_glob (v := .int 12) rfl C_MAX_SIZE ⟨_, rfl⟩) (nomark _)) (pss_one (ps_ret pe_bl)) pss_nil)))))
 (pss_one (ps_ret pe_bl))))), ?_⟩
  refine ⟨_, rfl, two_le, fun p hp => ⟨one_le, fun w hw => ?_⟩⟩
  have s1 := Same.new hp (.tup [v, .int 0])
  have s2 := s1.trans (Same.new hw (.lst [.ref p]))
  have hw0 : H w = none := s1.free hw
  refine ⟨fun m σ H' => ∃ (ps : List (V × PyData × Nat)) (n : Nat) (x y : Option V), σ = [some v, some (.ref w), some (.int (n : Int)), x, y] ∧ Same H H' ∧ H' w = some (.lst (ps.map (·.1))) ∧ (∀ p ∈ ps, ItemD K H' p) ∧ n ≤ 12 ∧ okd dd = fnl n (rem ps) ∧ ndn ps ≤ 1000 ∧ m = ndn ps,
    ⟨_, [(.ref p, dd, 0)], 0, none, none, rfl, s2, upd_same, ?_, by decide, okd_fnl _ _, ?_, rfl⟩, ?_⟩
  · intro z hz'
    cases List.mem_singleton.mp hz'
    exact ⟨p, v, rfl, (Tp.same (Same.new hw _)).sqT (SqT.here upd_same), ha.tp (Tp.same s2), by show 0 ≤ 6; omega⟩
  · show ndD dd + 0 ≤ 1000
    omega
  · rintro m σ H' ⟨ps, n, x, y, rfl, sm, hl, hI, hn, hs, hb, rfl⟩
    rcases List.eq_nil_or_concat ps with rfl | ⟨qs, z, rfl⟩
    · refine ⟨_, rfl, _, .inl ⟨_, SqL.here hl, rfl⟩, iteF ?_⟩
      have e : okd dd = true := by
        rw [hs]
        exact decide_eq_true (by omega)
      have q' := q H' sm
      rw [e] at q'
      exact q'
    · rw [List.concat_eq_append] at *
      rw [List.map_append] at hl
      refine ⟨_, rfl, true, .inl ⟨_, SqL.here hl, ?_⟩, iteT ?_⟩
      · cases qs <;> rfl
      have hIz := hI z (by simp)
      have hIq : ∀ p ∈ qs, ItemD K H' p := fun p hp => hI p (by simp [hp])
      obtain ⟨zv, zt, zd⟩ := z
      obtain ⟨a, u, ez, h2, h3, h4⟩ := hIz
      have ez' : zv = .ref a := ez
      subst ez'
      have h4 : zd ≤ 6 := h4
      have h3 : NT K H' u zt := h3
      have h2 : SqT K H' a [u, .int (zd : Int)] := h2
      have hs : okd dd = fnl n (add2 (rem qs) (szD (6 - zd) zt)) := by
        rw [rem_snoc] at hs
        exact hs
      have en : ndn (qs ++ [(V.ref a, zt, zd)]) = ndn qs + ndD zt := ndn_snoc _ _
      have hsz := ndn_len qs
      refine ⟨fun σ' H' => ∃ (ps : List (V × PyData × Nat)) (n : Nat) (x y : Option V), σ' = [some v, some (.ref w), some (.int (n : Int)), x, y] ∧ Same H H' ∧ H' w = some (.lst (ps.map (·.1))) ∧ (∀ p ∈ ps, ItemD K H' p) ∧ n ≤ 12 ∧ okd dd = fnl n (rem ps) ∧ ndn ps < ndn (qs ++ [(V.ref a, zt, zd)]), ?_, ?_⟩
      · rintro σ' H'' ⟨ps, n, x, y, e1, e2, e3, e4, e5, e6, e7⟩
        exact ⟨_, e7, ps, n, x, y, e1, e2, e3, e4, e5, e6, by omega, rfl⟩
      have tp1 : Tp H' (upd H' w (.lst (qs.map (·.1)))) := Tp.but hl But.set
      refine ⟨_, rfl, .inl ⟨rfl, _, SqL.here hl⟩, w, _, .ref a, rfl, rfl, hl, ?_, a, [u, .int zd], rfl, ?_, rfl, _, _, rfl, _, _, rfl, rfl, ?_⟩
      · simp
      · rw [List.dropLast_append_of_ne_nil (by simp)]
        simp only [List.map_cons, List.map_nil, List.dropLast_singleton, List.append_nil]
        exact tp1.sqT h2
      rw [List.dropLast_append_of_ne_nil (by simp)]
      simp only [List.map_cons, List.map_nil, List.dropLast_singleton, List.append_nil]
      have sm1 : Same H (upd H' w (.lst (qs.map (·.1)))) := fun b o e => by
        rw [upd_ne (ne_of_none e hw0)]
        exact sm _ _ e
      refine ⟨_, rfl, zero_le', fun p5 hp5 => ⟨zt, .tuple [], ((h3.tp tp1).tp (Tp.same (Same.new hp5 _))).dp, Dp.tup (SqT.here upd_same) .nil, h3.shp, shapedE, _, rfl, ?_⟩⟩
      refine ite_eq (eqvE h3.tup) ?_
      have tp2 : Tp (upd H' w (.lst (qs.map (·.1)))) (upd (upd H' w (.lst (qs.map (·.1)))) p5 (.tup [])) := Tp.same (Same.new hp5 _)
      have sm2 : Same H (upd (upd H' w (.lst (qs.map (·.1)))) p5 (.tup [])) := sm1.trans (Same.new hp5 _)
      have nw5 : w ≠ p5 := fun e => by
        rw [← e, upd_same] at hp5
        cases hp5
      have hl2 : (upd (upd H' w (.lst (qs.map (·.1)))) p5 (.tup [])) w = some (.lst (qs.map (·.1))) := by rw [upd_ne nw5, upd_same]
      have h3' := (h3.tp tp1).tp tp2
      generalize (upd (upd H' w (.lst (qs.map (·.1)))) p5 (.tup [])) = H2 at *
      cases eE : isE zt with
      | true =>
        have ezt : zt = .tuple [] := by
          obtain ⟨_, _, ds, _, rfl, _, _⟩ := h3.inv
          cases ds with
          | nil => rfl
          | cons _ _ => exact absurd eE (by simp [isE])
        subst ezt
        rw [szD_E, fnl_one] at hs
        refine iteT ⟨_, rfl, _, _, rfl, rfl, _, rfl, _, _, rfl, rfl, _, rfl, ?_⟩
        refine ite2 (fun c => ?_) (fun c => ?_)
        · have c : (n : Int) + 1 > 12 := of_decide_eq_true c
          have q' := q H2 sm2
          rw [hs, fnl_big (by omega)] at q'
          exact q'
        · have c : ¬ (n : Int) + 1 > 12 := fun z => c (decide_eq_true z)
          refine ⟨qs, n + 1, _, _, rfl, sm2, hl2, fun p hp => (hIq p hp).mono (tp1.trans tp2), by omega, hs, ?_⟩
          rw [en]
          exact Nat.lt_succ_self _
      | false =>
        refine iteF ⟨_, rfl, _, _, rfl, h3', _, rfl, ?_⟩
        cases eP : isPr zt with
        | false =>
          refine iteF ?_
          have q' := q H2 sm2
          rw [hs, szD_bad eE (.inl eP), add2_none] at q'
          exact q'
        | true =>
          refine iteT ⟨_, rfl, _, _, rfl, rfl, _, rfl, ?_⟩
          refine ite2 (fun c => ?_) (fun c => ?_)
          rotate_left
          · have c : ¬ (zd : Int) < 6 := fun z => c (decide_eq_true z)
            have q' := q H2 sm2
            rw [hs, szD_bad eE (.inr (by omega)), add2_none] at q'
            exact q'
          have c : (zd : Int) < 6 := of_decide_eq_true c
          obtain ⟨b, x1, x2, d1, d2, rfl, rfl, hS, hL, hR⟩ := h3'.pr eP
          rw [show 6 - zd = (6 - (zd + 1)) + 1 by omega, szD_pr, ← add2_assoc] at hs
          have en2 : ndD (.tuple [d1, d2]) = ndD d1 + (ndD d2 + 0) + 1 := rfl
          refine ⟨_, rfl, .inl ⟨rfl, _, SqL.here hl2⟩, _, rfl, b, _, 0, _, rfl, rfl, hS, rfl, _, rfl, _, _, rfl, rfl, two_le, fun p6 hp6 => ?_⟩
          have tp3 : Tp H2 (upd H2 p6 (.tup [x1, .int ((zd : Int) + 1)])) := Tp.same (Same.new hp6 _)
          have nw6 : w ≠ p6 := ne_of_none hl2 hp6
          refine ⟨w, _, _, rfl, rfl, (by rw [upd_ne nw6]; exact hl2), (by rw [List.length_map]; exact small1000 (by omega)), ?_⟩
          have hl3 : (upd (upd H2 p6 (.tup [x1, .int ((zd : Int) + 1)])) w (.lst (qs.map (·.1) ++ [.ref p6]))) w = some (.lst (qs.map (·.1) ++ [.ref p6])) := upd_same
          have tp4 : Tp (upd H2 p6 (.tup [x1, .int ((zd : Int) + 1)])) (upd (upd H2 p6 (.tup [x1, .int ((zd : Int) + 1)])) w (.lst (qs.map (·.1) ++ [.ref p6]))) := Tp.but (by rw [upd_ne nw6]; exact hl2) But.set
          have sm4 : Same H (upd (upd H2 p6 (.tup [x1, .int ((zd : Int) + 1)])) w (.lst (qs.map (·.1) ++ [.ref p6]))) := fun b o e => by
            rw [upd_ne (ne_of_none e hw0)]
            exact (sm2.trans (Same.new hp6 _)) _ _ e
          have h6 : SqT K (upd (upd H2 p6 (.tup [x1, .int ((zd : Int) + 1)])) w (.lst (qs.map (·.1) ++ [.ref p6]))) p6 [x1, .int ((zd : Int) + 1)] := tp4.sqT (SqT.here upd_same)
          have tp24 : Tp H2 _ := tp3.trans tp4
          generalize (upd (upd H2 p6 (.tup [x1, .int ((zd : Int) + 1)])) w (.lst (qs.map (·.1) ++ [.ref p6]))) = H4 at *
          refine ⟨_, rfl, .inl ⟨rfl, _, SqL.here hl3⟩, _, rfl, b, _, 1, _, rfl, rfl, tp24.sqT hS, rfl, _, rfl, _, _, rfl, rfl, two_le, fun p7 hp7 => ?_⟩
          have tp5 : Tp H4 (upd H4 p7 (.tup [x2, .int ((zd : Int) + 1)])) := Tp.same (Same.new hp7 _)
          have nw7 : w ≠ p7 := ne_of_none hl3 hp7
          refine ⟨w, _, _, rfl, rfl, (by rw [upd_ne nw7]; exact hl3), (by rw [List.length_append, List.length_map, List.length_singleton]; exact small1000 (by omega)), ?_⟩
          have tp6 : Tp (upd H4 p7 (.tup [x2, .int ((zd : Int) + 1)])) (upd (upd H4 p7 (.tup [x2, .int ((zd : Int) + 1)])) w (.lst ((qs.map (·.1) ++ [.ref p6]) ++ [.ref p7]))) := Tp.but (by rw [upd_ne nw7]; exact hl3) But.set
          refine ⟨_, rfl, _, _, rfl, rfl, _, rfl, ?_⟩
          refine ite_no (decide_eq_false (by omega)) ?_
          refine ⟨qs ++ [(.ref p6, d1, zd + 1)] ++ [(.ref p7, d2, zd + 1)], n, _, _, rfl, fun b o e => ?_, ?_, ?_, hn, ?_, ?_⟩
          · rw [upd_ne (ne_of_none e hw0)]
            exact (sm4.trans (Same.new hp7 _)) _ _ e
          · rw [upd_same, List.map_append, List.map_append]
            rfl
          · intro z hz'
            rcases List.mem_append.mp hz' with hz' | hz'
            · rcases List.mem_append.mp hz' with hz' | hz'
              · exact (hIq z hz').mono (((tp1.trans tp2).trans tp24).trans (tp5.trans tp6))
              · cases List.mem_singleton.mp hz'
                exact ⟨p6, x1, rfl, (tp5.trans tp6).sqT h6, (hL.tp tp24).tp (tp5.trans tp6), by show zd + 1 ≤ 6; omega⟩
            · cases List.mem_singleton.mp hz'
              exact ⟨p7, x2, rfl, tp6.sqT (SqT.here upd_same), (hR.tp tp24).tp (tp5.trans tp6), by show zd + 1 ≤ 6; omega⟩
          · rw [rem_snoc, rem_snoc]
            exact hs
          · rw [ndn_snoc, ndn_snoc, en, en2]
            show ndn qs + ndD d1 + ndD d2 < ndn qs + (ndD d1 + (ndD d2 + 0) + 1)
            omega

abbrev s_check_term : Stmt := top 30
theorem sc_check_term : FnScope ["term"] ["term"] (defScope s_check_term) := ⟨rfl, rfl, rfl, by decide +kernel, rfl, by decide +kernel, by decide +kernel⟩
theorem ok_check_term {fp fi C0 : Addr} {fpd fid : FuncData} (d : D K mg "check_term" s_check_term ["term"] f fd) (B : Blt mg) (C : Cst mg) (EC : ErrC K mg "InvalidTerm" C0) (d_is_pair : D K mg "is_pair" s_is_pair ["part"] fp fpd) (d_is_term : D K mg "is_term" s_is_term ["term"] fi fid) : FnOk P w K mg base (L2N.CX P w) 3 f fd ["term"] (spChk K C0) := by
  have G_is_term : FnOk P w K mg base CX0 2 fi fid ["term"] (spIsTerm K) := ok_is_term d_is_term B C d_is_pair
  refine Fun.okN d.F sc_check_term (fun vs H Q E h => ?_) (fun cdv A outer s H vs Q E hr h => ?_)
  · obtain ⟨_, _, rfl, _⟩ := h
    rfl
  obtain ⟨v, dd, rfl, ha, hz, h1, h2⟩ := h
  refine ⟨_, (pss_one (ps_if (pt_not (pt_val (pe_call G_is_term (hr.mono (by decide)) rfl d_is_term.m d_is_term.F.kp d_is_term.b .nil pass0 (pa_cons (pv 0) pa_nil)))) (pss_one (L2N.ps_raise rfl (L2N.takes_of rfl rfl rfl rfl) (L2N.pmk_own PySem.F.excBase_ValueError EC.q EC.g EC.k (raises_own EC.b EC.t) (by exact rfl)))) pss_nil)), ?_⟩
  refine ⟨_, rfl, v, dd, rfl, ha, hz, fun H' sm => ⟨_, rfl, ?_⟩⟩
  cases e : okd dd with
  | true => exact iteF (h1 e H' sm)
  | false => exact iteT (h2 e H' sm)

abbrev s_check_path : Stmt := top 35
theorem sc_check_path : FnScope ["path"] ["path"] (defScope s_check_path) := ⟨rfl, rfl, rfl, by decide +kernel, rfl, by decide +kernel, by decide +kernel⟩
theorem ok_check_path {CP : Addr} {tk : Tok} (d : D K mg "check_path" s_check_path ["path"] f fd) (B : Blt mg) (C_MAX_PATH : mg "MAX_PATH" = some (.int 60 tk)) (EC : ErrC K mg "InvalidPath" CP) : FnOk P w K mg base (L2N.CX P w) 1 f fd ["path"] (spChkP CP) := by
  refine Fun.okN d.F sc_check_path (fun vs H Q E h => ?_) (fun cdv A outer s H vs Q E hr h => ?_)
  · obtain ⟨_, rfl, _⟩ := h
    rfl
  obtain ⟨z, rfl, hl, h1, h2⟩ := h
  refine ⟨_, (pss_one (ps_if (PW.pt (pw_or (pt_cmpR op_gt (pe_callB call_len_str (by rfl) B.len PySem.boot_len (pa_cons (pv 0) pa_nil)) (pe_glob (v := .int 60) rfl C_MAX_PATH ⟨_, rfl⟩) (nomark _)) (pw_or1 (pt_cmpR op_ne (pe_bm PySem.F.plainAttrs_str PySem.F.slot_str_strip PySem.F.type_str_strip mt_stripChars (pv 0) (pa_cons pe_str pa_nil)) pe_str (nomark _))))) (pss_one (L2N.ps_raise rfl (L2N.takes_of rfl rfl rfl rfl) (L2N.pmk_own PySem.F.excBase_ValueError EC.q EC.g EC.k (raises_own EC.b EC.t) (by exact rfl)))) pss_nil)), ?_⟩
  have e0 : okp z = (decide (z.length ≤ 60) && decide (V.str (Txt.stripChars z (Str.ofString "01")) = V.str (Str.ofString ""))) := rfl
  refine ⟨_, rfl, z, rfl, fits (by omega), _, _, rfl, rfl, _, rfl, ?_⟩
  refine ite2 (fun c => ?_) (fun c => ?_)
  · have c : (z.length : Int) > 60 := of_decide_eq_true c
    exact h2 (by rw [e0, decide_eq_false (by omega)]; rfl)
  · have c : ¬ (z.length : Int) > 60 := fun y => c (decide_eq_true y)
    rw [decide_eq_true (by omega), Bool.true_and] at e0
    refine ⟨_, rfl, rfl, _, _, rfl, rfl, fits (by omega), rfl, _, rfl, ?_⟩
    cases e : decide (V.str (Txt.stripChars z (Str.ofString "01")) = V.str (Str.ofString "")) with
    | true => exact iteF (h1 (e0.trans e))
    | false => exact iteT (h2 (e0.trans e))

abbrev s_numbers_along : Stmt := top 36
theorem sc_numbers_along : FnScope ["pool", "number", "path", "along", "turn", "operands"] ["pool", "number", "path"] (defScope s_numbers_along) := ⟨rfl, rfl, rfl, by decide +kernel, rfl, by decide +kernel, by decide +kernel⟩
theorem ok_numbers_along {C CP CN f1 : Addr} {e1 : FuncData} {tk : Tok} (d_numbers_along : D K mg "numbers_along" s_numbers_along ["pool", "number", "path"] f fd) (T : PoolT K mg C) (B : Blt mg) (C_MAX_PATH : mg "MAX_PATH" = some (.int 60 tk)) (EP : ErrC K mg "InvalidPath" CP) (EN : ErrC K mg "PathNotFound" CN) (d_check_path : D K mg "check_path" s_check_path ["path"] f1 e1) : FnOk P w K mg base (L2N.CX P w) 2 f fd ["pool", "number", "path"] (spAl8 K C CP CN) := by
  have G_check_path : FnOk P w K mg base (L2N.CX P w) 1 f1 e1 ["path"] (spChkP CP) := ok_check_path d_check_path B C_MAX_PATH EP
  refine Fun.okN d_numbers_along.F sc_numbers_along (fun vs H Q E h => ?_) (fun cdv A outer s H vs Q E hr h => ?_)
  · obtain ⟨_, _, _, _, _, _, _, _, _, rfl, _⟩ := h
    rfl
  obtain ⟨x, d, a, b, c, m, z, ts, t, rfl, hz, hP, hm, hW⟩ := h
  refine ⟨_, (pss_cons (ps_expr (pe_call G_check_path (hr.mono (by decide)) rfl d_check_path.m d_check_path.F.kp d_check_path.b .nil passD (pa_cons (pv 2) pa_nil)))
 (pss_cons (ps_set (i := 3) sc_numbers_along.nd rfl (Or.inl rfl) (pe_lst (pa_cons (pv 1) pa_nil)))
 (pss_cons (ps_for (passes_of rfl) rfl (pi_str (pv 2)) (pg_name (i := 4) sc_numbers_along.nd rfl (Or.inl rfl))
  (pss_cons (ps_set (i := 5) sc_numbers_along.nd rfl (Or.inl rfl) (pe_ix ix_list (pe_fld (pv 0) rfl) (pe_ix ix_list (pv 3) (pe_un un_neg pe_int) (fun _ _ => rfl)) (fun _ _ => rfl)))
 (pss_cons (ps_if (pt_cmpR (op_eqD hr.units) (pv 5) (pe_tup pa_nil) (nomark _)) (pss_one (L2N.ps_raise rfl (L2N.takes_of rfl rfl rfl rfl) (L2N.pmk_own PySem.F.excBase_ValueError EN.q EN.g EN.k (raises_own EN.b EN.t) (by exact rfl)))) pss_nil)
 (pss_one (ps_expr (pe_bm PySem.F.plainAttrs_list PySem.F.slot_list_append PySem.F.type_list_append mt_append (pv 3) (pa_cons (pe_ix ix_tup (pv 5) (pe_callTy call_int_str (by rfl) B.int (by decide +kernel) (pa_cons (pv 4) pa_nil)) (fun _ _ => rfl)) pa_nil)))))))
 (pss_one (ps_ret (pv 3)))))), ?_⟩
  rcases hW with ⟨bad, hE⟩ | ⟨p, rfl, hp, hN, hR⟩
  · exact ⟨_, rfl, z, rfl, hz, fun ok => (by rw [bad] at ok; cases ok), fun _ => hE H (Same.refl _)⟩
  refine ⟨_, rfl, ptx p, rfl, hz, fun _ => ?_, fun no => (by rw [okp_ptx hp] at no; cases no)⟩
  refine ⟨_, rfl, one_le, fun l nl => ?_⟩
  have sl := Same.new nl (.lst [.int (m : Int)])
  refine ⟨_, rfl, ptx p, rfl, for_S (z := ptx p) (fun j σ G => ∃ (x4 x5 : Option V) (ks : List Nat) (k : Nat) (u : Tree), σ = [some (.ref x), some (.int m), some (.str (ptx p)), some (.ref l), x4, x5] ∧ Same H G ∧ G l = some (.lst (ks.map jV ++ [.int (k : Int)])) ∧ ks.length = j ∧ ts[k]? = some u ∧ t.st (p.take j) = some u ∧ ∀ j' u', j' ≤ j → t.st (p.take j') = some u' → ∃ k', (ks ++ [k])[j']? = some k' ∧ ts[k']? = some u') ⟨none, none, [], m, t, rfl, sl, upd_same, rfl, hm, Tree.st_nil t, fun j' u' h1 h2 => ?_⟩ ?_ ?_⟩
  · obtain rfl : j' = 0 := by omega
    rw [List.take_zero, Tree.st_nil] at h2
    cases h2
    exact ⟨m, rfl, hm⟩
  · rintro j cp σ G hc ⟨x4, x5, ms, k, u, rfl, sm, hl, hj, hk, hst, hall⟩
    obtain ⟨bb, hb, rfl⟩ := pcs_at p j cp hc
    obtain ⟨hjp, eb⟩ := List.getElem?_eq_some_iff.mp hb
    have etk : p.take (j + 1) = p.take j ++ [bb] := by rw [List.take_succ_eq_append_getElem hjp, eb]
    have stp : ∀ v, u.st [bb] = v → t.st (p.take (j + 1)) = v := fun v h => by
      rw [etk, Tree.st_app, hst]
      exact h
    have hPG := hP.same sm
    obtain ⟨dx, ps, qq, ops, hx, ha, hpm, hS, hops⟩ := hPG.at hk
    have last : atI (ms.map jV ++ [V.int (k : Int)]) (-1) = some (.int (k : Int)) := atI_last _ _
    refine ⟨_, rfl, x, C, dx, _, _, rfl, hx, T.cl, T.n2, pf_p _ _ _ _, _, rfl, _, rfl, l, _, _, _, rfl, rfl, SqL.here hl, last, a, _, _, _, rfl, rfl, SqL.here ha, atI_nat hpm, ?_⟩
    refine ⟨_, rfl, zero_le', fun p5 hp5 => ?_⟩
    have s5 := Same.new hp5 (.tup [])
    cases u with
    | L =>
      have hops : ops = [] := hops
      subst hops
      refine ⟨.tuple [], .tuple [], ops_L ((Tp.same s5).sqT hS), Dp.tup (SqT.here upd_same) .nil, shapedE, shapedE, true, rfl, iteT ?_⟩
      refine hN ?_ _ (sm.trans s5)
      rw [show p = p.take j ++ p.drop j from (List.take_append_drop j p).symm, Tree.st_app, hst, List.drop_eq_getElem_cons hjp]
      rfl
    | N ul ur =>
      obtain ⟨il, ir, rfl, hul, hur⟩ := hops
      refine ⟨_, .tuple [], ops_N ((Tp.same s5).sqT hS), Dp.tup (SqT.here upd_same) .nil, ops_sh _ _, shapedE, false, rfl, iteF ?_⟩
      have hl5 := s5 _ _ hl
      have hl0 : H l = none := nl
      have hlt : (ms.map jV ++ [V.int (k : Int)]).length < sizeLine := by
        rw [List.length_append, List.length_singleton, List.length_map, hj]
        exact small1000 (by omega)
      have sm6 : ∀ w : V, Same H (upd (upd G p5 (.tup [])) l (.lst ((ms.map jV ++ [V.int (k : Int)]) ++ [w]))) := fun w b' o' e' => by
        rw [upd_ne (ne_of_none e' hl0)]
        exact (sm.trans s5) _ _ e'
      have emap : ∀ w : Nat, (ms.map jV ++ [V.int (k : Int)]) ++ [V.int (w : Int)] = (ms ++ [k]).map jV ++ [.int (w : Int)] := fun w => by rw [List.map_append]; rfl
      have hl2 : (ms ++ [k]).length = j + 1 := by rw [List.length_append, hj]; rfl
      have nxt : ∀ (w : Nat) (u2 : Tree), ts[w]? = some u2 → t.st (p.take (j + 1)) = some u2 → ∀ j' u', j' ≤ j + 1 → t.st (p.take j') = some u' → ∃ k', ((ms ++ [k]) ++ [w])[j']? = some k' ∧ ts[k']? = some u' := fun w u2 h1 h2 j' u' h3 h4 => by
        rcases Nat.lt_or_ge j' (j + 1) with z | z
        · obtain ⟨k', e1, e2⟩ := hall j' u' (by omega) h4
          exact ⟨k', by rw [List.getElem?_append_left (by omega)]; exact e1, e2⟩
        · obtain rfl : j' = j + 1 := by omega
          rw [h2] at h4
          cases h4
          exact ⟨w, by rw [List.getElem?_append_right (by omega), hl2, Nat.sub_self]; rfl, h1⟩
      cases bb with
      | false =>
        refine ⟨_, rfl, .inl ⟨rfl, _, SqL.here hl5⟩, _, rfl, _, rfl, _, 0, rfl, by decide +kernel, (by show 1 ≤ 640; decide), qq, _, _, _, rfl, rfl, (Tp.same s5).sqT hS, rfl, l, _, _, rfl, rfl, hl5, hlt, ?_⟩
        have e2 := stp _ (show (Tree.N ul ur).st [false] = some ul from Tree.st_nil ul)
        exact ⟨_, _, ms ++ [k], il, ul, rfl, sm6 _, by rw [upd_same, ← emap], hl2, hul, e2, nxt il ul hul e2⟩
      | true =>
        refine ⟨_, rfl, .inl ⟨rfl, _, SqL.here hl5⟩, _, rfl, _, rfl, _, 1, rfl, by decide +kernel, (by show 1 ≤ 640; decide), qq, _, _, _, rfl, rfl, (Tp.same s5).sqT hS, rfl, l, _, _, rfl, rfl, hl5, hlt, ?_⟩
        have e2 := stp _ (show (Tree.N ul ur).st [true] = some ur from Tree.st_nil ur)
        exact ⟨_, _, ms ++ [k], ir, ur, rfl, sm6 _, by rw [upd_same, ← emap], hl2, hur, e2, nxt ir ur hur e2⟩
  · rintro σ G ⟨x4, x5, ms, k, u, rfl, sm, hl, hj, hk, hst, hall⟩
    rw [ptx_size] at hj hst hall
    rw [List.take_of_length_le (Nat.le_refl _)] at hst
    refine ⟨_, rfl, hR u hst l (ms ++ [k]) G sm nl (by rw [hl, List.map_append]; rfl) (by rw [List.length_append, hj]; rfl) hall⟩

abbrev s_expanded : Stmt := top 39
theorem sc_expanded : FnScope ["pool", "number", "acting", "right", "first", "second"] ["pool", "number"] (defScope s_expanded) := ⟨rfl, rfl, rfl, by decide +kernel, rfl, by decide +kernel, by decide +kernel⟩
theorem ok_expanded {C fP : Addr} {fdP : FuncData} (d_expanded : D K mg "expanded" s_expanded ["pool", "number"] f fd) (T : PoolT K mg C) (B : Blt mg) (FP : Fun K "pair" "Pool.pair" s_PPair fP fdP) (bP : Binds K fdP ["self", "left", "right"] []) (mP : Meth K C "pair" fP) : FnOk P w K mg base CX0 2 f fd ["pool", "number"] (spPR K C true) := by
  have GP : FnOk P w K mg base CX0 1 fP fdP ["self", "left", "right"] (spPair K C) := ok_PPair FP T B
  refine d_expanded.F.ok sc_expanded (fun vs H Q E h => ?_) (fun cdv A outer s H vs Q E hr h => ?_)
  · obtain ⟨_, _, _, _, _, _, _, _, rfl, _⟩ := h
    rfl
  obtain ⟨x, d, a, b, c, m, ts, t, rfl, hP, hlen, hm, hne, hN, hR⟩ := h
  have n1 : (pf d a b c).lookup ("pair" : Str) = none := pf_no _ _ _ _ (by decide +kernel) (by decide +kernel) (by decide +kernel) (by decide +kernel)
  refine ⟨_, (pss_cons (ps_asg (pe_ix ix_list (pe_fld (pv 0) rfl) (pv 1) (fun _ _ => rfl)) (pg_tup (by rfl) (pgs_cons (pg_name (i := 2) sc_expanded.nd rfl (Or.inl rfl)) (pgs_cons (pg_name (i := 3) sc_expanded.nd rfl (Or.inl rfl)) pgs_nil))))
 (pss_cons (ps_if (pt_cmpR (op_eqD hr.units) (pe_ix ix_list (pe_fld (pv 0) rfl) (pv 3) (fun _ _ => rfl)) (pe_tup pa_nil) (nomark _)) (pss_one (ps_ret pe_non)) pss_nil)
 (pss_cons (ps_asg (pe_ix ix_list (pe_fld (pv 0) rfl) (pv 3) (fun _ _ => rfl)) (pg_tup (by rfl) (pgs_cons (pg_name (i := 4) sc_expanded.nd rfl (Or.inl rfl)) (pgs_cons (pg_name (i := 5) sc_expanded.nd rfl (Or.inl rfl)) pgs_nil))))
 (pss_one (ps_ret (pe_meth (pv 0) T.cl mP GP (hr.mono (by omega)) bP .nil pass0 (pa_cons (pe_meth (pv 0) T.cl mP GP (hr.mono (by omega)) bP .nil pass0 (pa_cons (pv 2) (pa_cons (pv 4) pa_nil))) (pa_cons (pe_meth (pv 0) T.cl mP GP (hr.mono (by omega)) bP .nil pass0 (pa_cons (pv 2) (pa_cons (pv 5) pa_nil))) pa_nil)))))))), ?_⟩
  cases t with
  | L => exact absurd rfl hne
  | N ta tb =>
    obtain ⟨dx, ps, qq, ops, hx, ha, hpm, hS, il, ir, rfl, hul, hur⟩ := hP.at hm
    refine ⟨_, rfl, x, C, dx, _, _, rfl, hx, T.cl, T.n2, pf_p _ _ _ _, _, rfl, a, _, _, _, rfl, rfl, SqL.here ha, atI_nat hpm, qq, _, rfl, hS, rfl, _, _, rfl, _, _, rfl, rfl, ?_⟩
    obtain ⟨dx2, ps2, q2, ops2, hx2, ha2, hpm2, hS2, hops2⟩ := hP.at hur
    refine ⟨_, rfl, x, C, dx2, _, _, rfl, hx2, T.cl, T.n2, pf_p _ _ _ _, _, rfl, a, _, _, _, rfl, rfl, SqL.here ha2, atI_nat hpm2, zero_le', fun p5 hp5 => ?_⟩
    have s5 := Same.new hp5 (.tup [])
    cases tb with
    | L =>
      have hops2 : ops2 = [] := hops2
      subst hops2
      exact ⟨.tuple [], .tuple [], ops_L ((Tp.same s5).sqT hS2), Dp.tup (SqT.here upd_same) .nil, shapedE, shapedE, true, rfl, iteT (hN rfl _ s5)⟩
    | N tf tsd =>
      obtain ⟨i2, j2, rfl, hf, hsd⟩ := hops2
      refine ⟨_, .tuple [], ops_N ((Tp.same s5).sqT hS2), Dp.tup (SqT.here upd_same) .nil, ops_sh _ _, shapedE, false, rfl, iteF ?_⟩
      have hP5 := hP.same s5
      refine ⟨_, rfl, x, C, dx2, _, _, rfl, s5 _ _ hx2, T.cl, T.n2, pf_p _ _ _ _, _, rfl, a, _, _, _, rfl, rfl, SqL.here (s5 _ _ ha2), atI_nat hpm2, q2, _, rfl, (Tp.same s5).sqT hS2, rfl, _, _, rfl, _, _, rfl, rfl, ?_⟩
      refine ⟨_, rfl, x, dx2, _, rfl, s5 _ _ hx2, n1, _, rfl, x, dx2, _, rfl, s5 _ _ hx2, n1, _, rfl, _, rfl, x, d, a, b, c, il, i2, ts, ta, tf, rfl, hP5, by omega, hul, hf, fun k1 ts1 H1 P1 e1 pr1 hk1 ln1 => ?_⟩
      obtain ⟨dx3, _, _, _, hx3, _⟩ := id P1
      refine ⟨_, rfl, x, dx3, _, rfl, hx3, n1, _, rfl, _, rfl, x, d, a, b, c, il, j2, ts1, ta, tsd, rfl, P1, by omega, pr1 _ _ hul, pr1 _ _ hsd, fun k2 ts2 H2 P2 e2 pr2 hk2 ln2 => ?_⟩
      refine ⟨x, d, a, b, c, k1, k2, ts2, .N ta tf, .N ta tsd, rfl, P2, by omega, pr2 _ _ hk1, hk2, fun k3 ts3 H3 P3 e3 pr3 hk3 ln3 => ?_⟩
      exact hR (.N (.N ta tf) (.N ta tsd)) rfl k3 ts3 H3 P3 ((((Ex4.same s5).trans e1).trans e2).trans e3) ((pr1.trans pr2).trans pr3) hk3 (by omega)

abbrev s_contracted : Stmt := top 40
theorem sc_contracted : FnScope ["pool", "number", "left", "right", "acting", "first", "again", "second"] ["pool", "number"] (defScope s_contracted) := ⟨rfl, rfl, rfl, by decide +kernel, rfl, by decide +kernel, by decide +kernel⟩
theorem ok_contracted {C fP : Addr} {fdP : FuncData} (d_contracted : D K mg "contracted" s_contracted ["pool", "number"] f fd) (T : PoolT K mg C) (B : Blt mg) (FP : Fun K "pair" "Pool.pair" s_PPair fP fdP) (bP : Binds K fdP ["self", "left", "right"] []) (mP : Meth K C "pair" fP) : FnOk P w K mg base CX0 2 f fd ["pool", "number"] (spPR K C false) := by
  have GP : FnOk P w K mg base CX0 1 fP fdP ["self", "left", "right"] (spPair K C) := ok_PPair FP T B
  refine d_contracted.F.ok sc_contracted (fun vs H Q E h => ?_) (fun cdv A outer s H vs Q E hr h => ?_)
  · obtain ⟨_, _, _, _, _, _, _, _, rfl, _⟩ := h
    rfl
  obtain ⟨x, d, a, b, c, m, ts, t, rfl, hP, hlen, hm, hne, hN, hR⟩ := h
  have n1 : (pf d a b c).lookup ("pair" : Str) = none := pf_no _ _ _ _ (by decide +kernel) (by decide +kernel) (by decide +kernel) (by decide +kernel)
  refine ⟨_, (pss_cons (ps_asg (pe_ix ix_list (pe_fld (pv 0) rfl) (pv 1) (fun _ _ => rfl)) (pg_tup (by rfl) (pgs_cons (pg_name (i := 2) sc_contracted.nd rfl (Or.inl rfl)) (pgs_cons (pg_name (i := 3) sc_contracted.nd rfl (Or.inl rfl)) pgs_nil))))
 (pss_cons (ps_if (PW.pt (pw_or (pt_cmpR (op_eqD hr.units) (pe_ix ix_list (pe_fld (pv 0) rfl) (pv 2) (fun _ _ => rfl)) (pe_tup pa_nil) (nomark _)) (pw_or1 (pt_cmpR (op_eqD hr.units) (pe_ix ix_list (pe_fld (pv 0) rfl) (pv 3) (fun _ _ => rfl)) (pe_tup pa_nil) (nomark _))))) (pss_one (ps_ret pe_non)) pss_nil)
 (pss_cons (ps_asg (pe_ix ix_list (pe_fld (pv 0) rfl) (pv 2) (fun _ _ => rfl)) (pg_tup (by rfl) (pgs_cons (pg_name (i := 4) sc_contracted.nd rfl (Or.inl rfl)) (pgs_cons (pg_name (i := 5) sc_contracted.nd rfl (Or.inl rfl)) pgs_nil))))
 (pss_cons (ps_asg (pe_ix ix_list (pe_fld (pv 0) rfl) (pv 3) (fun _ _ => rfl)) (pg_tup (by rfl) (pgs_cons (pg_name (i := 6) sc_contracted.nd rfl (Or.inl rfl)) (pgs_cons (pg_name (i := 7) sc_contracted.nd rfl (Or.inl rfl)) pgs_nil))))
 (pss_cons (ps_if (pt_cmpR op_ne (pv 4) (pv 6) (nomark _)) (pss_one (ps_ret pe_non)) pss_nil)
 (pss_one (ps_ret (pe_meth (pv 0) T.cl mP GP (hr.mono (by omega)) bP .nil pass0 (pa_cons (pv 4) (pa_cons (pe_meth (pv 0) T.cl mP GP (hr.mono (by omega)) bP .nil pass0 (pa_cons (pv 5) (pa_cons (pv 7) pa_nil))) pa_nil)))))))))), ?_⟩
  cases t with
  | L => exact absurd rfl hne
  | N ta tb =>
    obtain ⟨dx, ps, qq, ops, hx, ha, hpm, hS, il, ir, rfl, hul, hur⟩ := hP.at hm
    refine ⟨_, rfl, x, C, dx, _, _, rfl, hx, T.cl, T.n2, pf_p _ _ _ _, _, rfl, a, _, _, _, rfl, rfl, SqL.here ha, atI_nat hpm, qq, _, rfl, hS, rfl, _, _, rfl, _, _, rfl, rfl, ?_⟩
    obtain ⟨dx2, ps2, q2, ops2, hx2, ha2, hpm2, hS2, hops2⟩ := hP.at hul
    refine ⟨_, rfl, x, C, dx2, _, _, rfl, hx2, T.cl, T.n2, pf_p _ _ _ _, _, rfl, a, _, _, _, rfl, rfl, SqL.here ha2, atI_nat hpm2, zero_le', fun p5 hp5 => ?_⟩
    have s5 := Same.new hp5 (.tup [])
    cases ta with
    | L =>
      have hops2 : ops2 = [] := hops2
      subst hops2
      exact ⟨.tuple [], .tuple [], ops_L ((Tp.same s5).sqT hS2), Dp.tup (SqT.here upd_same) .nil, shapedE, shapedE, true, rfl, iteT (hN rfl _ s5)⟩
    | N taa tab =>
      obtain ⟨i2, j2, rfl, haa, hab⟩ := hops2
      refine ⟨_, .tuple [], ops_N ((Tp.same s5).sqT hS2), Dp.tup (SqT.here upd_same) .nil, ops_sh _ _, shapedE, false, rfl, iteF ?_⟩
      have hP5 := hP.same s5
      obtain ⟨dx3, ps3, q3, ops3, hx3, ha3, hpm3, hS3, hops3⟩ := hP5.at hur
      refine ⟨_, rfl, x, C, dx3, _, _, rfl, hx3, T.cl, T.n2, pf_p _ _ _ _, _, rfl, a, _, _, _, rfl, rfl, SqL.here ha3, atI_nat hpm3, zero_le', fun p6 hp6 => ?_⟩
      have s6 := Same.new hp6 (.tup [])
      have s56 := s5.trans s6
      have hS2' := (Tp.same s56).sqT hS2
      have hS3' := (Tp.same s6).sqT hS3
      cases tb with
      | L =>
        have hops3 : ops3 = [] := hops3
        subst hops3
        exact ⟨.tuple [], .tuple [], ops_L hS3', Dp.tup (SqT.here upd_same) .nil, shapedE, shapedE, true, rfl, iteT (hN rfl _ s56)⟩
      | N tba tbb =>
        obtain ⟨i3, j3, rfl, hba, hbb⟩ := hops3
        refine ⟨_, .tuple [], ops_N hS3', Dp.tup (SqT.here upd_same) .nil, ops_sh _ _, shapedE, false, rfl, iteF ?_⟩
        have hP6 := hP5.same s6
        refine ⟨_, rfl, x, C, dx2, _, _, rfl, s56 _ _ hx2, T.cl, T.n2, pf_p _ _ _ _, _, rfl, a, _, _, _, rfl, rfl, SqL.here (s56 _ _ ha2), atI_nat hpm2, q2, _, rfl, hS2', rfl, _, _, rfl, _, _, rfl, rfl, ?_⟩
        refine ⟨_, rfl, x, C, dx3, _, _, rfl, s6 _ _ hx3, T.cl, T.n2, pf_p _ _ _ _, _, rfl, a, _, _, _, rfl, rfl, SqL.here (s6 _ _ ha3), atI_nat hpm3, q3, _, rfl, hS3', rfl, _, _, rfl, _, _, rfl, rfl, ?_⟩
        have er : Tree.r0 false (.N (.N taa tab) (.N tba tbb)) = if taa.eqb tba = true then some (.N taa (.N tab tbb)) else none := rfl
        by_cases e : taa = tba
        · subst e
          have ei := hP.inj haa hba
          subst ei
          rw [if_pos (Tree.eqb_refl _)] at er
          refine ⟨_, rfl, _, rfl, rfl, _, rfl, ite_no (by rw [decide_eq_true rfl]; rfl) ?_⟩
          have hx6 := s56 _ _ hx
          refine ⟨_, rfl, x, dx, _, rfl, hx6, n1, _, rfl, _, rfl, x, dx, _, rfl, hx6, n1, _, rfl, _, rfl, x, d, a, b, c, j2, j3, ts, tab, tbb, rfl, hP6, by omega, hab, hbb, fun k1 ts1 H1 P1 e1 pr1 hk1 ln1 => ?_⟩
          refine ⟨x, d, a, b, c, i2, k1, ts1, taa, .N tab tbb, rfl, P1, by omega, pr1 _ _ haa, hk1, fun k2 ts2 H2 P2 e2 pr2 hk2 ln2 => ?_⟩
          exact hR _ er k2 ts2 H2 P2 (((Ex4.same s56).trans e1).trans e2) (pr1.trans pr2) hk2 (by omega)
        · rw [if_neg (fun z => e (Tree.eqb_eq z))] at er
          have ne : i2 ≠ i3 := fun z => by
            rw [z, hba] at haa
            exact e (Option.some.inj haa).symm
          refine ⟨_, rfl, _, rfl, rfl, _, rfl, ite_yes ?_ (hN er _ s56)⟩
          show (!decide (V.int (i2 : Int) = V.int (i3 : Int))) = true
          rw [decide_eq_false fun z => ne (by have := V.int.inj z; omega)]
          rfl

abbrev s_rewritten : Stmt := top 38
theorem sc_rewritten : FnScope ["pool", "number", "expanding"] ["pool", "number", "expanding"] (defScope s_rewritten) := ⟨rfl, rfl, rfl, by decide +kernel, rfl, by decide +kernel, by decide +kernel⟩
theorem ok_rewritten {C fP f1 f2 : Addr} {fdP e1 e2 : FuncData} (d_rewritten : D K mg "rewritten" s_rewritten ["pool", "number", "expanding"] f fd) (T : PoolT K mg C) (B : Blt mg) (FP : Fun K "pair" "Pool.pair" s_PPair fP fdP) (bP : Binds K fdP ["self", "left", "right"] []) (mP : Meth K C "pair" fP) (d_expanded : D K mg "expanded" s_expanded ["pool", "number"] f1 e1) (d_contracted : D K mg "contracted" s_contracted ["pool", "number"] f2 e2) : FnOk P w K mg base CX0 3 f fd ["pool", "number", "expanding"] (spPW K C) := by
  have G_expanded : FnOk P w K mg base CX0 2 f1 e1 ["pool", "number"] (spPR K C true) := ok_expanded d_expanded T B FP bP mP
  have G_contracted : FnOk P w K mg base CX0 2 f2 e2 ["pool", "number"] (spPR K C false) := ok_contracted d_contracted T B FP bP mP
  refine d_rewritten.F.ok sc_rewritten (fun vs H Q E h => ?_) (fun cdv A outer s H vs Q E hr h => ?_)
  · obtain ⟨_, _, _, _, _, _, _, _, _, rfl, _⟩ := h
    rfl
  obtain ⟨x, d, a, b, c, m, on, ts, t, rfl, hP, hlen, hm, hN, hR⟩ := h
  refine ⟨_, (pss_cons (ps_if (pt_cmpR (op_eqD hr.units) (pe_ix ix_list (pe_fld (pv 0) rfl) (pv 1) (fun _ _ => rfl)) (pe_tup pa_nil) (nomark _)) (pss_one (ps_ret pe_non)) pss_nil)
 (pss_cons (ps_if (pt_truth (pv 2) (by intro _; rfl)) (pss_one (ps_ret (pe_call G_expanded (hr.mono (by decide)) rfl d_expanded.m d_expanded.F.kp d_expanded.b .nil pass0 (pa_cons (pv 0) (pa_cons (pv 1) pa_nil))))) pss_nil)
 (pss_one (ps_ret (pe_call G_contracted (hr.mono (by decide)) rfl d_contracted.m d_contracted.F.kp d_contracted.b .nil pass0 (pa_cons (pv 0) (pa_cons (pv 1) pa_nil))))))), ?_⟩
  obtain ⟨dx, ps, qq, ops, hx, ha, hpm, hS, hops⟩ := hP.at hm
  refine ⟨_, rfl, x, C, dx, _, _, rfl, hx, T.cl, T.n2, pf_p _ _ _ _, _, rfl, a, _, _, _, rfl, rfl, SqL.here ha, atI_nat hpm, zero_le', fun p5 hp5 => ?_⟩
  have s5 := Same.new hp5 (.tup [])
  cases t with
  | L =>
    have hops : ops = [] := hops
    subst hops
    exact ⟨.tuple [], .tuple [], ops_L ((Tp.same s5).sqT hS), Dp.tup (SqT.here upd_same) .nil, shapedE, shapedE, true, rfl, iteT (hN (by cases on <;> rfl) _ s5)⟩
  | N ta tb =>
    obtain ⟨i2, j2, rfl, h1, h2⟩ := hops
    refine ⟨_, .tuple [], ops_N ((Tp.same s5).sqT hS), Dp.tup (SqT.here upd_same) .nil, ops_sh _ _, shapedE, false, rfl, iteF ?_⟩
    have hP5 := hP.same s5
    cases on with
    | true => exact ⟨_, rfl, true, rfl, iteT ⟨_, rfl, _, rfl, x, d, a, b, c, m, ts, _, rfl, hP5, hlen, hm, (fun z => nomatch z), (fun z H' s' => hN z H' (s5.trans s')), fun u hu n ts' H' P' e' => hR u hu n ts' H' P' ((Ex4.same s5).trans e')⟩⟩
    | false => exact ⟨_, rfl, false, rfl, iteF ⟨_, rfl, _, rfl, x, d, a, b, c, m, ts, _, rfl, hP5, hlen, hm, (fun z => nomatch z), (fun z H' s' => hN z H' (s5.trans s')), fun u hu n ts' H' P' e' => hR u hu n ts' H' P' ((Ex4.same s5).trans e')⟩⟩

abbrev s_rewritten_at : Stmt := top 37
theorem sc_rewritten_at : FnScope ["pool", "number", "path", "expanding", "along", "result", "at", "left", "right"] ["pool", "number", "path", "expanding"] (defScope s_rewritten_at) := ⟨rfl, rfl, rfl, by decide +kernel, rfl, by decide +kernel, by decide +kernel⟩
def spRAB (K : PySem.W.Frag) (C CP CN CR : Addr) : Sp := fun vs H Q E => ∃ (x d a b c : Addr) (m : Nat) (z : Str) (on : Bool) (ts : List Tree) (t : Tree), vs = [.ref x, .int m, .str z, .bl on] ∧ z.length ≤ 1000 ∧ PoolA K C x d a b c H ts ∧ ts.length ≤ 800000 ∧ ts[m]? = some t ∧
  ((okp z = false ∧ ∀ H', Same H H' → E (.ref CP) none H') ∨ ∃ p, z = ptx p ∧ p.length ≤ 60 ∧ (t.st p = none → ∀ H', Same H H' → E (.ref CN) none H') ∧ (∀ u, t.st p = some u → u.r0 on = none → ∀ H', Same H H' → E (.ref CR) none H') ∧
    ∀ t', t.rwt on p = some t' → ∀ (n : Nat) (ts' : List Tree) (H' : Hp), PoolA K C x d a b c H' ts' → Ex4 d a b c H H' → Pre ts ts' → ts'[n]? = some t' → ts'.length ≤ ts.length + 63 → Q (.int n) H')
theorem ok_rewritten_at {C CP CN CR fP f1 f2 f3 f4 f5 : Addr} {fdP e1 e2 e3 e4 e5 : FuncData} {tk : Tok} (d_rewritten_at : D K mg "rewritten_at" s_rewritten_at ["pool", "number", "path", "expanding"] f fd) (T : PoolT K mg C) (B : Blt mg) (C_MAX_PATH : mg "MAX_PATH" = some (.int 60 tk)) (EP : ErrC K mg "InvalidPath" CP) (EN : ErrC K mg "PathNotFound" CN) (ER : ErrC K mg "NotRewritable" CR)
    (FP : Fun K "pair" "Pool.pair" s_PPair fP fdP) (bP : Binds K fdP ["self", "left", "right"] []) (mP : Meth K C "pair" fP)
    (d_check_path : D K mg "check_path" s_check_path ["path"] f1 e1) (d_numbers_along : D K mg "numbers_along" s_numbers_along ["pool", "number", "path"] f2 e2) (d_expanded : D K mg "expanded" s_expanded ["pool", "number"] f3 e3) (d_contracted : D K mg "contracted" s_contracted ["pool", "number"] f4 e4) (d_rewritten : D K mg "rewritten" s_rewritten ["pool", "number", "expanding"] f5 e5) :
    FnOk P w K mg base (L2N.CX P w) 4 f fd ["pool", "number", "path", "expanding"] (spRAB K C CP CN CR) := by
  have GP : FnOk P w K mg base CX0 1 fP fdP ["self", "left", "right"] (spPair K C) := ok_PPair FP T B
  have G_numbers_along : FnOk P w K mg base (L2N.CX P w) 2 f2 e2 ["pool", "number", "path"] (spAl8 K C CP CN) := ok_numbers_along d_numbers_along T B C_MAX_PATH EP EN d_check_path
  have G_rewritten : FnOk P w K mg base CX0 3 f5 e5 ["pool", "number", "expanding"] (spPW K C) := ok_rewritten d_rewritten T B FP bP mP d_expanded d_contracted
  refine Fun.okN d_rewritten_at.F sc_rewritten_at (fun vs H Q E h => ?_) (fun cdv A outer s H vs Q E hr h => ?_)
  · obtain ⟨_, _, _, _, _, _, _, _, _, _, rfl, _⟩ := h
    rfl
  obtain ⟨x, d, a, b, c, m, z, on, ts, t, rfl, hz, hP, hlen, hm, hW⟩ := h
  have n1 : (pf d a b c).lookup ("pair" : Str) = none := pf_no _ _ _ _ (by decide +kernel) (by decide +kernel) (by decide +kernel) (by decide +kernel)
  refine ⟨_, (pss_cons (ps_set (i := 4) sc_rewritten_at.nd rfl (Or.inl rfl) (pe_call G_numbers_along (hr.mono (by decide)) rfl d_numbers_along.m d_numbers_along.F.kp d_numbers_along.b .nil passD (pa_cons (pv 0) (pa_cons (pv 1) (pa_cons (pv 2) pa_nil)))))
 (pss_cons (ps_set (i := 5) sc_rewritten_at.nd rfl (Or.inl rfl) (pe_call G_rewritten (hr.mono (by decide)) rfl d_rewritten.m d_rewritten.F.kp d_rewritten.b .nil pass0 (pa_cons (pv 0) (pa_cons (pe_ix ix_list (pv 4) (pe_un un_neg pe_int) (fun _ _ => rfl)) (pa_cons (pv 3) pa_nil)))))
 (pss_cons (ps_if (pt_cmpR op_isN (pv 5) pe_non (nomark _)) (pss_one (L2N.ps_raise rfl (L2N.takes_of rfl rfl rfl rfl) (L2N.pmk_own PySem.F.excBase_ValueError ER.q ER.g ER.k (raises_own ER.b ER.t) (by exact rfl)))) pss_nil)
 (pss_cons (ps_for (passes_of rfl) rfl (pi_range3 (by rfl) B.range (pa_cons (pe_op op_sub (pe_callB call_len_str (by rfl) B.len PySem.boot_len (pa_cons (pv 2) pa_nil)) pe_int) (pa_cons (pe_un un_neg pe_int) (pa_cons (pe_un un_neg pe_int) pa_nil)))) (pg_name (i := 6) sc_rewritten_at.nd rfl (Or.inl rfl))
  (pss_cons (ps_asg (pe_ix ix_list (pe_fld (pv 0) rfl) (pe_ix ix_list (pv 4) (pv 6) (fun _ _ => rfl)) (fun _ _ => rfl)) (pg_tup (by rfl) (pgs_cons (pg_name (i := 7) sc_rewritten_at.nd rfl (Or.inl rfl)) (pgs_cons (pg_name (i := 8) sc_rewritten_at.nd rfl (Or.inl rfl)) pgs_nil))))
 (pss_one (ps_set (i := 5) sc_rewritten_at.nd rfl (Or.inl rfl) (pe_ifExp (pt_cmpR op_eq (pe_ix ix_str (pv 2) (pv 6) (fun _ _ => rfl)) pe_str (nomark _)) (pe_meth (pv 0) T.cl mP GP (hr.mono (by omega)) bP .nil pass0 (pa_cons (pv 5) (pa_cons (pv 8) pa_nil))) (pe_meth (pv 0) T.cl mP GP (hr.mono (by omega)) bP .nil pass0 (pa_cons (pv 7) (pa_cons (pv 5) pa_nil))))))))
 (pss_one (ps_ret (pv 5))))))), ?_⟩
  refine ⟨_, rfl, _, rfl, _, rfl, x, d, a, b, c, m, z, ts, t, rfl, hz, hP, hm, ?_⟩
  rcases hW with ⟨bad, hE⟩ | ⟨p, rfl, hp, hN, hX, hR⟩
  · exact .inl ⟨bad, hE⟩
  refine .inr ⟨p, rfl, hp, hN, fun u hu l ks H1 s1 nl hl hks hall => ?_⟩
  obtain ⟨k, hk1, hk2⟩ := hall p.length u (Nat.le_refl _) (by rw [List.take_of_length_le (Nat.le_refl _)]; exact hu)
  have P1 := hP.same s1
  have hlast : atI (ks.map jV) (-1) = some (jV k) := by
    rcases List.eq_nil_or_concat ks with rfl | ⟨k0, kl, rfl⟩
    · cases hk1
    · rw [List.concat_eq_append] at *
      rw [List.map_append]
      have : k0.length = p.length := by
        rw [List.length_append] at hks
        simpa using hks
      rw [List.getElem?_append_right (by omega), this, Nat.sub_self] at hk1
      cases hk1
      exact atI_last _ _
  refine ⟨_, rfl, _, rfl, _, rfl, l, _, _, _, rfl, rfl, SqL.here hl, hlast, _, rfl, x, d, a, b, c, k, on, ts, u, rfl, P1, by omega, hk2, fun hn H2 s2 => ?_, fun u' hu' n ts2 H2 P2 ex2 pr2 hn2 ln2 => ?_⟩
  · exact ⟨_, rfl, rfl, _, rfl, ite_yes (decide_eq_true rfl) (hX u hu hn H2 (s1.trans s2))⟩
  refine ⟨_, rfl, rfl, _, rfl, ite_no (decide_eq_false fun z => nomatch z) ?_⟩
  have lp : (ptx p).length ≤ sizeLine := by
    rw [ptx_len]
    exact fits (by omega)
  have nla : l ≠ d ∧ l ≠ a ∧ l ≠ b ∧ l ≠ c := by
    obtain ⟨dx, es, ps, cs, hx, hd, ha, hb, hc, _⟩ := hP
    exact ⟨(ne_of_none hd nl).symm, (ne_of_none ha nl).symm, (ne_of_none hb nl).symm, (ne_of_none hc nl).symm⟩
  have ex02 : Ex4 d a b c H H2 := (Ex4.same s1).trans ex2
  have hl2 := ex2 _ _ hl nla.1 nla.2.1 nla.2.2.1 nla.2.2.2
  refine ⟨_, rfl, ptx p, rfl, lp, _, _, rfl, rfl, _, rfl, _, rfl, _, _, _, _, rfl, RgC.neg (by rw [ptx_len]; omega) (by rw [ptx_len]; omega) (by omega) (by omega), ?_⟩
  rw [ptx_len]
  have eN : ((p.length : Int) - 1 - -1).toNat = p.length := by omega
  rw [eN]
  refine for_rangeC (lo := (p.length : Int) - 1) (c := -1) (n := p.length) (fun i σ G => ∃ (x6 x7 x8 : Option V) (n : Nat) (ts2 : List Tree) (w v : Tree), σ = [some (.ref x), some (.int m), some (.str (ptx p)), some (.bl on), some (.ref l), some (.int n), x6, x7, x8] ∧ PoolA K C x d a b c G ts2 ∧ Ex4 d a b c H G ∧ Pre ts ts2 ∧ ts2.length ≤ ts.length + 3 + i ∧ G l = some (.lst (ks.map jV)) ∧ t.st (p.take (p.length - i)) = some w ∧ w.rp (p.drop (p.length - i)) u' = some v ∧ ts2[n]? = some v) ⟨_, _, _, n, ts2, u, u', rfl, P2, ex02, pr2, by omega, hl2, by rw [Nat.sub_zero, List.take_of_length_le (Nat.le_refl _)]; exact hu, by rw [Nat.sub_zero, List.drop_eq_nil_of_le (Nat.le_refl _)]; exact Tree.rp_nil u u', hn2⟩ ?_ ?_
  · rintro i σ G hi ⟨x6, x7, x8, n, ts2, w, v, rfl, P2, ex2, pr2, ln2, hl2, hst, hrp, hn2⟩
    obtain ⟨e, he⟩ : ∃ e, e = p.length - 1 - i := ⟨_, rfl⟩
    have hep : e < p.length := by omega
    have e1 : p.length - i = e + 1 := by omega
    have e2 : p.length - (i + 1) = e := by omega
    rw [e1] at hst hrp
    rw [e2]
    have eI : (p.length : Int) - 1 + (i : Nat) * (-1) = (e : Int) := by omega
    rw [eI]
    obtain ⟨bb, eb⟩ : ∃ bb, p[e] = bb := ⟨_, rfl⟩
    have etk : p.take (e + 1) = p.take e ++ [bb] := by rw [List.take_succ_eq_append_getElem hep, eb]
    have edr : p.drop e = bb :: p.drop (e + 1) := by rw [List.drop_eq_getElem_cons hep, eb]
    rw [etk, Tree.st_app] at hst
    cases est : t.st (p.take e) with
    | none => rw [est] at hst; cases hst
    | some w' =>
      rw [est] at hst
      have hst : w'.st [bb] = some w := hst
      obtain ⟨k', hk1, hk2⟩ := hall e w' (by omega) est
      have hk3 := pr2 _ _ hk2
      cases w' with
      | L => cases bb <;> cases hst
      | N wl wr =>
        obtain ⟨dx, ps, qq, ops, hx, ha, hpm, hS, il, ir, rfl, hul, hur⟩ := P2.at hk3
        refine ⟨_, rfl, x, C, dx, _, _, rfl, hx, T.cl, T.n2, pf_p _ _ _ _, _, rfl, _, rfl, l, _, _, _, rfl, rfl, SqL.here hl2, atI_nat (by rw [List.getElem?_map, hk1]; rfl), a, _, _, _, rfl, rfl, SqL.here ha, atI_nat hpm, qq, _, rfl, hS, rfl, _, _, rfl, _, _, rfl, rfl, ?_⟩
        have atE : atI (ptx p).cps.toList (e : Int) = some (if bb then 49 else 48) := by
          rw [ptx_cps]
          refine atI_nat ?_
          show (p.map fun b => if b then 49 else 48)[e]? = _
          rw [List.getElem?_map, List.getElem?_eq_getElem hep, eb]
          rfl
        cases bb with
        | false =>
          have hw : wl = w := Option.some.inj ((Tree.st_nil wl).symm.trans hst)
          subst hw
          refine ⟨_, rfl, _, rfl, _, _, _, rfl, rfl, lp, atE, rfl, _, rfl, ite_yes (by decide +kernel) ?_⟩
          refine ⟨_, rfl, x, dx, _, rfl, hx, n1, _, rfl, _, rfl, x, d, a, b, c, n, ir, ts2, v, wr, rfl, P2, by omega, hn2, hur, fun n' ts3 H3 P3 e3 pr3 hn3 ln3 => ?_⟩
          exact ⟨_, _, _, n', ts3, _, _, rfl, P3, ex2.trans e3, pr2.trans pr3, by omega, e3 _ _ hl2 nla.1 nla.2.1 nla.2.2.1 nla.2.2.2, rfl, by rw [edr]; show (wl.rp (p.drop (e + 1)) u').map (fun l' => Tree.N l' wr) = some (.N v wr); rw [hrp]; rfl, hn3⟩
        | true =>
          have hw : wr = w := Option.some.inj ((Tree.st_nil wr).symm.trans hst)
          subst hw
          refine ⟨_, rfl, _, rfl, _, _, _, rfl, rfl, lp, atE, rfl, _, rfl, ite_no (by decide +kernel) ?_⟩
          refine ⟨_, rfl, x, dx, _, rfl, hx, n1, _, rfl, _, rfl, x, d, a, b, c, il, n, ts2, wl, v, rfl, P2, by omega, hul, hn2, fun n' ts3 H3 P3 e3 pr3 hn3 ln3 => ?_⟩
          exact ⟨_, _, _, n', ts3, _, _, rfl, P3, ex2.trans e3, pr2.trans pr3, by omega, e3 _ _ hl2 nla.1 nla.2.1 nla.2.2.1 nla.2.2.2, rfl, by rw [edr]; show (wr.rp (p.drop (e + 1)) u').map (fun r' => Tree.N wl r') = some (.N wl v); rw [hrp]; rfl, hn3⟩
  · rintro σ G ⟨x6, x7, x8, n, ts2, w, v, rfl, P2, ex2, pr2, ln2, hl2, hst, hrp, hn2⟩
    rw [Nat.sub_self, List.take_zero, Tree.st_nil] at hst
    cases hst
    rw [Nat.sub_self, List.drop_zero] at hrp
    have hw : t.rwt on p = some v := by
      unfold Tree.rwt
      rw [hu]
      show (u.r0 on).bind (fun u' => t.rp p u') = some v
      rw [hu']
      exact hrp
    exact ⟨_, rfl, hR v hw n ts2 G P2 ex2 pr2 hn2 (by omega)⟩

abbrev s_apply_steps : Stmt := top 41
theorem sc_apply_steps : FnScope ["term", "steps", "pool", "number", "position", "path", "expanding"] ["term", "steps"] (defScope s_apply_steps) := ⟨rfl, rfl, rfl, by decide +kernel, rfl, by decide +kernel, by decide +kernel⟩
theorem ok_apply_steps {Cp CI CP CN CR CL CS fI fP fM fG fS f1 f2 f3 f4 f5 f6 f7 f8 f9 : Addr} {fdI fdP fdM fdG fdS e1 e2 e3 e4 e5 e6 e7 e8 e9 : FuncData} {tk tk2 tk3 : Tok} (d_apply_steps : D K mg "apply_steps" s_apply_steps ["term", "steps"] f fd) (T : PoolT K mg Cp) (B : Blt mg) (C : Cst mg) (GEN : ∃ t, mg "GENERATOR" = some (.int 0 t)) (C_MAX_PATH : mg "MAX_PATH" = some (.int 60 tk)) (C_MAX_STEP_SIZE : mg "MAX_STEP_SIZE" = some (.int 2000 tk2)) (C_MAX_POOL : mg "MAX_POOL" = some (.int 20000 tk3)) (EI : ErrC K mg "InvalidTerm" CI) (EP : ErrC K mg "InvalidPath" CP) (EN : ErrC K mg "PathNotFound" CN) (ER : ErrC K mg "NotRewritable" CR)
    (FLG : FunS P K mg "TooLarge" "TooLarge.__init__" s_TLInit ["self", "size"] CL fG fdG) (nG : PySem.W.findIn K (.ref CL) "size" = some none) (FLS : FunS P K mg "InvalidStep" "InvalidStep.__init__" s_ISInit ["self", "position"] CS fS fdS) (nS : PySem.W.findIn K (.ref CS) "position" = some none)
    (mP1 : PySem.W.exmAny K (.ref CP) [.ref CP, .ref CN, .ref CR] = some true) (mN1 : PySem.W.exmAny K (.ref CN) [.ref CP, .ref CN, .ref CR] = some true) (mR1 : PySem.W.exmAny K (.ref CR) [.ref CP, .ref CN, .ref CR] = some true)
    (M : L2.Mk K Cp fI) (FI : Fun K "__init__" "Pool.__init__" s_PInit fI fdI) (bI : Binds K fdI ["self"] []) (FP : Fun K "pair" "Pool.pair" s_PPair fP fdP) (bP : Binds K fdP ["self", "left", "right"] []) (mP : Meth K Cp "pair" fP)
    (FN : Fun K "number_of" "Pool.number_of" s_PNum fM fdM) (bN : Binds K fdM ["self", "term"] []) (mN : Meth K Cp "number_of" fM)
    (d_is_pair : D K mg "is_pair" s_is_pair ["part"] f1 e1) (d_is_term : D K mg "is_term" s_is_term ["term"] f2 e2) (d_check_term : D K mg "check_term" s_check_term ["term"] f3 e3) (d_check_path : D K mg "check_path" s_check_path ["path"] f4 e4) (d_numbers_along : D K mg "numbers_along" s_numbers_along ["pool", "number", "path"] f5 e5)
    (d_expanded : D K mg "expanded" s_expanded ["pool", "number"] f6 e6) (d_contracted : D K mg "contracted" s_contracted ["pool", "number"] f7 e7) (d_rewritten : D K mg "rewritten" s_rewritten ["pool", "number", "expanding"] f8 e8) (d_rewritten_at : D K mg "rewritten_at" s_rewritten_at ["pool", "number", "path", "expanding"] f9 e9) :
    FnOk P w K mg base (L2C.CX P w) 10 f fd ["term", "steps"] (spApp K CI CL CS) := by
  have GI : FnOk P w K mg base CX0 1 fI fdI ["self"] (spPInit K Cp) := ok_PInit FI T
  have GN : FnOk P w K mg base CX0 8 fM fdM ["self", "term"] (spNum K Cp 7) := ok_PNum FN bN mN T B GEN FP bP mP 7
  have GLG : FnOk P w K mg base CX0 1 fG fdG ["self", "size"] (spS CL "size" okInt) := ok_TLInit FLG nG
  have GLSH : L2H.FnH P w K mg base CX0 1 fS fdS ["self", "position"] (spS CS "position" okInt) := ok_ISInitH FLS nS
  have G_check_term : FnOk P w K mg base (L2N.CX P w) 3 f3 e3 ["term"] (spChk K CI) := ok_check_term d_check_term B C EI d_is_pair d_is_term
  have G_rewritten_at : FnOk P w K mg base (L2N.CX P w) 4 f9 e9 ["pool", "number", "path", "expanding"] (spRAB K Cp CP CN CR) := ok_rewritten_at d_rewritten_at T B C_MAX_PATH EP EN ER FP bP mP d_check_path d_numbers_along d_expanded d_contracted d_rewritten
  refine Fun.okC d_apply_steps.F sc_apply_steps (fun vs H Q E h => ?_) (fun cdv A outer s H vs Q E hr h => ?_)
  · obtain ⟨_, _, _, _, _, rfl, _⟩ := h
    rfl
  obtain ⟨v, b0, dd, us, ms, rfl, hN, hn, hb, hM, hml, hI, hW⟩ := h
  rcases hb with hb | hb
  · refine ⟨_, (pss_cons (ps_expr (pe_call G_check_term (hr.mono (by decide)) rfl d_check_term.m d_check_term.F.kp d_check_term.b .nil passDC (pa_cons (pv 0) pa_nil)))
 (pss_cons (ps_set (i := 2) sc_apply_steps.nd rfl (Or.inl rfl) (pe_make0 M GI (hr.mono (by decide)) rfl T.mgC bI .nil pass0))
 (pss_cons (ps_set (i := 3) sc_apply_steps.nd rfl (Or.inl rfl) (pe_meth (pv 2) T.cl mN GN (hr.mono (by decide)) bN .nil pass0 (pa_cons (pv 0) pa_nil)))
 (pss_cons (ps_for (passes_of rfl) rfl (pi_enum (by rfl) B.enumerate (pa_cons (pv 1) pa_nil)) (pg_tup (by rfl) (pgs_cons (pg_name (i := 4) sc_apply_steps.nd rfl (Or.inl rfl)) (pgs_cons (pg_tup (by rfl) (pgs_cons (pg_name (i := 5) sc_apply_steps.nd rfl (Or.inl rfl)) (pgs_cons (pg_name (i := 6) sc_apply_steps.nd rfl (Or.inl rfl)) pgs_nil))) pgs_nil)))
  (pss_cons (ps_try_sel rfl rfl (sel_tup3 ⟨rfl, by decide +kernel, .inl EP.g⟩ ⟨rfl, by decide +kernel, .inl EN.g⟩ ⟨rfl, by decide +kernel, .inl ER.g⟩) (fun hd => L2H.passesAt_of rfl hd) (L2C.takes_of rfl rfl rfl rfl) (fun W pn xe tk po => pss_one (ps_set (i := 3) sc_apply_steps.nd rfl (Or.inl rfl) (pe_callSD (E := fun σ cls d H => W cls d σ H) G_rewritten_at (hr.mono (by decide)) rfl d_rewritten_at.m d_rewritten_at.F.kp d_rewritten_at.b .nil (passAt tk) (pa_cons (pv 2) (pa_cons (pv 3) (pa_cons (pv 5) (pa_cons (pv 6) pa_nil))))))) (fun a oe cls d pn tkS hot => pss_one (ps_raiseHC hot tkS (L2H.pmk5_oexH FLS.T FLS.iC FLS.tI GLSH (L2H.roomH_mark (hr.mono (by decide)) _) hot FLS.b (fun _ _ _ _ _ _ _ h => h.elim) rfl FLS.m (pa_cons (pv 4) pa_nil)))))
 (pss_cons (ps_if (pt_cmpR op_gt (pe_ix ix_list (pe_fld (pv 2) rfl) (pv 3) (fun _ _ => rfl)) (pe_glob (v := .int 2000) rfl C_MAX_STEP_SIZE ⟨_, rfl⟩) (nomark _)) (pss_one (L2N.ps_raise rfl (L2C.takes_of rfl rfl rfl rfl).n (pmkN_oex FLG.T FLG.iC FLG.tI GLG (hr.mono (by decide)) FLG.b (fun _ _ _ _ _ _ _ h => h.elim) (by exact rfl) FLG.m (pa_cons (pe_ix ix_list (pe_fld (pv 2) rfl) (pv 3) (fun _ _ => rfl)) pa_nil)))) pss_nil)
 (pss_one (ps_if (pt_cmpR op_gt (pe_callB call_len_seq (by rfl) B.len PySem.boot_len (pa_cons (pe_fld (pv 2) rfl) pa_nil)) (pe_glob (v := .int 20000) rfl C_MAX_POOL ⟨_, rfl⟩) (nomark _)) (pss_one ps_never) pss_nil)))))
 (pss_one (ps_ret (pe_ix ix_list (pe_fld (pv 2) rfl) (pv 3) (fun _ _ => rfl)))))))), ?_⟩
    refine ⟨_, rfl, v, dd, rfl, hN, hn, fun ok H1 s1 => ?_, fun no H1 s1 => hI no H1 s1⟩
    obtain ⟨t, rfl, hsz, hdp⟩ := okd_tree ok
    obtain ⟨q, qI, qB⟩ := hW t rfl hsz hdp
    have hn := tree_nodes t
    intro x dx nx ndx nex
    have s0 : Same H1 (upd (upd H1 dx (.own x)) x (.ins Cp dx [])) := fun e o he => by
      rw [upd_ne (ne_of_none he nx), upd_ne (ne_of_none he ndx)]
      exact he
    refine ⟨H1, x, dx, rfl, s0, nx, upd_same, fun d' a b c H2 P2 s2 z1 z2 z3 z4 => ⟨rfl, ?_⟩⟩
    have n1 : (pf d' a b c).lookup ("number_of" : Str) = none := pf_no _ _ _ _ (by decide +kernel) (by decide +kernel) (by decide +kernel) (by decide +kernel)
    obtain ⟨dx2, es2, ps2, cs2, hx2, _⟩ := id P2
    have s02 := s1.trans s2
    refine ⟨_, rfl, x, dx2, _, rfl, hx2, n1, _, rfl, x, d', a, b, c, v, t, [.L], rfl, P2, ta_mono (Tp.same s02) hN.dp, by omega, by omega, by show 1 + t.nodes ≤ 1000000; omega, fun m ts3 H3 P3 x3 pr3 hm ln3 => ?_⟩
    have exA : ∀ {G4 H4 : Hp}, Same H G4 → Ex4 d' a b c G4 H4 → Same H H4 := fun {G4 H4} s4 e4 e o he => e4 e o (s4 _ _ he) (ne_of_none he (s1.free z1)) (ne_of_none he (s1.free z2)) (ne_of_none he (s1.free z3)) (ne_of_none he (s1.free z4))
    have s3 := exA s02 x3
    have ln3 : ts3.length ≤ 30 := by
      have : ts3.length ≤ 1 + t.nodes := ln3
      omega
    clear x3 pr3 P2 hx2 s0 n1 nx ndx nex
    refine ⟨_, rfl, b0, us, rfl, s3.seq hb, for_EL (xs := us) (fun j σ G => ∃ (x4 x5 x6 : Option V) (n : Nat) (ts : List Tree) (t' : Tree), σ = [some v, some (.ref b0), some (.ref x), some (.int (n : Int)), x4, x5, x6] ∧ PoolA K Cp x d' a b c G ts ∧ Same H G ∧ ts[n]? = some t' ∧ ts.length ≤ 30 + 63 * j ∧ t'.sz ≤ 2000 ∧ runS j t' (ms.drop j) = runS 0 t ms) ⟨none, none, none, m, ts3, t, rfl, P3, s3, hm, by omega, by omega, rfl⟩ (fun j σ G z => ?_) ?_ ?_⟩
    · obtain ⟨_, _, _, _, _, _, _, _, sm, _⟩ := z
      exact sm.seq hb
    · rintro j v' σ G hv ⟨x4, x5, x6, n, ts, t', rfl, PG, sm, hn', ln, hsz', hrun⟩ tt ntt
      obtain ⟨mm, hmm, hq⟩ := hM.at hv
      have hj : j < ms.length := (List.getElem?_eq_some_iff.mp hmm).1
      have ed : ms.drop j = mm :: ms.drop (j + 1) := by
        rw [List.drop_eq_getElem_cons hj, (List.getElem?_eq_some_iff.mp hmm).2]
      rw [ed] at hrun
      obtain ⟨qa, z, rfl, hqa, ⟨hz1, hzp⟩, _⟩ := hq
      have st := Same.new ntt (.tup [.int (j : Nat), .ref qa])
      have smt := sm.trans st
      have PG1 := PG.same st
      have okI : okInt (V.int ((j : Nat) : Int)) := ⟨_, rfl, by omega, by omega⟩
      refine ⟨tt, _, rfl, SqT.here upd_same, rfl, _, _, rfl, _, _, rfl, qa, _, rfl, (Tp.same smt).sqT hqa, rfl, _, _, rfl, _, _, rfl, rfl, rfl, ?_⟩
      generalize (upd G tt (.tup [.int (j : Nat), .ref qa])) = G1 at *
      clear PG hv hmm
      have inv : runS j t' (mm :: ms.drop (j + 1)) = .inv j → ∀ {H' : Hp}, Same G1 H' → tMkO CS (spS CS "position" okInt) [] (tCons (tVar 4) tNil) [some v, some (.ref b0), some (.ref x), some (.int (n : Int)), some (.int ((j : Nat) : Int)), some (.str z), some (.bl mm.2)] H' (fun cls d H' => E cls d H') := fun hr {H'} s' => out_own rfl okI fun e H2 s2 he hx => qI j (by rw [← hrun, hr]) e H2 ((smt.trans s').trans s2) ((smt.trans s').free he) hx
      refine ⟨_, rfl, _, rfl, _, rfl, _, rfl, x, d', a, b, c, n, z, mm.2, ts, t', rfl, hz1, PG1, by omega, hn', ?_⟩
      rcases hzp with ⟨e1, e2⟩ | ⟨p, e1, e2, e3⟩
      · have hs : stR t' mm = none := by unfold stR; rw [e1]; rfl
        exact .inl ⟨e2, fun H' s' => ⟨true, mP1, fun _ _ _ => inv (runS_none hs) s', fun y => nomatch y⟩⟩
      · have hs : stR t' mm = t'.rwt mm.2 p := by unfold stR; rw [e1]; rfl
        refine .inr ⟨p, e2, e3, fun hx H' s' => ⟨true, mN1, fun _ _ _ => inv (runS_none (by rw [hs]; unfold Tree.rwt; rw [hx]; rfl)) s', fun y => nomatch y⟩, fun u hu hx H' s' => ⟨true, mR1, fun _ _ _ => inv (runS_none (by rw [hs]; unfold Tree.rwt; rw [hu]; show (u.r0 mm.2).bind _ = none; rw [hx]; rfl)) s', fun y => nomatch y⟩, fun t'' ht n' ts' H4 P4 ex4 pr4 hn4 ln4 => ?_⟩
        rw [← hs] at ht
        have s4 := exA smt ex4
        obtain ⟨dx4, es4, ps4, cs4, hx4, hd4, ha4, hb4, hc4, _, _, _, gd4, op4, dd4⟩ := id P4
        have hsz4 : (ts'.map fun t => V.int (t.sz : Nat))[n']? = some (V.int (t''.sz : Nat)) := by rw [List.getElem?_map, hn4]; rfl
        refine ⟨_, rfl, x, Cp, dx4, _, _, rfl, hx4, T.cl, T.n3, pf_s _ _ _ _, _, rfl, b, _, _, _, rfl, rfl, SqL.here hb4, atI_nat hsz4, _, _, rfl, rfl, _, rfl, ?_⟩
        by_cases big : 2000 < t''.sz
        · refine ite_yes (decide_eq_true (by omega)) ?_
          refine ⟨_, rfl, x, Cp, dx4, _, _, rfl, hx4, T.cl, T.n3, pf_s _ _ _ _, _, rfl, b, _, _, _, rfl, rfl, SqL.here hb4, atI_nat hsz4, ?_⟩
          have hl4 := (show t'.rwt mm.2 p = some t'' by rw [← hs]; exact ht)
          have h2 := Tree.rwt_sz2 hl4
          exact out_core (okv := okInt) ⟨_, rfl, by omega, by omega⟩ fun e H5 s5 he hx => qB t''.sz (by rw [← hrun, runS_big ht big]) e H5 (s4.trans s5) (s4.free he) hx
        · refine ite_no (decide_eq_false (by omega)) ?_
          refine ⟨_, rfl, x, Cp, dx4, _, _, rfl, hx4, T.cl, T.n2, pf_p _ _ _ _, a, _, rfl, .inl (SqL.here ha4), _, _, rfl, rfl, _, rfl, ite_no (decide_eq_false ?_) ?_⟩
          · have h1 := op4.len
            have h2 := gd4.len
            rw [h1]
            omega
          · exact ⟨_, _, _, n', ts', t'', rfl, P4, s4, hn4, by omega, by omega, by rw [← hrun, runS_on ht big]⟩
    · rintro σ G ⟨x4, x5, x6, n, ts, t', rfl, PG, sm, hn', ln, hsz', hrun⟩
      rw [hM.len, List.drop_length] at hrun
      have hrun : XR.ok t' = runS 0 t ms := hrun
      obtain ⟨dx4, es4, ps4, cs4, hx4, _, _, _, hc4, _, _, _, _, _, dd4⟩ := id PG
      obtain ⟨w', hw1, hw2⟩ := dpAll_at dd4 n t'.d (by rw [List.getElem?_map, hn']; rfl)
      exact ⟨_, rfl, x, Cp, dx4, _, _, rfl, hx4, T.cl, T.n4, pf_t _ _ _ _, _, rfl, c, _, _, w', rfl, rfl, SqL.here hc4, atI_nat hw1, q t' hrun.symm w' G sm hw2⟩
  · refine ⟨_, (pss_cons (ps_expr (pe_call G_check_term (hr.mono (by decide)) rfl d_check_term.m d_check_term.F.kp d_check_term.b .nil passDC (pa_cons (pv 0) pa_nil)))
 (pss_cons (ps_set (i := 2) sc_apply_steps.nd rfl (Or.inl rfl) (pe_make0 M GI (hr.mono (by decide)) rfl T.mgC bI .nil pass0))
 (pss_cons (ps_set (i := 3) sc_apply_steps.nd rfl (Or.inl rfl) (pe_meth (pv 2) T.cl mN GN (hr.mono (by decide)) bN .nil pass0 (pa_cons (pv 0) pa_nil)))
 (pss_cons (ps_for (passes_of rfl) rfl (pi_ET (by rfl) B.enumerate (pa_cons (pv 1) pa_nil)) (pg_tup (by rfl) (pgs_cons (pg_name (i := 4) sc_apply_steps.nd rfl (Or.inl rfl)) (pgs_cons (pg_tup (by rfl) (pgs_cons (pg_name (i := 5) sc_apply_steps.nd rfl (Or.inl rfl)) (pgs_cons (pg_name (i := 6) sc_apply_steps.nd rfl (Or.inl rfl)) pgs_nil))) pgs_nil)))
  (pss_cons (ps_try_sel rfl rfl (sel_tup3 ⟨rfl, by decide +kernel, .inl EP.g⟩ ⟨rfl, by decide +kernel, .inl EN.g⟩ ⟨rfl, by decide +kernel, .inl ER.g⟩) (fun hd => L2H.passesAt_of rfl hd) (L2C.takes_of rfl rfl rfl rfl) (fun W pn xe tk po => pss_one (ps_set (i := 3) sc_apply_steps.nd rfl (Or.inl rfl) (pe_callSD (E := fun σ cls d H => W cls d σ H) G_rewritten_at (hr.mono (by decide)) rfl d_rewritten_at.m d_rewritten_at.F.kp d_rewritten_at.b .nil (passAt tk) (pa_cons (pv 2) (pa_cons (pv 3) (pa_cons (pv 5) (pa_cons (pv 6) pa_nil))))))) (fun a oe cls d pn tkS hot => pss_one (ps_raiseHC hot tkS (L2H.pmk5_oexH FLS.T FLS.iC FLS.tI GLSH (L2H.roomH_mark (hr.mono (by decide)) _) hot FLS.b (fun _ _ _ _ _ _ _ h => h.elim) rfl FLS.m (pa_cons (pv 4) pa_nil)))))
 (pss_cons (ps_if (pt_cmpR op_gt (pe_ix ix_list (pe_fld (pv 2) rfl) (pv 3) (fun _ _ => rfl)) (pe_glob (v := .int 2000) rfl C_MAX_STEP_SIZE ⟨_, rfl⟩) (nomark _)) (pss_one (L2N.ps_raise rfl (L2C.takes_of rfl rfl rfl rfl).n (pmkN_oex FLG.T FLG.iC FLG.tI GLG (hr.mono (by decide)) FLG.b (fun _ _ _ _ _ _ _ h => h.elim) (by exact rfl) FLG.m (pa_cons (pe_ix ix_list (pe_fld (pv 2) rfl) (pv 3) (fun _ _ => rfl)) pa_nil)))) pss_nil)
 (pss_one (ps_if (pt_cmpR op_gt (pe_callB call_len_seq (by rfl) B.len PySem.boot_len (pa_cons (pe_fld (pv 2) rfl) pa_nil)) (pe_glob (v := .int 20000) rfl C_MAX_POOL ⟨_, rfl⟩) (nomark _)) (pss_one ps_never) pss_nil)))))
 (pss_one (ps_ret (pe_ix ix_list (pe_fld (pv 2) rfl) (pv 3) (fun _ _ => rfl)))))))), ?_⟩
    refine ⟨_, rfl, v, dd, rfl, hN, hn, fun ok H1 s1 => ?_, fun no H1 s1 => hI no H1 s1⟩
    obtain ⟨t, rfl, hsz, hdp⟩ := okd_tree ok
    obtain ⟨q, qI, qB⟩ := hW t rfl hsz hdp
    have hn := tree_nodes t
    intro x dx nx ndx nex
    have s0 : Same H1 (upd (upd H1 dx (.own x)) x (.ins Cp dx [])) := fun e o he => by
      rw [upd_ne (ne_of_none he nx), upd_ne (ne_of_none he ndx)]
      exact he
    refine ⟨H1, x, dx, rfl, s0, nx, upd_same, fun d' a b c H2 P2 s2 z1 z2 z3 z4 => ⟨rfl, ?_⟩⟩
    have n1 : (pf d' a b c).lookup ("number_of" : Str) = none := pf_no _ _ _ _ (by decide +kernel) (by decide +kernel) (by decide +kernel) (by decide +kernel)
    obtain ⟨dx2, es2, ps2, cs2, hx2, _⟩ := id P2
    have s02 := s1.trans s2
    refine ⟨_, rfl, x, dx2, _, rfl, hx2, n1, _, rfl, x, d', a, b, c, v, t, [.L], rfl, P2, ta_mono (Tp.same s02) hN.dp, by omega, by omega, by show 1 + t.nodes ≤ 1000000; omega, fun m ts3 H3 P3 x3 pr3 hm ln3 => ?_⟩
    have exA : ∀ {G4 H4 : Hp}, Same H G4 → Ex4 d' a b c G4 H4 → Same H H4 := fun {G4 H4} s4 e4 e o he => e4 e o (s4 _ _ he) (ne_of_none he (s1.free z1)) (ne_of_none he (s1.free z2)) (ne_of_none he (s1.free z3)) (ne_of_none he (s1.free z4))
    have s3 := exA s02 x3
    have ln3 : ts3.length ≤ 30 := by
      have : ts3.length ≤ 1 + t.nodes := ln3
      omega
    clear x3 pr3 P2 hx2 s0 n1 nx ndx nex
    refine ⟨_, rfl, b0, us, rfl, (Tp.same s3).sqT hb, for_ET (xs := us) (fun j σ G => ∃ (x4 x5 x6 : Option V) (n : Nat) (ts : List Tree) (t' : Tree), σ = [some v, some (.ref b0), some (.ref x), some (.int (n : Int)), x4, x5, x6] ∧ PoolA K Cp x d' a b c G ts ∧ Same H G ∧ ts[n]? = some t' ∧ ts.length ≤ 30 + 63 * j ∧ t'.sz ≤ 2000 ∧ runS j t' (ms.drop j) = runS 0 t ms) ⟨none, none, none, m, ts3, t, rfl, P3, s3, hm, by omega, by omega, rfl⟩ (fun j σ G z => ?_) ?_ ?_⟩
    · obtain ⟨_, _, _, _, _, _, _, _, sm, _⟩ := z
      exact (Tp.same sm).sqT hb
    · rintro j v' σ G hv ⟨x4, x5, x6, n, ts, t', rfl, PG, sm, hn', ln, hsz', hrun⟩ tt ntt
      obtain ⟨mm, hmm, hq⟩ := hM.at hv
      have hj : j < ms.length := (List.getElem?_eq_some_iff.mp hmm).1
      have ed : ms.drop j = mm :: ms.drop (j + 1) := by
        rw [List.drop_eq_getElem_cons hj, (List.getElem?_eq_some_iff.mp hmm).2]
      rw [ed] at hrun
      obtain ⟨qa, z, rfl, hqa, ⟨hz1, hzp⟩, _⟩ := hq
      have st := Same.new ntt (.tup [.int (j : Nat), .ref qa])
      have smt := sm.trans st
      have PG1 := PG.same st
      have okI : okInt (V.int ((j : Nat) : Int)) := ⟨_, rfl, by omega, by omega⟩
      refine ⟨tt, _, rfl, SqT.here upd_same, rfl, _, _, rfl, _, _, rfl, qa, _, rfl, (Tp.same smt).sqT hqa, rfl, _, _, rfl, _, _, rfl, rfl, rfl, ?_⟩
      generalize (upd G tt (.tup [.int (j : Nat), .ref qa])) = G1 at *
      clear PG hv hmm
      have inv : runS j t' (mm :: ms.drop (j + 1)) = .inv j → ∀ {H' : Hp}, Same G1 H' → tMkO CS (spS CS "position" okInt) [] (tCons (tVar 4) tNil) [some v, some (.ref b0), some (.ref x), some (.int (n : Int)), some (.int ((j : Nat) : Int)), some (.str z), some (.bl mm.2)] H' (fun cls d H' => E cls d H') := fun hr {H'} s' => out_own rfl okI fun e H2 s2 he hx => qI j (by rw [← hrun, hr]) e H2 ((smt.trans s').trans s2) ((smt.trans s').free he) hx
      refine ⟨_, rfl, _, rfl, _, rfl, _, rfl, x, d', a, b, c, n, z, mm.2, ts, t', rfl, hz1, PG1, by omega, hn', ?_⟩
      rcases hzp with ⟨e1, e2⟩ | ⟨p, e1, e2, e3⟩
      · have hs : stR t' mm = none := by unfold stR; rw [e1]; rfl
        exact .inl ⟨e2, fun H' s' => ⟨true, mP1, fun _ _ _ => inv (runS_none hs) s', fun y => nomatch y⟩⟩
      · have hs : stR t' mm = t'.rwt mm.2 p := by unfold stR; rw [e1]; rfl
        refine .inr ⟨p, e2, e3, fun hx H' s' => ⟨true, mN1, fun _ _ _ => inv (runS_none (by rw [hs]; unfold Tree.rwt; rw [hx]; rfl)) s', fun y => nomatch y⟩, fun u hu hx H' s' => ⟨true, mR1, fun _ _ _ => inv (runS_none (by rw [hs]; unfold Tree.rwt; rw [hu]; show (u.r0 mm.2).bind _ = none; rw [hx]; rfl)) s', fun y => nomatch y⟩, fun t'' ht n' ts' H4 P4 ex4 pr4 hn4 ln4 => ?_⟩
        rw [← hs] at ht
        have s4 := exA smt ex4
        obtain ⟨dx4, es4, ps4, cs4, hx4, hd4, ha4, hb4, hc4, _, _, _, gd4, op4, dd4⟩ := id P4
        have hsz4 : (ts'.map fun t => V.int (t.sz : Nat))[n']? = some (V.int (t''.sz : Nat)) := by rw [List.getElem?_map, hn4]; rfl
        refine ⟨_, rfl, x, Cp, dx4, _, _, rfl, hx4, T.cl, T.n3, pf_s _ _ _ _, _, rfl, b, _, _, _, rfl, rfl, SqL.here hb4, atI_nat hsz4, _, _, rfl, rfl, _, rfl, ?_⟩
        by_cases big : 2000 < t''.sz
        · refine ite_yes (decide_eq_true (by omega)) ?_
          refine ⟨_, rfl, x, Cp, dx4, _, _, rfl, hx4, T.cl, T.n3, pf_s _ _ _ _, _, rfl, b, _, _, _, rfl, rfl, SqL.here hb4, atI_nat hsz4, ?_⟩
          have hl4 := (show t'.rwt mm.2 p = some t'' by rw [← hs]; exact ht)
          have h2 := Tree.rwt_sz2 hl4
          exact out_core (okv := okInt) ⟨_, rfl, by omega, by omega⟩ fun e H5 s5 he hx => qB t''.sz (by rw [← hrun, runS_big ht big]) e H5 (s4.trans s5) (s4.free he) hx
        · refine ite_no (decide_eq_false (by omega)) ?_
          refine ⟨_, rfl, x, Cp, dx4, _, _, rfl, hx4, T.cl, T.n2, pf_p _ _ _ _, a, _, rfl, .inl (SqL.here ha4), _, _, rfl, rfl, _, rfl, ite_no (decide_eq_false ?_) ?_⟩
          · have h1 := op4.len
            have h2 := gd4.len
            rw [h1]
            omega
          · exact ⟨_, _, _, n', ts', t'', rfl, P4, s4, hn4, by omega, by omega, by rw [← hrun, runS_on ht big]⟩
    · rintro σ G ⟨x4, x5, x6, n, ts, t', rfl, PG, sm, hn', ln, hsz', hrun⟩
      rw [hM.len, List.drop_length] at hrun
      have hrun : XR.ok t' = runS 0 t ms := hrun
      obtain ⟨dx4, es4, ps4, cs4, hx4, _, _, _, hc4, _, _, _, _, _, dd4⟩ := id PG
      obtain ⟨w', hw1, hw2⟩ := dpAll_at dd4 n t'.d (by rw [List.getElem?_map, hn']; rfl)
      exact ⟨_, rfl, x, Cp, dx4, _, _, rfl, hx4, T.cl, T.n4, pf_t _ _ _ _, _, rfl, c, _, _, w', rfl, rfl, SqL.here hc4, atI_nat hw1, q t' hrun.symm w' G sm hw2⟩

abbrev s__law_draws : Stmt := top 43
theorem sc__law_draws : FnScope ["_law_script", "_law_salt", "_law_cell"] ["_law_script"] (defScope s__law_draws) := ⟨rfl, rfl, rfl, by decide +kernel, rfl, by decide +kernel, by decide +kernel⟩
theorem ok__law_draws (d : D K mg "_law_draws" s__law_draws ["_law_script"] f fd) (B : Blt mg) : FnOk P w K mg base CX0 1 f fd ["_law_script"] (spDraws K) := by
  refine d.F.ok sc__law_draws (fun vs H Q E h => ?_) (fun cdv A outer s H vs Q E hr h => ?_)
  · obtain ⟨a, ns, rfl, _⟩ := h
    rfl
  obtain ⟨a, ns, rfl, hS, q⟩ := h
  refine ⟨_, (pss_cons (ps_set (i := 1) sc__law_draws.nd rfl (Or.inl rfl) pe_int)
 (pss_cons (ps_for PassesOwn.never rfl (pi_list (pe_slice sl_list (pv 0) po_none (po_some pe_int))) (pg_name (i := 2) sc__law_draws.nd rfl (Or.inl rfl))
  (pss_one (ps_set (i := 1) sc__law_draws.nd rfl (Or.inl rfl) (pe_op op_mod (pe_op op_add (pe_op op_add (pe_op op_mul (pv 1) pe_int) (pe_op op_mod (pv 2) pe_int)) pe_int) pe_int))))
 (pss_one (ps_ret (pe_lst (pa_cons (pe_callTy call_list_of (by rfl) B.list (by decide +kernel) (pa_cons (pe_slice sl_list (pv 0) po_none (po_some pe_int)) pa_nil)) (pa_cons pe_int (pa_cons pe_int (pa_cons (pv 1) pa_nil))))))))), ?_⟩
  refine ⟨_, rfl, 63, rfl, a, _, rfl, hS, fun p hp => ?_⟩
  rw [cut63]
  have s1 : Same H (upd H p (.lst ((ns.take 63).map V.int))) := Same.new hp _
  refine ⟨p, rfl, ⟨_, SqL.here upd_same⟩, for_list (K := K) (a := p) (xs := (ns.take 63).map V.int) (fun i σ H' => ∃ (s : Int) (v : Option V), σ = [some (.ref a), some (.int s), v] ∧ 0 ≤ s ∧ s < 2147483647 ∧ H' = upd H p (.lst ((ns.take 63).map V.int)))
    ⟨9471, none, rfl, by decide, by decide, rfl⟩ (fun i σ H' _ ⟨_, _, _, _, _, e⟩ => by rw [e]; exact SqL.here upd_same) ?_ ?_⟩
  · rintro i x σ H' hi ⟨s, v, rfl, h0, h1, rfl⟩
    obtain ⟨u, rfl⟩ : ∃ u, x = V.int u := by
      rw [List.getElem?_map] at hi
      cases e : (ns.take 63)[i]? with
      | none =>
        rw [e] at hi
        cases hi
      | some u =>
        rw [e] at hi
        exact ⟨u, (Option.some.inj hi).symm⟩
    refine ⟨_, rfl, _, _, rfl, rfl, .inl ⟨by omega, by omega⟩, _, rfl, _, _, rfl, rfl, (by show (0 : Int) < 2147483587; decide), _, _, rfl, rfl, _, _, rfl, rfl, _, _, rfl, rfl, (by show (0 : Int) < 2147483647; decide), ?_⟩
    exact ⟨_, _, rfl, Int.emod_nonneg _ (by decide), Int.emod_lt_of_pos _ (by decide), rfl⟩
  · rintro σ H' ⟨s, v, rfl, h0, h1, rfl⟩
    refine ⟨_, rfl, 63, rfl, a, _, rfl, s1.seq hS, fun p2 hp2 => ?_⟩
    rw [cut63]
    have s2 := s1.trans (Same.new hp2 (.lst ((ns.take 63).map V.int)))
    refine ⟨p2, _, rfl, .inl (SqL.here upd_same), fun c hc => ?_⟩
    have s3 := s2.trans (Same.new hc (.lst ((ns.take 63).map V.int)))
    refine ⟨_, rfl, four_le, fun r hr' => ?_⟩
    have nrc : c ≠ r := fun e => by
      rw [← e, upd_same] at hr'
      cases hr'
    refine q r _ (s3.trans (Same.new hr' _)) (s3.free hr') ⟨c, ns.take 63, 0, 0, s, upd_same, ?_, nrc, by decide, by decide, h0, h1⟩
    rw [upd_ne nrc, upd_same]

abbrev s__law_draw : Stmt := top 44
theorem sc__law_draw : FnScope ["_law_rng", "_law_amount", "_law_cell", "_law_got", "_law_seed"] ["_law_rng", "_law_amount"] (defScope s__law_draw) := ⟨rfl, rfl, rfl, by decide +kernel, rfl, by decide +kernel, by decide +kernel⟩
theorem ok__law_drawC (d : D K mg "_law_draw" s__law_draw ["_law_rng", "_law_amount"] f fd) (B : Blt mg) : FnOk P w K mg base CX0 1 f fd ["_law_rng", "_law_amount"] spDrawC := by
  refine d.F.ok sc__law_draw (fun vs H Q E h => ?_) (fun cdv A outer s H vs Q E hr h => ?_)
  · obtain ⟨_, _, _, rfl, _⟩ := h
    rfl
  obtain ⟨r, n, c, rfl, ⟨ns, i, b, s, hR, hC, ncr, hi, hb, h0, h1⟩, hn, hn2, q⟩ := h
  refine ⟨_, (C8.pss_cut (ps_if (PW.pt (pw_and (pt_cmpR op_eq (pe_ix ix_list (pv 0) pe_int (fun _ _ => rfl)) pe_int (nomark _)) (pw_and1 (pt_cmpR op_lt (pe_ix ix_list (pv 0) pe_int (fun _ _ => rfl)) (pe_callB call_len_seq (by rfl) B.len PySem.boot_len (pa_cons (pe_ix ix_list (pv 0) pe_int (fun _ _ => rfl)) pa_nil)) (nomark _))))) (pss_cons (ps_set (i := 2) sc__law_draw.nd rfl (Or.inl rfl) (pe_ix ix_list (pe_ix ix_list (pv 0) pe_int (fun _ _ => rfl)) (pe_ix ix_list (pv 0) pe_int (fun _ _ => rfl)) (fun _ _ => rfl)))
 (pss_cons (ps_asg (pe_op op_add (pe_ix ix_list (pv 0) pe_int (fun _ _ => rfl)) pe_int) (pg_sub (pv 0) pe_int set_list))
 (pss_one (ps_if (pt_cmpR op_ge (pv 2) (pe_op op_pow pe_int pe_int) (nomark _)) (pss_one (ps_asg (pv 2) (pg_sub (pv 0) pe_int set_list))) (pss_one (ps_asg (pe_op op_mod (pe_op op_add (pe_op op_add (pe_op op_mul (pe_ix ix_list (pv 0) pe_int (fun _ _ => rfl)) pe_int) (pe_op op_mul (pe_op op_mod (pv 2) pe_int) pe_int)) pe_int) pe_int) (pg_sub (pv 0) pe_int set_list))))))) pss_nil)
 (pss_cons (ps_if (pt_cmpR op_gt (pe_ix ix_list (pv 0) pe_int (fun _ _ => rfl)) pe_int (nomark _)) (pss_cons (ps_set (i := 3) sc__law_draw.nd rfl (Or.inl rfl) (pe_op op_mod (pe_ix ix_list (pv 0) pe_int (fun _ _ => rfl)) (pv 1)))
 (pss_cons (ps_asg (pe_op op_fdiv (pe_ix ix_list (pv 0) pe_int (fun _ _ => rfl)) (pv 1)) (pg_sub (pv 0) pe_int set_list))
 (pss_one (ps_ret (pv 3))))) pss_nil)
 (pss_cons (ps_set (i := 4) sc__law_draw.nd rfl (Or.inl rfl) (pe_ix ix_list (pv 0) pe_int (fun _ _ => rfl)))
 (pss_cons (ps_asg (pe_op op_mod (pe_op op_add (pe_op op_add (pe_op op_mul (pv 4) pe_int) (pe_op op_mul (pe_op op_fdiv (pv 4) pe_int) pe_int)) pe_int) pe_int) (pg_sub (pv 0) pe_int set_list))
 (pss_one (ps_ret (pe_op op_mod (pe_op op_add (pe_op op_fdiv (pe_ix ix_list (pv 0) pe_int (fun _ _ => rfl)) pe_int) (pe_op op_mul (pe_op op_mod (pe_ix ix_list (pv 0) pe_int (fun _ _ => rfl)) pe_int) pe_int)) (pv 1)))))))), ?_⟩
  refine ⟨fun σ H1 => ∃ (i b s : Int) (cell : Option V), σ = [some (.ref r), some (.int n), cell, none, none] ∧ But r H H1 ∧ H1 r = some (.lst [.ref c, .int i, .int b, .int s]) ∧ H1 c = some (.lst (ns.map V.int)) ∧ 0 ≤ i ∧ 0 ≤ b ∧ 0 ≤ s ∧ s < 2147483647, ?_, ?_⟩
  · refine ⟨_, rfl, r, _, 2, _, rfl, rfl, SqL.here hR, rfl, rfl, _, rfl, ?_⟩
    refine ite2 (fun c1 => ?_) (fun c1 => ?_)
    · refine ⟨_, rfl, r, _, 1, _, rfl, rfl, SqL.here hR, rfl, _, rfl, r, _, 0, _, rfl, rfl, SqL.here hR, rfl, c, _, rfl, .inl (SqL.here hC), _, _, rfl, rfl, _, rfl, ?_⟩
      refine ite2 (fun c2 => ?_) (fun c2 => ?_)
      · have c3 : i < (((ns.map V.int).length : Nat) : Int) := of_decide_eq_true c2
        rw [List.length_map] at c3
        have hk : i.toNat < ns.length := by omega
        have ek : i = ((i.toNat : Nat) : Int) := by omega
        obtain ⟨u, q1⟩ : ∃ u, atI (ns.map V.int) i = some (.int u) := by
          refine ⟨ns[i.toNat], ?_⟩
          have q0 : atI (ns.map V.int) ((i.toNat : Nat) : Int) = some (.int ns[i.toNat]) := atI_nat (by rw [List.getElem?_map, List.getElem?_eq_getElem hk] <;> rfl)
          rw [← ek] at q0
          exact q0
        refine ⟨_, rfl, r, _, 0, _, rfl, rfl, SqL.here hR, rfl, _, rfl, r, _, 1, _, rfl, rfl, SqL.here hR, rfl, c, _, i, _, rfl, rfl, SqL.here hC, q1, ?_⟩
        -- rng[1] = rng[1] + 1
        refine ⟨_, rfl, r, _, 1, _, rfl, rfl, SqL.here hR, rfl, _, _, rfl, rfl, _, rfl, r, _, 1, 1, rfl, rfl, hR, rfl, ?_⟩
        have hC2 : (upd H r (.lst [.ref c, .int (i + 1), .int b, .int s])) c = some (.lst (ns.map V.int)) := by rw [upd_ne ncr]; exact hC
        refine ⟨_, rfl, _, _, rfl, rfl, ⟨by decide, by decide, by decide⟩, _, _, rfl, rfl, _, rfl, ?_⟩
        refine ite2 (fun c4 => ?_) (fun c4 => ?_)
        · have c5 : (10 : Int) ^ (18 : Int).toNat ≤ u := of_decide_eq_true c4
          have c6 : (0 : Int) ≤ (10 : Int) ^ (18 : Int).toNat := by decide
          refine ⟨_, rfl, _, rfl, r, _, 2, 2, rfl, rfl, upd_same, rfl, ?_⟩
          refine ⟨i + 1, u, s, _, rfl, But.set.trans But.set, upd_same, ?_, by omega, by omega, h0, h1⟩
          rw [upd_ne ncr]
          exact hC2
        · refine ⟨_, rfl, r, _, 3, _, rfl, rfl, SqL.here upd_same, rfl, _, _, rfl, rfl, .inl ⟨by omega, by omega⟩, _, rfl, _, _, rfl, rfl, (by show (0 : Int) < 2147483587; decide), _, _, rfl, rfl, .inl ⟨?_, ?_⟩, _, _, rfl, rfl, _, _, rfl, rfl, _, _, rfl, rfl, (by show (0 : Int) < 2147483647; decide), _, rfl, r, _, 3, 3, rfl, rfl, upd_same, rfl, ?_⟩
          · have := Int.emod_nonneg u (show (2147483587 : Int) ≠ 0 by decide)
            omega
          · have := Int.emod_lt_of_pos u (show (0 : Int) < 2147483587 by decide)
            omega
          · refine ⟨i + 1, b, _, _, rfl, But.set.trans But.set, upd_same, ?_, by omega, hb, Int.emod_nonneg _ (by decide), Int.emod_lt_of_pos _ (by decide)⟩
            rw [upd_ne ncr]
            exact hC2
      · exact ⟨i, b, s, none, rfl, fun _ _ _ h => h, hR, hC, hi, hb, h0, h1⟩
    · exact iteF ⟨i, b, s, none, rfl, fun _ _ _ h => h, hR, hC, hi, hb, h0, h1⟩
  · rintro σ H1 ⟨i, b, s, cell, rfl, e1, hR, hC, hi, hb, h0, h1⟩
    refine ⟨_, rfl, r, _, 2, _, rfl, rfl, SqL.here hR, rfl, _, _, rfl, rfl, _, rfl, ?_⟩
    refine ite2 (fun c1 => ?_) (fun c1 => ?_)
    · refine ⟨_, rfl, r, _, 2, _, rfl, rfl, SqL.here hR, rfl, _, rfl, _, _, rfl, rfl, hn, ?_⟩
      refine ⟨_, rfl, r, _, 2, _, rfl, rfl, SqL.here hR, rfl, _, rfl, _, _, rfl, rfl, ⟨hn, hn2⟩, _, rfl, r, _, 2, 2, rfl, rfl, hR, rfl, _, rfl, ?_⟩
      refine q _ _ (Int.emod_nonneg _ (by omega)) (Int.emod_lt_of_pos _ hn) ⟨ns, i, _, s, upd_same, ?_, ncr, hi, Int.ediv_nonneg hb (by omega), h0, h1⟩ (e1.trans But.set)
      rw [upd_ne ncr]
      exact hC
    · refine ⟨_, rfl, r, _, 3, _, rfl, rfl, SqL.here hR, rfl, ?_⟩
      refine ⟨_, rfl, _, _, rfl, rfl, .inl ⟨by omega, by omega⟩, _, rfl, _, _, rfl, rfl, ⟨by decide, by decide⟩, _, _, rfl, rfl, .inl ⟨?_, ?_⟩, _, _, rfl, rfl, _, _, rfl, rfl, _, _, rfl, rfl, (by show (0 : Int) < 2147483647; decide), _, rfl, r, _, 3, 3, rfl, rfl, hR, rfl, ?_⟩
      · have := Int.ediv_nonneg h0 (show (0 : Int) ≤ 65539 by decide)
        omega
      · have : s / 65539 ≤ s := Int.ediv_le_self _ h0
        omega
      · have z0 : 0 ≤ (s * 62089 + s / 65539 * 29 + 1013904223) % 2147483647 := Int.emod_nonneg _ (by decide)
        have z1 : (s * 62089 + s / 65539 * 29 + 1013904223) % 2147483647 < 2147483647 := Int.emod_lt_of_pos _ (by decide)
        refine ⟨_, rfl, r, _, 3, _, rfl, rfl, SqL.here upd_same, rfl, _, _, rfl, rfl, ⟨by decide, by decide⟩, _, rfl, r, _, 3, _, rfl, rfl, SqL.here upd_same, rfl, _, _, rfl, rfl, (by show (0 : Int) < 8191; decide), _, _, rfl, rfl, .inl ⟨?_, ?_⟩, _, _, rfl, rfl, _, rfl, _, _, rfl, rfl, hn, ?_⟩
        · have := Int.emod_nonneg ((s * 62089 + s / 65539 * 29 + 1013904223) % 2147483647) (show (8191 : Int) ≠ 0 by decide)
          omega
        · have := Int.emod_lt_of_pos ((s * 62089 + s / 65539 * 29 + 1013904223) % 2147483647) (show (0 : Int) < 8191 by decide)
          omega
        · refine q _ _ (Int.emod_nonneg _ (by omega)) (Int.emod_lt_of_pos _ hn) ⟨ns, i, b, _, upd_same, ?_, ncr, hi, hb, z0, z1⟩ (e1.trans But.set)
          rw [upd_ne ncr]
          exact hC
theorem ok__law_draw (d : D K mg "_law_draw" s__law_draw ["_law_rng", "_law_amount"] f fd) (B : Blt mg) : FnOk P w K mg base CX0 1 f fd ["_law_rng", "_law_amount"] spDraw := (ok__law_drawC d B).imp fun _ _ _ _ => spDraw_C

abbrev s__law_pick : Stmt := top 45
theorem sc__law_pick : FnScope ["_law_rng", "_law_terms"] ["_law_rng", "_law_terms"] (defScope s__law_pick) := ⟨rfl, rfl, rfl, by decide +kernel, rfl, by decide +kernel, by decide +kernel⟩
theorem ok__law_pickC {f1 : Addr} {e1 : FuncData} (d__law_pick : D K mg "_law_pick" s__law_pick ["_law_rng", "_law_terms"] f fd) (B : Blt mg) (d__law_draw : D K mg "_law_draw" s__law_draw ["_law_rng", "_law_amount"] f1 e1) : FnOk P w K mg base CX0 2 f fd ["_law_rng", "_law_terms"] (spPickC K) := by
  have G__law_draw : FnOk P w K mg base CX0 1 f1 e1 ["_law_rng", "_law_amount"] spDrawC := ok__law_drawC d__law_draw B
  refine d__law_pick.F.ok sc__law_pick (fun vs H Q E h => ?_) (fun cdv A outer s H vs Q E hr h => ?_)
  · obtain ⟨_, _, _, _, rfl, _⟩ := h
    rfl
  obtain ⟨r, l, c, xs, rfl, hR, hS, h0, h1, hn, q⟩ := h
  refine ⟨_, (pss_one (ps_ret (pe_ix (r := rIx K) ix_seq (pv 1) (pe_call G__law_draw (hr.mono (by decide)) rfl d__law_draw.m d__law_draw.F.kp d__law_draw.b .nil pass0 (pa_cons (pv 0) (pa_cons (pe_callB call_len_seq (by rfl) B.len PySem.boot_len (pa_cons (pv 1) pa_nil)) pa_nil))) (fun _ _ => rfl)))), ?_⟩
  refine ⟨_, rfl, _, rfl, _, rfl, l, xs, rfl, hS, r, _, c, rfl, hR, by omega, by omega, fun n H' n0 n1 R' b' => ?_⟩
  exact rix_in (hS.imp (b'.sqL hn) (b'.sqT hn)) n0 n1 fun v hv => q v H' hv R' b'
theorem ok__law_pick {f1 : Addr} {e1 : FuncData} (d__law_pick : D K mg "_law_pick" s__law_pick ["_law_rng", "_law_terms"] f fd) (B : Blt mg) (d__law_draw : D K mg "_law_draw" s__law_draw ["_law_rng", "_law_amount"] f1 e1) : FnOk P w K mg base CX0 2 f fd ["_law_rng", "_law_terms"] (spPick K) := (ok__law_pickC d__law_pick B d__law_draw).imp fun _ _ _ _ => spPick_C

abbrev s__law_same : Stmt := top 46
theorem sc__law_same : FnScope ["_law_result", "_law_expected_here", "_law_k"] ["_law_result", "_law_expected_here"] (defScope s__law_same) := ⟨rfl, rfl, rfl, by decide +kernel, rfl, by decide +kernel, by decide +kernel⟩
theorem same_ix {H : Hp} {x y : V} {d : PyData} {ds : List PyData} (hd : d = .list ds ∨ d = .tuple ds) (hx : Dp K H x d) : ∃ a xs, x = .ref a ∧ (SqL K H a xs ∨ SqT K H a xs) ∧ DpAll K H xs ds := by
  rcases hd with rfl | rfl
  · cases hx with
    | lst hs ha => exact ⟨_, _, rfl, .inl hs, ha⟩
  · cases hx with
    | tup hs ha => exact ⟨_, _, rfl, .inr hs, ha⟩
theorem rix_of {H : Hp} {a : Addr} {xs : List V} {i : Nat} {v : V} {Q : VK} (h : SqL K H a xs ∨ SqT K H a xs) (hi : xs[i]? = some v) (q : Q v H) : rIx K (.ref a) (.int (0 + (i : Int))) H Q := by
  have e : (0 + (i : Int)) = (i : Int) := by omega
  rcases h with h | h
  · exact .inl ⟨a, xs, _, v, rfl, rfl, h, by rw [e]; exact atI_nat hi, q⟩
  · exact .inr (.inl ⟨a, xs, _, v, rfl, rfl, h, by rw [e]; exact atI_nat hi, q⟩)
theorem same_sq {H H' : Hp} {a : Addr} {xs : List V} (e : Same H H') (h : SqL K H a xs ∨ SqT K H a xs) : SqL K H' a xs ∨ SqT K H' a xs := by
  rcases h with h | h
  · exact .inl (e.seq h)
  · exact .inr ((Tp.same e).sqT h)
theorem ok__law_same (d__law_same : D K mg "_law_same" s__law_same ["_law_result", "_law_expected_here"] f fd) (B : Blt mg) : ∀ n : Nat, FnOk P w K mg base CX0 n f fd ["_law_result", "_law_expected_here"] (spSame K n)
  | 0 => fn_none fun vs H Q E h => by
    obtain ⟨_, _, _, _, _, _, _, h, _⟩ := h
    omega
  | n + 1 => by
    have G__law_same := ok__law_same d__law_same B n
    refine d__law_same.F.ok sc__law_same (fun vs H Q E h => ?_) (fun cdv A outer s H vs Q E hr h => ?_)
    · obtain ⟨_, _, _, rfl, _⟩ := h
      rfl
    obtain ⟨x, y, d, rfl, hx, hy, hs, hd, hw, q⟩ := h
    refine ⟨_, (pss_cons (ps_if (pt_val (pe_callB call_isi (by rfl) B.isinstance (by decide +kernel) (pa_cons (pv 1) (pa_cons (pe_bltn (v := .ty "dict") (by rfl) B.dict (by decide +kernel) rfl) pa_nil)))) (pss_one ps_never) pss_nil)
 (pss_cons (ps_if (PW.pt (pw_or (pt_cmpR op_ne (pe_callB call_isi (by rfl) B.isinstance (by decide +kernel) (pa_cons (pv 1) (pa_cons (pe_bltn (v := .ty "tuple") (by rfl) B.tuple (by decide +kernel) rfl) pa_nil))) (pe_callB call_isi (by rfl) B.isinstance (by decide +kernel) (pa_cons (pv 0) (pa_cons (pe_bltn (v := .ty "tuple") (by rfl) B.tuple (by decide +kernel) rfl) pa_nil))) (nomark _)) (pw_or1 (pt_cmpR op_ne (pe_callB call_isi (by rfl) B.isinstance (by decide +kernel) (pa_cons (pv 1) (pa_cons (pe_bltn (v := .ty "list") (by rfl) B.list (by decide +kernel) rfl) pa_nil))) (pe_callB call_isi (by rfl) B.isinstance (by decide +kernel) (pa_cons (pv 0) (pa_cons (pe_bltn (v := .ty "list") (by rfl) B.list (by decide +kernel) rfl) pa_nil))) (nomark _))))) (pss_one (ps_ret pe_bl)) pss_nil)
 (pss_cons (ps_if (pt_not (pt_val (pe_callB call_isiT (by rfl) B.isinstance (by decide +kernel) (pa_cons (pv 1) (pa_cons (pe_tup (pa_cons (pe_bltn (v := .ty "tuple") (by rfl) B.tuple (by decide +kernel) rfl) (pa_cons (pe_bltn (v := .ty "list") (by rfl) B.list (by decide +kernel) rfl) pa_nil))) pa_nil))))) (pss_one (ps_ret (pe_and (pe_cmpR op_eq (pe_callB call_isi (by rfl) B.isinstance (by decide +kernel) (pa_cons (pv 0) (pa_cons (pe_bltn (v := .ty "bool") (by rfl) B.bool (by decide +kernel) rfl) pa_nil))) (pe_callB call_isi (by rfl) B.isinstance (by decide +kernel) (pa_cons (pv 1) (pa_cons (pe_bltn (v := .ty "bool") (by rfl) B.bool (by decide +kernel) rfl) pa_nil))) (nomark _)) (pe_one (pe_cmpR (op_eqD hr.units) (pv 0) (pv 1) (nomark _)))))) pss_nil)
 (pss_one (ps_ret (pe_and (pe_cmpR op_eq (pe_callB call_len_seq (by rfl) B.len PySem.boot_len (pa_cons (pv 0) pa_nil)) (pe_callB call_len_seq (by rfl) B.len PySem.boot_len (pa_cons (pv 1) pa_nil)) (nomark _)) (pe_one (pe_callB (cr_all rfl) (by rfl) B.all (by decide +kernel) (pa_cons (pe_lc (own := [("_law_k", 2)]) (g := gName 2) (tt := tYes) (by rfl) sc__law_same.nd (pi_range1 (by rfl) B.range (pa_cons (pe_callB call_len_seq (by rfl) B.len PySem.boot_len (pa_cons (pv 1) pa_nil)) pa_nil)) (blkOk_by (own := [("_law_k", 2)]) (N := ["_law_result", "_law_expected_here", "_law_k"]) (sc := defScope s__law_same) (by decide +kernel)) (fun _ _ _ _ _ => (pg_name (i := 2) sc__law_same.nd rfl (Or.inl rfl))) (fun _ _ _ _ _ => pts_nil) (fun _ _ _ _ _ => (pe_call G__law_same hr rfl d__law_same.m d__law_same.F.kp d__law_same.b .nil pass0 (pa_cons (pe_ix (r := rIx K) ix_seq (pv 0) (pv 2) (fun _ _ => rfl)) (pa_cons (pe_ix (r := rIx K) ix_seq (pv 1) (pv 2) (fun _ _ => rfl)) pa_nil))))) pa_nil))))))))), ?_⟩
    refine ⟨_, rfl, _, _, _, _, false, rfl, .ty "dict", dp_ty hy, kit_dict hy, false, rfl, iteF ?_⟩
    refine ⟨_, rfl, _, _, _, _, _, rfl, .ty "tuple", dp_ty hy, kit_tuple hy, _, rfl, _, _, _, _, _, rfl, .ty "tuple", dp_ty hx, kit_tuple hx, rfl, _, rfl, ite_no ?_ ?_⟩
    · rw [decide_eq_true rfl]
      rfl
    refine ⟨_, rfl, _, _, _, _, _, rfl, .ty "list", dp_ty hy, kit_list hy, _, rfl, _, _, _, _, _, rfl, .ty "list", dp_ty hx, kit_list hx, rfl, _, rfl, ite_no ?_ ?_⟩
    · rw [decide_eq_true rfl]
      rfl
    refine ⟨_, rfl, two_le, fun p hp => ?_⟩
    have s1 := Same.new hp (.tup [.ty "tuple", .ty "list"])
    have hx1 := dp_same s1 d hx
    have hy1 := dp_same s1 d hy
    refine ⟨_, p, _, _, _, _, rfl, upd_same, .cons (.ty _) (.cons (.ty _) .nil), dp_ty hy1, kit_seq hy1, _, rfl, ?_⟩
    generalize (upd H p (.tup [.ty "tuple", .ty "list"])) = H1 at *
    cases hsq : (isT d || isLs d) with
    | false =>
      refine iteT ?_
      refine ⟨_, rfl, _, _, _, _, _, rfl, .ty "bool", dp_ty hx1, kit_bool hx1, _, rfl, _, _, _, _, _, rfl, .ty "bool", dp_ty hy1, kit_bool hy1, rfl, true, ?_, iteT ?_⟩
      · rw [decide_eq_true rfl]
      · refine ⟨_, rfl, _, rfl, d, d, hx1, hy1, hs, hs, ?_⟩
        rw [SeqAt.eqv_refl d (SeqAt.canLay_of_shaped hs)]
        exact q H1 s1
    | true =>
      refine iteF ?_
      obtain ⟨ds, hds⟩ : ∃ ds, d = .list ds ∨ d = .tuple ds := by
        cases d <;> first | exact ⟨_, .inl rfl⟩ | exact ⟨_, .inr rfl⟩ | exact absurd (show false = true from hsq) (by decide)
      obtain ⟨a, xs, rfl, hX, hXA⟩ := same_ix (y := y) hds hx1
      obtain ⟨b, ys, rfl, hY, hYA⟩ := same_ix (y := .ref a) hds hy1
      have lx := dpAll_len hXA
      have ly := dpAll_len hYA
      have hcan : PyData.canLayAll0 ds = true := by
        have := SeqAt.canLay_of_shaped hs
        rcases hds with rfl | rfl <;> exact this
      have hdep : d.depth = PyData.depthAll ds + 1 := by rcases hds with rfl | rfl <;> rfl
      have hd64 := SeqAt.depth_of_shaped hs
      have hwd : ds.length ≤ 1000 ∧ wideAll ds = true := by
        have h0 : (decide (ds.length ≤ 1000) && wideAll ds) = true := by rcases hds with rfl | rfl <;> exact hw
        have h1 := Bool.and_eq_true_iff.mp h0
        exact ⟨of_decide_eq_true h1.1, h1.2⟩
      refine ⟨_, rfl, a, _, rfl, hX, _, rfl, b, _, rfl, hY, rfl, true, ?_, iteT ?_⟩
      · rw [lx, ly, decide_eq_true rfl]
      refine ⟨_, rfl, b, _, rfl, hY, (ys.length : Int), rfl, by omega, by omega, fun D hD => ?_⟩
      refine lc_range (lo := 0) (n := ((ys.length : Int)).toNat) (fun i H' => Same H1 H' ∧ H' D = some (.lst (List.replicate i (V.bl true)))) ⟨Same.new hD _, upd_same⟩ ?_ ?_
      · rintro i H' hi ⟨sm, hl⟩
        have hi' : i < ds.length := by omega
        obtain ⟨u, eu, hu⟩ := dpAll_at hXA i ds[i] (List.getElem?_eq_getElem hi')
        obtain ⟨v, ev, hv⟩ := dpAll_at hYA i ds[i] (List.getElem?_eq_getElem hi')
        have hm : ds[i] ∈ ds := List.getElem_mem hi'
        have hdi := depth_at hm
        refine ⟨rfl, ?_⟩
        refine ⟨_, rfl, _, rfl, rix_of (same_sq sm hX) eu ⟨_, rfl, _, rfl, rix_of (same_sq sm hY) ev ⟨u, v, ds[i], rfl, dp_same sm _ hu, dp_same sm _ hv, ?_, by omega, wide_at hwd.2 hm, fun H2 s2 => ?_⟩⟩⟩
        · unfold SeqAt.shaped
          rw [shaped_at hcan hm, decide_eq_true (by omega)]
          rfl
        · refine ⟨_, s2 _ _ hl, by rw [List.length_replicate]; exact small1000 (by omega), fun c o e => ?_, ?_⟩
          · rw [upd_ne (ne_of_none e hD)]
            exact s2 _ _ (sm _ _ e)
          · rw [upd_same, List.replicate_succ']
      · rintro H' ⟨sm, hl⟩
        refine ⟨D, List.replicate ((ys.length : Int)).toNat true, rfl, SqL.here (by rw [hl, List.map_replicate]), ?_⟩
        rw [all_rep]
        exact q H' (s1.trans sm)

abbrev s__law_error_name : Stmt := top 47
theorem sc__law_error_name : FnScope ["_law_e", "_law_some", "_law_word", "_law_so"] ["_law_e"] (defScope s__law_error_name) := ⟨rfl, rfl, rfl, by decide +kernel, rfl, by decide +kernel, by decide +kernel⟩
theorem ok__law_error_name {CT : Addr} {word : Addr → Option Str} {cl : Nat → Addr} (d : D K mg "_law_error_name" s__law_error_name ["_law_e"] f fd) (B : Blt mg) (M : Errs mg cl) (hw : ∀ D nm, word D = some nm → ∃ j, Isw K cl D j ∧ nm = en j) : FnB P w K mg base 1 f fd ["_law_e"] (spName2 K CT word) := by
  refine Fun.okB2 d.F sc__law_error_name (fun cdv A outer s H vs Q xh oh hr hb hok h => ?_)
  obtain ⟨D0, nm, hcl, W, ew, rfl, q⟩ := h
  obtain ⟨j, hj, rfl⟩ := hw _ _ ew
  have hdd : ∀ d, oh.dict = some d → (∃ o, s.heap.get? d = some o) ∧ d ∉ ([] : List Addr) := fun d e => by
    obtain ⟨fs, hfs⟩ := W.nod d e
    exact ⟨xd_there hok hfs, by simp⟩
  have C := W.exc
  refine ⟨_, (pss_cons (ps_set (i := 1) sc__law_error_name.nd rfl (Or.inl rfl) (pe_lst (pa_cons (pe_tup (pa_cons pe_str (pa_cons (pe_callB (call_isB2 hb C hcl hdd) (by rfl) B.isinstance (by decide +kernel) (pa_cons (pv 0) (pa_cons (pe_glob (v := .ref (cl 0)) rfl (M 0 (by decide)) rfl) pa_nil))) pa_nil))) (pa_cons (pe_tup (pa_cons pe_str (pa_cons (pe_callB (call_isB2 hb C hcl hdd) (by rfl) B.isinstance (by decide +kernel) (pa_cons (pv 0) (pa_cons (pe_glob (v := .ref (cl 1)) rfl (M 1 (by decide)) rfl) pa_nil))) pa_nil))) pa_nil))))
 (pss_cons (ps_set (i := 1) sc__law_error_name.nd rfl (Or.inl rfl) (pe_op op_cat (pv 1) (pe_lst (pa_cons (pe_tup (pa_cons pe_str (pa_cons (pe_callB (call_isB2 hb C hcl hdd) (by rfl) B.isinstance (by decide +kernel) (pa_cons (pv 0) (pa_cons (pe_glob (v := .ref (cl 2)) rfl (M 2 (by decide)) rfl) pa_nil))) pa_nil))) (pa_cons (pe_tup (pa_cons pe_str (pa_cons (pe_callB (call_isB2 hb C hcl hdd) (by rfl) B.isinstance (by decide +kernel) (pa_cons (pv 0) (pa_cons (pe_glob (v := .ref (cl 3)) rfl (M 3 (by decide)) rfl) pa_nil))) pa_nil))) pa_nil)))))
 (pss_cons (ps_set (i := 1) sc__law_error_name.nd rfl (Or.inl rfl) (pe_op op_cat (pv 1) (pe_lst (pa_cons (pe_tup (pa_cons pe_str (pa_cons (pe_callB (call_isB2 hb C hcl hdd) (by rfl) B.isinstance (by decide +kernel) (pa_cons (pv 0) (pa_cons (pe_glob (v := .ref (cl 4)) rfl (M 4 (by decide)) rfl) pa_nil))) pa_nil))) (pa_cons (pe_tup (pa_cons pe_str (pa_cons (pe_callB (call_isB2 hb C hcl hdd) (by rfl) B.isinstance (by decide +kernel) (pa_cons (pv 0) (pa_cons (pe_glob (v := .ref (cl 5)) rfl (M 5 (by decide)) rfl) pa_nil))) pa_nil))) pa_nil)))))
 (pss_cons (ps_set (i := 1) sc__law_error_name.nd rfl (Or.inl rfl) (pe_op op_cat (pv 1) (pe_lst (pa_cons (pe_tup (pa_cons pe_str (pa_cons (pe_callB (call_isB2 hb C hcl hdd) (by rfl) B.isinstance (by decide +kernel) (pa_cons (pv 0) (pa_cons (pe_glob (v := .ref (cl 6)) rfl (M 6 (by decide)) rfl) pa_nil))) pa_nil))) (pa_cons (pe_tup (pa_cons pe_str (pa_cons (pe_callB (call_isB2 hb C hcl hdd) (by rfl) B.isinstance (by decide +kernel) (pa_cons (pv 0) (pa_cons (pe_glob (v := .ref (cl 7)) rfl (M 7 (by decide)) rfl) pa_nil))) pa_nil))) pa_nil)))))
 (pss_cons (ps_set (i := 1) sc__law_error_name.nd rfl (Or.inl rfl) (pe_op op_cat (pv 1) (pe_lst (pa_cons (pe_tup (pa_cons pe_str (pa_cons (pe_callB (call_isB2 hb C hcl hdd) (by rfl) B.isinstance (by decide +kernel) (pa_cons (pv 0) (pa_cons (pe_glob (v := .ref (cl 8)) rfl (M 8 (by decide)) rfl) pa_nil))) pa_nil))) (pa_cons (pe_tup (pa_cons pe_str (pa_cons (pe_callB (call_isB2 hb C hcl hdd) (by rfl) B.isinstance (by decide +kernel) (pa_cons (pv 0) (pa_cons (pe_glob (v := .ref (cl 9)) rfl (M 9 (by decide)) rfl) pa_nil))) pa_nil))) pa_nil)))))
 (pss_cons (ps_set (i := 1) sc__law_error_name.nd rfl (Or.inl rfl) (pe_op op_cat (pv 1) (pe_lst (pa_cons (pe_tup (pa_cons pe_str (pa_cons (pe_callB (call_isB2 hb C hcl hdd) (by rfl) B.isinstance (by decide +kernel) (pa_cons (pv 0) (pa_cons (pe_glob (v := .ref (cl 10)) rfl (M 10 (by decide)) rfl) pa_nil))) pa_nil))) (pa_cons (pe_tup (pa_cons pe_str (pa_cons (pe_callB (call_isB2 hb C hcl hdd) (by rfl) B.isinstance (by decide +kernel) (pa_cons (pv 0) (pa_cons (pe_glob (v := .ref (cl 11)) rfl (M 11 (by decide)) rfl) pa_nil))) pa_nil))) pa_nil)))))
 (pss_cons (ps_set (i := 1) sc__law_error_name.nd rfl (Or.inl rfl) (pe_op op_cat (pv 1) (pe_lst (pa_cons (pe_tup (pa_cons pe_str (pa_cons (pe_callB (call_isB2 hb C hcl hdd) (by rfl) B.isinstance (by decide +kernel) (pa_cons (pv 0) (pa_cons (pe_glob (v := .ref (cl 12)) rfl (M 12 (by decide)) rfl) pa_nil))) pa_nil))) (pa_cons (pe_tup (pa_cons pe_str (pa_cons (pe_callB (call_isB2 hb C hcl hdd) (by rfl) B.isinstance (by decide +kernel) (pa_cons (pv 0) (pa_cons (pe_glob (v := .ref (cl 13)) rfl (M 13 (by decide)) rfl) pa_nil))) pa_nil))) pa_nil)))))
 (pss_cons (ps_set (i := 1) sc__law_error_name.nd rfl (Or.inl rfl) (pe_op op_cat (pv 1) (pe_lst (pa_cons (pe_tup (pa_cons pe_str (pa_cons (pe_callB (call_isB2 hb C hcl hdd) (by rfl) B.isinstance (by decide +kernel) (pa_cons (pv 0) (pa_cons (pe_glob (v := .ref (cl 14)) rfl (M 14 (by decide)) rfl) pa_nil))) pa_nil))) (pa_cons (pe_tup (pa_cons pe_str (pa_cons (pe_callB (call_isB2 hb C hcl hdd) (by rfl) B.isinstance (by decide +kernel) (pa_cons (pv 0) (pa_cons (pe_glob (v := .ref (cl 15)) rfl (M 15 (by decide)) rfl) pa_nil))) pa_nil))) pa_nil)))))
 (pss_cons (ps_set (i := 1) sc__law_error_name.nd rfl (Or.inl rfl) (pe_op op_cat (pv 1) (pe_lst (pa_cons (pe_tup (pa_cons pe_str (pa_cons (pe_callB (call_isB2 hb C hcl hdd) (by rfl) B.isinstance (by decide +kernel) (pa_cons (pv 0) (pa_cons (pe_glob (v := .ref (cl 16)) rfl (M 16 (by decide)) rfl) pa_nil))) pa_nil))) (pa_cons (pe_tup (pa_cons pe_str (pa_cons (pe_callB (call_isB2 hb C hcl hdd) (by rfl) B.isinstance (by decide +kernel) (pa_cons (pv 0) (pa_cons (pe_glob (v := .ref (cl 17)) rfl (M 17 (by decide)) rfl) pa_nil))) pa_nil))) pa_nil)))))
 (pss_cons (ps_set (i := 1) sc__law_error_name.nd rfl (Or.inl rfl) (pe_op op_cat (pv 1) (pe_lst (pa_cons (pe_tup (pa_cons pe_str (pa_cons (pe_callB (call_isB2 hb C hcl hdd) (by rfl) B.isinstance (by decide +kernel) (pa_cons (pv 0) (pa_cons (pe_glob (v := .ref (cl 18)) rfl (M 18 (by decide)) rfl) pa_nil))) pa_nil))) (pa_cons (pe_tup (pa_cons pe_str (pa_cons (pe_callB (call_isB2 hb C hcl hdd) (by rfl) B.isinstance (by decide +kernel) (pa_cons (pv 0) (pa_cons (pe_glob (v := .ref (cl 19)) rfl (M 19 (by decide)) rfl) pa_nil))) pa_nil))) pa_nil)))))
 (pss_one (ps_ret (pe_join pe_str (pe_lcB (own := [("_law_word", 2), ("_law_so", 3)]) (g := gTup K 2 (gCons (gName 2) (gCons (gName 3) gNil))) (tt := fun σ H Q => tVar 3 σ H fun x G => ∃ k, TruV K x G k ∧ Q k G) (te := tVar 2) hb sc__law_error_name.nd (pv 1) (blkOk_by (own := [("_law_word", 2), ("_law_so", 3)]) (N := ["_law_e", "_law_some", "_law_word", "_law_so"]) (sc := defScope s__law_error_name) (by decide +kernel)) (fun _ _ _ _ _ hb2 => pg_tupB hb2 (pgs_cons (pg_name (i := 2) sc__law_error_name.nd rfl (Or.inl rfl)) (pgs_cons (pg_name (i := 3) sc__law_error_name.nd rfl (Or.inl rfl)) pgs_nil))) (fun _ _ _ _ _ => (pts_one (pt_truth (pv 3) (by intro _; rfl)))) (fun _ _ _ _ _ => (pv 2)))))))))))))))), ?_⟩
  refine nm_first (cl := cl) hj fun σ1 H1 I1 => ?_
  refine nm_step (n := 2) hj (by decide) I1 fun σ1 H1 I1 => ?_
  refine nm_step (n := 4) hj (by decide) I1 fun σ1 H1 I1 => ?_
  refine nm_step (n := 6) hj (by decide) I1 fun σ1 H1 I1 => ?_
  refine nm_step (n := 8) hj (by decide) I1 fun σ1 H1 I1 => ?_
  refine nm_step (n := 10) hj (by decide) I1 fun σ1 H1 I1 => ?_
  refine nm_step (n := 12) hj (by decide) I1 fun σ1 H1 I1 => ?_
  refine nm_step (n := 14) hj (by decide) I1 fun σ1 H1 I1 => ?_
  refine nm_step (n := 16) hj (by decide) I1 fun σ1 H1 I1 => ?_
  refine nm_step (n := 18) hj (by decide) I1 fun σ1 H1 I1 => ?_
  obtain ⟨L, ps, rfl, sm, hl, hL, hp⟩ := I1
  refine ⟨⟨_, rfl⟩, _, rfl, L, ps.map V.ref, rfl, SqL.here hL, fun D1 nD => ⟨fun i G => Same H1 G ∧ G D1 = some (.lst (if j < i then [.str (en j)] else [])), ⟨Same.new nD _, upd_same⟩, fun i G _ z => SqL.here (z.1 _ _ hL), ?_, ?_⟩⟩
  · rintro i v G hi ⟨sG, hD⟩
    rw [List.getElem?_map] at hi
    obtain ⟨p, ep, rfl⟩ := Option.map_eq_some_iff.mp hi
    have tp := sG _ _ (hp i p ep)
    have nDp : p ≠ D1 := fun z => by
      have z1 := hp i p ep
      rw [z, nD] at z1
      cases z1
    refine ⟨p, _, rfl, SqT.here tp, rfl, _, _, rfl, _, _, rfl, rfl, rfl, _, rfl, _, rfl, ?_⟩
    refine ite2 (fun c' => ?_) (fun c' => ?_)
    · have c : i = j := of_decide_eq_true c'
      refine ⟨_, rfl, _, hD, ?_, fun b u z => (by rw [upd_ne (ne_of_none z nD)]; exact sG b u z), ?_⟩
      · rw [if_neg (by omega)]
        exact Nat.lt_of_lt_of_le (show 0 < 1 by decide) (show 1 ≤ sizeLine by decide)
      · rw [upd_same, if_neg (by omega), if_pos (by omega), c]
        rfl
    · have c : ¬ i = j := by first | exact of_decide_eq_false c' | exact fun z => c' (decide_eq_true z)
      refine ⟨sG, ?_⟩
      rw [hD]
      by_cases c2 : j < i
      · rw [if_pos c2, if_pos (by omega)]
      · rw [if_neg c2, if_neg (by omega)]
  · rintro G ⟨sG, hD⟩
    rw [List.length_map, hl, if_pos hj.lt] at hD
    refine ⟨_, D1, [en j], rfl, rfl, .inl (SqL.here hD), ?_, ?_⟩
    · have z : ∀ i, i < 20 → ((([en i] : List Str).map (·.length)).sum + ([en i] : List Str).length * ("+" : Str).length) ≤ 16777216 := by decide +kernel
      exact z j hj.lt
    · exact q G (sm.trans sG)

abbrev s__law_error_field : Stmt := top 48
theorem sc__law_error_field : FnScope ["_law_e", "_law_word"] ["_law_e", "_law_word"] (defScope s__law_error_field) := ⟨rfl, rfl, rfl, by decide +kernel, rfl, by decide +kernel, by decide +kernel⟩
theorem ok__law_error_field {word : Addr → Option Str} {fld : Addr → Option Addr → Hp → V → Prop} (d : D K mg "_law_error_field" s__law_error_field ["_law_e", "_law_word"] f fd) (B : Blt mg)
    (hx : ∀ D nm, word D = some nm → XfC K D ∧ PySem.W.findIn K (.ref D) "position" = some none ∧ PySem.W.findIn K (.ref D) "name" = some none ∧ PySem.W.findIn K (.ref D) "size" = some none ∧ PySem.W.findIn K (.ref D) "row" = some none)
    (hw : ∀ D nm dd H v, word D = some nm → fld D dd H v → ∃ j, j < 20 ∧ nm = en j ∧ ((fk j = 0 ∧ v = .non) ∨ ∃ (e : Addr) (fs : List (Str × V)), fk j ≠ 0 ∧ dd = some e ∧ H e = some (.xd fs) ∧ fs.lookup (fnm (fk j)) = some v)) : FnB P w K mg base 1 f fd ["_law_e", "_law_word"] (spField word fld) := by
  refine Fun.okB d.F sc__law_error_field (fun cdv A outer s H vs Q xh oh hr hb h => ?_)
  obtain ⟨D0, nm, v, hcl, ew, hf, rfl, q⟩ := h
  obtain ⟨j, hj, rfl, hv⟩ := hw _ _ _ _ _ ew hf
  have XF := hx _ _ ew
  have get : ∀ n, fk j = n → n ≠ 0 → ∀ H', Same H H' → ∃ (e : Addr) (fs : List (Str × V)), oh.dict = some e ∧ H' e = some (.xd fs) ∧ fs.lookup (fnm n) = some v := fun n e0 nz H' sm => by
    rcases hv with ⟨z, _⟩ | ⟨e, fs, _, h1, h2, h3⟩
    · exact absurd (e0.symm.trans z) nz
    · exact ⟨e, fs, h1, sm _ _ h2, by rw [← e0]; exact h3⟩
  refine ⟨_, (pss_cons (ps_if (pt_cmpR op_in_seq (pv 1) (pe_lst (pa_cons pe_str (pa_cons pe_str (pa_cons pe_str pa_nil)))) (by with_unfolding_all rfl)) (pss_one (ps_ret (pe_xfB hb XF.1 XF.2.1 hcl (pv 0)))) pss_nil)
 (pss_cons (ps_if (pt_cmpR op_in_seq (pv 1) (pe_lst (pa_cons pe_str (pa_cons pe_str pa_nil))) (by with_unfolding_all rfl)) (pss_one (ps_ret (pe_xfB hb XF.1 XF.2.2.1 hcl (pv 0)))) pss_nil)
 (pss_cons (ps_if (pt_cmpR op_eq (pv 1) pe_str (nomark _)) (pss_one (ps_ret (pe_xfB hb XF.1 XF.2.2.2.1 hcl (pv 0)))) pss_nil)
 (pss_one (ps_ret (pe_ifExp (pt_cmpR op_eq (pv 1) pe_str (nomark _)) (pe_xfB hb XF.1 XF.2.2.2.2 hcl (pv 0)) pe_non)))))), ?_⟩
  refine ⟨_, rfl, by decide, fun p1 n1 => ⟨p1, _, rfl, .inl (SqL.here upd_same), rfl, rfl, _, rfl, ?_⟩⟩
  refine ite2 (fun c => ?_) (fun c1 => ?_)
  · obtain ⟨e, fs, h1, h2, h3⟩ := get 1 (of_decide_eq_true ((fk_in3 j hj).symm.trans c)) (by decide) _ (Same.new n1 _)
    exact ⟨_, rfl, rfl, e, fs, v, h1, h2, h3, q _ (Same.new n1 _)⟩
  refine ⟨_, rfl, by decide, fun p2 n2 => ⟨p2, _, rfl, .inl (SqL.here upd_same), rfl, rfl, _, rfl, ?_⟩⟩
  have s2 := (Same.new n1 (.lst [.str (en 1), .str (en 9), .str (en 17)])).trans (Same.new n2 (.lst [.str (en 14), .str (en 15)]))
  refine ite2 (fun c => ?_) (fun c2 => ?_)
  · obtain ⟨e, fs, h1, h2, h3⟩ := get 2 (of_decide_eq_true ((fk_in2 j hj).symm.trans c)) (by decide) _ s2
    exact ⟨_, rfl, rfl, e, fs, v, h1, h2, h3, q _ s2⟩
  refine ⟨_, rfl, rfl, _, rfl, ?_⟩
  refine ite2 (fun c => ?_) (fun c3 => ?_)
  · obtain ⟨e, fs, h1, h2, h3⟩ := get 3 (of_decide_eq_true ((fk_big j hj).symm.trans c)) (by decide) _ s2
    exact ⟨_, rfl, rfl, e, fs, v, h1, h2, h3, q _ s2⟩
  refine ⟨_, rfl, rfl, _, rfl, ?_⟩
  refine ite2 (fun c => ?_) (fun c4 => ?_)
  · obtain ⟨e, fs, h1, h2, h3⟩ := get 4 (of_decide_eq_true ((fk_row j hj).symm.trans c)) (by decide) _ s2
    exact ⟨_, rfl, rfl, e, fs, v, h1, h2, h3, q _ s2⟩
  have z : v = .non := by
    rcases hv with ⟨_, z⟩ | ⟨e, fs, nz, _⟩
    · exact z
    · exact absurd (fk_none j hj (c1' := ((fk_in3 j hj).symm.trans (by first | exact c1 | exact Bool.eq_false_iff.mpr c1))) (c2' := ((fk_in2 j hj).symm.trans (by first | exact c2 | exact Bool.eq_false_iff.mpr c2))) (c3' := ((fk_big j hj).symm.trans (by first | exact c3 | exact Bool.eq_false_iff.mpr c3))) (c4' := ((fk_row j hj).symm.trans (by first | exact c4 | exact Bool.eq_false_iff.mpr c4)))) nz
  subst z
  exact q _ s2

abbrev s__law_term : Stmt := top 50
theorem sc__law_term : FnScope ["_law_rng", "_law_many", "_law_cap", "_law_half", "_law_low", "_law_high", "_law_left"] ["_law_rng", "_law_many", "_law_cap"] (defScope s__law_term) := ⟨rfl, rfl, rfl, by decide +kernel, rfl, by decide +kernel, by decide +kernel⟩
theorem ok__law_termC {fr : Addr} {frd : FuncData} (d__law_term : D K mg "_law_term" s__law_term ["_law_rng", "_law_many", "_law_cap"] f fd) (B : Blt mg) (d__law_draw : D K mg "_law_draw" s__law_draw ["_law_rng", "_law_amount"] fr frd) : ∀ n : Nat, FnOk P w K mg base CX0 (n + 1) f fd ["_law_rng", "_law_many", "_law_cap"] (spTermC K n)
  | 0 => fn_none fun vs H Q E h => by
    obtain ⟨_, _, _, _, h, _⟩ := h
    omega
  | n + 1 => by
    have G__law_term := ok__law_termC d__law_term B d__law_draw n
    have G__law_draw : FnOk P w K mg base CX0 1 fr frd ["_law_rng", "_law_amount"] spDrawC := ok__law_drawC d__law_draw B
    refine d__law_term.F.ok sc__law_term (fun vs H Q E h => ?_) (fun cdv A outer s H vs Q E hr h => ?_)
    · obtain ⟨_, _, _, _, _, rfl, _⟩ := h
      rfl
    obtain ⟨r, many, k, cc, hk, rfl, h6, h1, h2, hR, q⟩ := h
    refine ⟨_, (pss_cons (ps_if (pt_cmpR op_lt (pv 1) pe_int (nomark _)) (pss_one (ps_ret (pe_tup pa_nil))) pss_nil)
 (pss_cons (ps_set (i := 3) sc__law_term.nd rfl (Or.inl rfl) (pe_op op_fdiv (pv 2) pe_int))
 (pss_cons (ps_par (i := 4) (j := 5) (by rfl) sc__law_term.nd rfl rfl (by decide) rfl rfl (pa_cons (pe_callB (call_max2 rfl) (by rfl) B.max (by decide +kernel) (pa_cons pe_int (pa_cons (pe_op op_sub (pv 1) (pv 3)) pa_nil))) (pa_cons (pe_callB (call_min2 rfl) (by rfl) B.min (by decide +kernel) (pa_cons (pe_op op_sub (pv 1) pe_int) (pa_cons (pv 3) pa_nil))) pa_nil)) (by rfl))
 (pss_cons (ps_set (i := 6) sc__law_term.nd rfl (Or.inl rfl) (pe_op op_add (pv 4) (pe_call G__law_draw (hr.mono (by omega)) rfl d__law_draw.m d__law_draw.F.kp d__law_draw.b .nil pass0 (pa_cons (pv 0) (pa_cons (pe_op op_add (pe_op op_sub (pv 5) (pv 4)) pe_int) pa_nil)))))
 (pss_one (ps_ret (pe_tup (pa_cons (pe_call G__law_term hr rfl d__law_term.m d__law_term.F.kp d__law_term.b .nil pass0 (pa_cons (pv 0) (pa_cons (pv 6) (pa_cons (pv 3) pa_nil)))) (pa_cons (pe_call G__law_term hr rfl d__law_term.m d__law_term.F.kp d__law_term.b .nil pass0 (pa_cons (pv 0) (pa_cons (pe_op op_sub (pv 1) (pv 6)) (pa_cons (pv 3) pa_nil)))) pa_nil))))))))), ?_⟩
    refine ⟨_, rfl, _, _, rfl, rfl, _, rfl, ?_⟩
    refine ite2 (fun c => ?_) (fun c => ?_)
    · have c' : many < 2 := of_decide_eq_true c
      refine ⟨zero_le', fun p hp => ?_⟩
      refine q _ .L _ (ta_leaf (SqT.here upd_same)) (by show ((1 : Nat) : Int) = many; omega) (Nat.zero_le _) (hR.same (Same.new hp _)) (But.same (Same.new hp _))
    · have c' : ¬ many < 2 := of_decide_eq_false (Bool.eq_false_iff.mpr c)
      cases k with
      | zero => exact absurd h2 (by show ¬ many ≤ 1; omega)
      | succ k =>
        have hp : (0 : Int) < 2 ^ k := Int.pow_pos (by decide)
        have hp6 : (2 : Int) ^ k ≤ 2 ^ 6 := by
          have : (2 : Nat) ^ k ≤ 2 ^ 6 := Nat.pow_le_pow_right (by decide) (by omega)
          exact_mod_cast this
        have e2 : (2 : Int) ^ (k + 1) = 2 * 2 ^ k := by rw [Int.pow_succ]; omega
        have eh : (2 : Int) ^ (k + 1) / 2 = 2 ^ k := by rw [e2]; omega
        refine ⟨_, rfl, _, _, rfl, rfl, ⟨by decide, by decide⟩, ?_⟩
        rw [e2] at h2
        generalize hh : (2 : Int) ^ (k + 1) / 2 = half at eh
        refine ⟨_, rfl, _, rfl, _, _, rfl, rfl, _, _, rfl, _, rfl, _, _, rfl, rfl, _, rfl, _, _, rfl, _, _, rfl, ?_⟩
        have el : ∀ a b : Int, (if a > b then a else b) = max b a := fun a b => by
          by_cases h : a > b
          · rw [if_pos h]; omega
          · rw [if_neg h]; omega
        have em : ∀ a b : Int, (if a < b then a else b) = min b a := fun a b => by
          by_cases h : a < b
          · rw [if_pos h]; omega
          · rw [if_neg h]; omega
        generalize hlo : (if many - (2 : Int) ^ (k + 1) / 2 > 1 then many - (2 : Int) ^ (k + 1) / 2 else 1) = lo
        generalize hhi : (if (2 : Int) ^ (k + 1) / 2 < many - 1 then (2 : Int) ^ (k + 1) / 2 else many - 1) = hi
        rw [el, hh, eh] at hlo
        rw [em, hh, eh] at hhi
        have p6 : (2 : Int) ^ 6 = 64 := by decide
        refine ⟨_, rfl, _, rfl, _, rfl, _, rfl, _, _, rfl, rfl, _, _, rfl, rfl, r, hi - lo + 1, cc, rfl, hR, by omega, by omega, fun v H1 v0 v1 R1 b1 => ?_⟩
        refine ⟨_, _, rfl, rfl, ?_⟩
        refine ⟨_, rfl, _, rfl, _, rfl, r, lo + v, k, cc, by omega, ?_, by omega, by omega, by omega, R1, fun x tx H2 a2 z2 d2 R2 b2 => ?_⟩
        · show [V.ref r, V.int (lo + v), V.int ((2 : Int) ^ (k + 1) / 2)] = _
          rw [hh, eh]
        refine ⟨_, rfl, _, rfl, _, rfl, _, _, rfl, rfl, _, rfl, r, many - (lo + v), k, cc, by omega, ?_, by omega, by omega, by omega, R2, fun y ty H3 a3 z3 d3 R3 b3 => ?_⟩
        · show [V.ref r, V.int (many - (lo + v)), V.int ((2 : Int) ^ (k + 1) / 2)] = _
          rw [hh, eh]
        refine ⟨two_le, fun p hp' => ?_⟩
        obtain ⟨ys, l2⟩ := R2.lst
        have sn := Same.new hp' (.tup [x, y])
        refine q _ (.N tx ty) _ (ta_node (SqT.here upd_same) (ta_mono (Tp.same sn) (ta_mono (Tp.but l2 b3) a2)) (ta_mono (Tp.same sn) a3)) ?_ ?_ (R3.same sn) (((b1.trans b2).trans b3).trans (But.same sn))
        · show ((tx.sz + ty.sz : Nat) : Int) = many
          omega
        · show max tx.dp ty.dp + 1 ≤ k + 1
          omega
theorem ok__law_term {fr : Addr} {frd : FuncData} (d__law_term : D K mg "_law_term" s__law_term ["_law_rng", "_law_many", "_law_cap"] f fd) (B : Blt mg) (d__law_draw : D K mg "_law_draw" s__law_draw ["_law_rng", "_law_amount"] fr frd) (n : Nat) : FnOk P w K mg base CX0 (n + 1) f fd ["_law_rng", "_law_many", "_law_cap"] (spTerm K n) := (ok__law_termC d__law_term B d__law_draw n).imp fun _ _ _ _ => spTerm_C

abbrev s__law_comb : Stmt := top 51
theorem sc__law_comb : FnScope ["_law_many", "_law_onleft", "_law_term_here", "_law_step"] ["_law_many", "_law_onleft"] (defScope s__law_comb) := ⟨rfl, rfl, rfl, by decide +kernel, rfl, by decide +kernel, by decide +kernel⟩
theorem ok__law_comb (d : D K mg "_law_comb" s__law_comb ["_law_many", "_law_onleft"] f fd) (B : Blt mg) : FnOk P w K mg base CX0 1 f fd ["_law_many", "_law_onleft"] (spComb K) := by
  refine d.F.ok sc__law_comb (fun vs H Q E h => ?_) (fun cdv A outer s H vs Q E hr h => ?_)
  · obtain ⟨_, _, rfl, _⟩ := h
    rfl
  obtain ⟨m, b, rfl, h1, h2, q⟩ := h
  refine ⟨_, (pss_cons (ps_set (i := 2) sc__law_comb.nd rfl (Or.inl rfl) (pe_tup pa_nil))
 (pss_cons (ps_for PassesOwn.never rfl (pi_range1 (by rfl) B.range (pa_cons (pe_op op_sub (pv 0) pe_int) pa_nil)) (pg_name (i := 3) sc__law_comb.nd rfl (Or.inl rfl))
  (pss_one (ps_set (i := 2) sc__law_comb.nd rfl (Or.inl rfl) (pe_ifExp (pt_truth (pv 1) (by intro _; rfl)) (pe_tup (pa_cons (pv 2) (pa_cons (pe_tup pa_nil) pa_nil))) (pe_tup (pa_cons (pe_tup pa_nil) (pa_cons (pv 2) pa_nil)))))))
 (pss_one (ps_ret (pv 2))))), ?_⟩
  refine ⟨zero_le', fun p hp => ?_⟩
  refine ⟨_, rfl, _, _, rfl, rfl, m - 1, rfl, by omega, by omega, for_range (lo := 0) (n := (m - 1).toNat) (fun i σ H' => ∃ (v : V) (t : Tree) (x : Option V), σ = [some (.int m), some (.bl b), some v, x] ∧ TA K H' v t ∧ t.sz = i + 1 ∧ t.dp = i ∧ Same H H')
    ⟨.ref p, .L, none, rfl, ta_leaf (SqT.here upd_same), rfl, rfl, Same.new hp _⟩ ?_ ?_⟩
  · rintro i σ H' hi ⟨v, t, x, rfl, ha, hz, hd, sm⟩
    refine ⟨_, rfl, b, rfl, ?_⟩
    refine ite2 (fun c => ?_) (fun c => ?_)
    · refine ⟨_, rfl, zero_le', fun p2 hp2 => ⟨two_le, fun p3 hp3 => ?_⟩⟩
      have s2 := Same.new hp2 (.tup [])
      have s3 := s2.trans (Same.new hp3 (.tup [v, .ref p2]))
      refine ⟨_, .N t .L, _, rfl, ta_node (SqT.here upd_same) (ta_mono (Tp.same s3) ha) (ta_mono (Tp.same (Same.new hp3 _)) (ta_leaf (SqT.here upd_same))), by show t.sz + 1 = _; omega, by show max t.dp 0 + 1 = _; omega, sm.trans s3⟩
    · refine ⟨zero_le', fun p2 hp2 => ⟨_, rfl, two_le, fun p3 hp3 => ?_⟩⟩
      have s2 := Same.new hp2 (.tup [])
      have s3 := s2.trans (Same.new hp3 (.tup [.ref p2, v]))
      refine ⟨_, .N .L t, _, rfl, ta_node (SqT.here upd_same) (ta_mono (Tp.same (Same.new hp3 _)) (ta_leaf (SqT.here upd_same))) (ta_mono (Tp.same s3) ha), by show 1 + t.sz = _; omega, by show max 0 t.dp + 1 = _; omega, sm.trans s3⟩
  · rintro σ H' ⟨v, t, x, rfl, ha, hz, hd, sm⟩
    refine ⟨_, rfl, q v t H' ha (by omega) (by omega) sm⟩

abbrev s__law_any_term : Stmt := top 52
theorem sc__law_any_term : FnScope ["_law_rng", "_law_top", "_law_way", "_law_many"] ["_law_rng", "_law_top"] (defScope s__law_any_term) := ⟨rfl, rfl, rfl, by decide +kernel, rfl, by decide +kernel, by decide +kernel⟩
theorem ok__law_any_termC {fr fc ft : Addr} {frd fcd ftd : FuncData} (d__law_any_term : D K mg "_law_any_term" s__law_any_term ["_law_rng", "_law_top"] f fd) (B : Blt mg) (d__law_draw : D K mg "_law_draw" s__law_draw ["_law_rng", "_law_amount"] fr frd)
    (d__law_comb : D K mg "_law_comb" s__law_comb ["_law_many", "_law_onleft"] fc fcd) (d__law_term : D K mg "_law_term" s__law_term ["_law_rng", "_law_many", "_law_cap"] ft ftd) : FnOk P w K mg base CX0 9 f fd ["_law_rng", "_law_top"] (spAnyC K) := by
  have G__law_draw : FnOk P w K mg base CX0 1 fr frd ["_law_rng", "_law_amount"] spDrawC := ok__law_drawC d__law_draw B
  have G__law_comb : FnOk P w K mg base CX0 1 fc fcd ["_law_many", "_law_onleft"] (spComb K) := ok__law_comb d__law_comb B
  have G__law_term : FnOk P w K mg base CX0 8 ft ftd ["_law_rng", "_law_many", "_law_cap"] (spTermC K 7) := ok__law_termC d__law_term B d__law_draw 7
  refine d__law_any_term.F.ok sc__law_any_term (fun vs H Q E h => ?_) (fun cdv A outer s H vs Q E hr h => ?_)
  · obtain ⟨_, _, _, rfl, _⟩ := h
    rfl
  obtain ⟨r, n, cc, rfl, h1, h2, hR, q⟩ := h
  refine ⟨_, (pss_cons (ps_par (i := 2) (j := 3) (by rfl) sc__law_any_term.nd rfl rfl (by decide) rfl rfl (pa_cons (pe_call G__law_draw (hr.mono (by decide)) rfl d__law_draw.m d__law_draw.F.kp d__law_draw.b .nil pass0 (pa_cons (pv 0) (pa_cons pe_int pa_nil))) (pa_cons (pe_op op_add pe_int (pe_call G__law_draw (hr.mono (by decide)) rfl d__law_draw.m d__law_draw.F.kp d__law_draw.b .nil pass0 (pa_cons (pv 0) (pa_cons (pv 1) pa_nil)))) pa_nil)) (by rfl))
 (pss_cons (ps_if (pt_cmpR op_lt (pv 2) pe_int (nomark _)) (pss_one (ps_ret (pe_call G__law_comb (hr.mono (by decide)) rfl d__law_comb.m d__law_comb.F.kp d__law_comb.b .nil pass0 (pa_cons (pe_callB (call_min2 rfl) (by rfl) B.min (by decide +kernel) (pa_cons (pv 3) (pa_cons pe_int pa_nil))) (pa_cons (pe_cmpR op_eq (pv 2) pe_int (nomark _)) pa_nil))))) pss_nil)
 (pss_one (ps_ret (pe_call G__law_term (hr.mono (by decide)) rfl d__law_term.m d__law_term.F.kp d__law_term.b .nil pass0 (pa_cons (pv 0) (pa_cons (pv 3) (pa_cons pe_int pa_nil)))))))), ?_⟩
  refine ⟨_, rfl, r, 8, cc, rfl, hR, by decide, by decide, fun way H1 w0 w1 R1 b1 => ?_⟩
  refine ⟨_, rfl, _, rfl, r, n, cc, rfl, R1, by omega, by omega, fun m H2 m0 m1 R2 b2 => ?_⟩
  have b12 := b1.trans b2
  refine ⟨_, _, rfl, rfl, _, _, rfl, ?_⟩
  refine ⟨_, rfl, _, _, rfl, rfl, _, rfl, ?_⟩
  refine ite2 (fun c => ?_) (fun c => ?_)
  · refine ⟨_, rfl, _, _, rfl, _, rfl, rfl, (if 7 < 1 + m then 7 else 1 + m), decide (V.int way = V.int 0), rfl, ?_, ?_, fun v t H3 a3 z3 d3 s3 => ?_⟩
    · split <;> omega
    · split <;> omega
    · refine q v t H3 a3 ?_ ?_ (R2.same s3) (b12.trans (But.same s3))
      · rw [z3]
        split <;> omega
      · have : (t.dp : Int) ≤ 6 := by
          rw [d3]
          split <;> omega
        omega
  · refine ⟨_, rfl, _, rfl, r, 1 + m, 6, cc, by decide, rfl, by decide, by omega, by show 1 + m ≤ 64; omega, R2, fun v t H3 a3 z3 d3 R3 b3 => ?_⟩
    exact q v t H3 a3 (by omega) d3 R3 (b12.trans b3)
theorem ok__law_any_term {fr fc ft : Addr} {frd fcd ftd : FuncData} (d__law_any_term : D K mg "_law_any_term" s__law_any_term ["_law_rng", "_law_top"] f fd) (B : Blt mg) (d__law_draw : D K mg "_law_draw" s__law_draw ["_law_rng", "_law_amount"] fr frd)
    (d__law_comb : D K mg "_law_comb" s__law_comb ["_law_many", "_law_onleft"] fc fcd) (d__law_term : D K mg "_law_term" s__law_term ["_law_rng", "_law_many", "_law_cap"] ft ftd) : FnOk P w K mg base CX0 9 f fd ["_law_rng", "_law_top"] (spAny K) := (ok__law_any_termC d__law_any_term B d__law_draw d__law_comb d__law_term).imp fun _ _ _ _ => spAny_C

abbrev s__law_size : Stmt := top 53
theorem sc__law_size : FnScope ["_law_term_here"] ["_law_term_here"] (defScope s__law_size) := ⟨rfl, rfl, rfl, by decide +kernel, rfl, by decide +kernel, by decide +kernel⟩
theorem ok__law_size (d__law_size : D K mg "_law_size" s__law_size ["_law_term_here"] f fd) : ∀ n : Nat, FnOk P w K mg base CX0 n f fd ["_law_term_here"] (spTree K (fun t => .int t.sz) n)
  | 0 => fn_none spTree_no
  | n + 1 => by
    have G__law_size := ok__law_size d__law_size n
    refine d__law_size.F.ok sc__law_size (fun vs H Q E h => ?_) (fun cdv A outer s H vs Q E hr h => ?_)
    · obtain ⟨_, _, rfl, _⟩ := h
      rfl
    obtain ⟨v, t, rfl, ha, hd, hn, q⟩ := h
    refine ⟨_, (pss_one (ps_ret (pe_ifExp (pt_cmpR (op_eqD hr.units) (pv 0) (pe_tup pa_nil) (nomark _)) pe_int (pe_op op_add (pe_call G__law_size hr rfl d__law_size.m d__law_size.F.kp d__law_size.b .nil pass0 (pa_cons (pe_ix ix_tup (pv 0) pe_int (fun _ _ => rfl)) pa_nil)) (pe_call G__law_size hr rfl d__law_size.m d__law_size.F.kp d__law_size.b .nil pass0 (pa_cons (pe_ix ix_tup (pv 0) pe_int (fun _ _ => rfl)) pa_nil)))))), ?_⟩
    refine ⟨_, rfl, zero_le', fun p hp => ⟨t.d, .tuple [], ta_mono (Tp.same (Same.new hp _)) ha, Dp.tup (SqT.here upd_same) .nil, Tree.shaped (by omega), shapedE, _, rfl, ite_eq (Tree.eqvL t) ?_⟩⟩
    have s1 := Same.new hp (.tup [])
    cases t with
    | L => exact iteT (q _ s1)
    | N l r =>
      have hd : max l.dp r.dp + 1 < n + 1 := hd
      obtain ⟨b, x1, x2, rfl, hS, hL, hR⟩ := ta_invN (ta_mono (Tp.same s1) ha)
      refine iteF ⟨_, rfl, b, _, 0, _, rfl, rfl, hS, rfl, x1, l, rfl, hL, by omega, by omega, fun H2 s2 => ?_⟩
      refine ⟨_, rfl, b, _, 1, _, rfl, rfl, (Tp.same s2).sqT hS, rfl, x2, r, rfl, ta_mono (Tp.same s2) hR, by omega, by omega, fun H3 s3 => ?_⟩
      refine ⟨_, _, rfl, rfl, ?_⟩
      have e : ((Tree.N l r).sz : Int) = (l.sz : Int) + (r.sz : Int) := by
        show ((l.sz + r.sz : Nat) : Int) = _
        omega
      have q' := q H3 ((s1.trans s2).trans s3)
      show Q (.int ((l.sz : Int) + (r.sz : Int))) H3
      rw [← e]
      exact q'

abbrev s__law_paths : Stmt := top 54
theorem sc__law_paths : FnScope ["_law_term_here", "_law_spot"] ["_law_term_here", "_law_spot"] (defScope s__law_paths) := ⟨rfl, rfl, rfl, by decide +kernel, rfl, by decide +kernel, by decide +kernel⟩
theorem ok__law_paths (d__law_paths : D K mg "_law_paths" s__law_paths ["_law_term_here", "_law_spot"] f fd) : ∀ n : Nat, FnOk P w K mg base CX0 (n + 1) f fd ["_law_term_here", "_law_spot"] (spPts K n)
  | 0 => fn_none fun vs H Q E h => by
    obtain ⟨_, _, _, _, _, h, _⟩ := h
    omega
  | n + 1 => by
    have G__law_paths := ok__law_paths d__law_paths n
    refine d__law_paths.F.ok sc__law_paths (fun vs H Q E h => ?_) (fun cdv A outer s H vs Q E hr h => ?_)
    · obtain ⟨_, _, _, rfl, _⟩ := h
      rfl
    obtain ⟨v, t, p, rfl, ha, hn, hn2, hnd, hpl, q⟩ := h
    refine ⟨_, (pss_cons (ps_if (pt_cmpR (op_eqD hr.units) (pv 0) (pe_tup pa_nil) (nomark _)) (pss_one (ps_ret (pe_lst (pa_cons (pv 1) pa_nil)))) pss_nil)
 (pss_one (ps_ret (pe_op op_cat (pe_op op_cat (pe_lst (pa_cons (pv 1) pa_nil)) (pe_call G__law_paths hr rfl d__law_paths.m d__law_paths.F.kp d__law_paths.b .nil pass0 (pa_cons (pe_ix ix_tup (pv 0) pe_int (fun _ _ => rfl)) (pa_cons (pe_op op_add_str (pv 1) pe_str) pa_nil)))) (pe_call G__law_paths hr rfl d__law_paths.m d__law_paths.F.kp d__law_paths.b .nil pass0 (pa_cons (pe_ix ix_tup (pv 0) pe_int (fun _ _ => rfl)) (pa_cons (pe_op op_add_str (pv 1) pe_str) pa_nil))))))), ?_⟩
    refine ⟨_, rfl, zero_le', fun p5 hp5 => ⟨t.d, .tuple [], ta_mono (Tp.same (Same.new hp5 _)) ha, Dp.tup (SqT.here upd_same) .nil, Tree.shaped (by omega), shapedE, _, rfl, ite_eq (Tree.eqvL t) ?_⟩⟩
    have s1 := Same.new hp5 (.tup [])
    cases t with
    | L => exact iteT ⟨_, rfl, one_le, fun l nl => q l _ (s1.trans (Same.new nl _)) (s1.free nl) upd_same⟩
    | N l r =>
      have hn : max l.dp r.dp + 1 < n + 1 := hn
      have hnd : l.nodes + r.nodes + 1 ≤ 1000 := hnd
      have hpl : p.length + (max l.dp r.dp + 1) ≤ 60 := hpl
      obtain ⟨b, x1, x2, rfl, hS, hL, hR⟩ := ta_invN (ta_mono (Tp.same s1) ha)
      refine iteF ⟨_, rfl, one_le, fun l0 nl0 => ?_⟩
      have s2 := Same.new nl0 (.lst [.str (ptx p)])
      refine ⟨_, rfl, b, _, 0, _, rfl, rfl, (Tp.same s2).sqT hS, rfl, _, rfl, _, _, rfl, rfl, ?_, ?_⟩
      · rw [ptx_len]
        exact fits (by show p.length + 1 ≤ 10000; omega)
      rw [ptx_snoc0]
      refine ⟨x1, l, p ++ [false], rfl, ta_mono (Tp.same s2) hL, by omega, by omega, by omega, by rw [List.length_append, List.length_singleton]; omega, fun l1 H3 s3 nl1 h1 => ?_⟩
      refine ⟨l0, l1, _, _, rfl, rfl, s3 _ _ upd_same, h1, ?_, fun l2 nl2 => ?_⟩
      · rw [ptxs_len, Tree.pts_len]
        exact fits (by show 1 + l.nodes ≤ 10000; omega)
      have s4 := Same.new nl2 (.lst ([.str (ptx p)] ++ ptxs (l.pts (p ++ [false]))))
      have s24 := s2.trans (s3.trans s4)
      refine ⟨_, rfl, b, _, 1, _, rfl, rfl, (Tp.same s24).sqT hS, rfl, _, rfl, _, _, rfl, rfl, ?_, ?_⟩
      · rw [ptx_len]
        exact fits (by show p.length + 1 ≤ 10000; omega)
      rw [ptx_snoc1]
      refine ⟨x2, r, p ++ [true], rfl, ta_mono (Tp.same s24) hR, by omega, by omega, by omega, by rw [List.length_append, List.length_singleton]; omega, fun l3 H5 s5 nl3 h3 => ?_⟩
      refine ⟨l2, l3, _, _, rfl, rfl, s5 _ _ upd_same, h3, ?_, fun l4 nl4 => ?_⟩
      · rw [List.length_append, ptxs_len, Tree.pts_len, ptxs_len, Tree.pts_len]
        exact fits (by show 1 + l.nodes + r.nodes ≤ 10000; omega)
      have sA := s1.trans (s24.trans s5)
      refine q l4 _ (sA.trans (Same.new nl4 _)) (sA.free nl4) ?_
      rw [upd_same]
      show _ = some (HO.lst (ptxs (([p] ++ l.pts (p ++ [false])) ++ r.pts (p ++ [true]))))
      rw [ptxs_app, ptxs_app]
      rfl

abbrev s__law_subterm : Stmt := top 55
theorem sc__law_subterm : FnScope ["_law_term_here", "_law_spot", "_law_sign"] ["_law_term_here", "_law_spot"] (defScope s__law_subterm) := ⟨rfl, rfl, rfl, by decide +kernel, rfl, by decide +kernel, by decide +kernel⟩
theorem ok__law_subterm (d : D K mg "_law_subterm" s__law_subterm ["_law_term_here", "_law_spot"] f fd) : FnOk P w K mg base CX0 1 f fd ["_law_term_here", "_law_spot"] (spStN K) := by
  refine d.F.ok sc__law_subterm (fun vs H Q E h => ?_) (fun cdv A outer s H vs Q E hr h => ?_)
  · obtain ⟨_, _, _, rfl, _⟩ := h
    rfl
  obtain ⟨v, t, p, rfl, ha, hd, qn, q⟩ := h
  refine ⟨_, (pss_cons (ps_for PassesOwn.never rfl (pi_str (pv 1)) (pg_name (i := 2) sc__law_subterm.nd rfl (Or.inl rfl))
  (pss_cons (ps_if (pt_cmpR (op_eqD hr.units) (pv 0) (pe_tup pa_nil) (nomark _)) (pss_one (ps_ret pe_non)) pss_nil)
 (pss_one (ps_set (i := 0) sc__law_subterm.nd rfl (Or.inl rfl) (pe_ifExp (pt_cmpR op_eq (pv 2) pe_str (nomark _)) (pe_ix ix_tup (pv 0) pe_int (fun _ _ => rfl)) (pe_ix ix_tup (pv 0) pe_int (fun _ _ => rfl)))))))
 (pss_one (ps_ret (pv 0)))), ?_⟩
  refine ⟨_, rfl, ptx p, rfl, for_S (z := ptx p) (fun j σ G => ∃ (v : V) (u : Tree) (x : Option V), σ = [some v, some (.str (ptx p)), x] ∧ TA K G v u ∧ u.dp ≤ 60 ∧ Same H G ∧ t.st p = u.st (p.drop j)) ⟨v, t, none, rfl, ha, hd, Same.refl _, rfl⟩ ?_ ?_⟩
  · rintro j c σ G hc ⟨v, u, x, rfl, ha, hd, sm, hst⟩
    obtain ⟨b, hb, rfl⟩ := pcs_at p j c hc
    obtain ⟨hj, eb⟩ := List.getElem?_eq_some_iff.mp hb
    rw [List.drop_eq_getElem_cons hj, eb] at hst
    refine ⟨_, rfl, zero_le', fun p5 hp5 => ⟨u.d, .tuple [], ta_mono (Tp.same (Same.new hp5 _)) ha, Dp.tup (SqT.here upd_same) .nil, Tree.shaped (by omega), shapedE, _, rfl, ite_eq (Tree.eqvL _) ?_⟩⟩
    have s5 := Same.new hp5 (.tup [])
    cases u with
    | L => exact iteT (qn hst _ (sm.trans s5))
    | N l r =>
      have hd : max l.dp r.dp + 1 ≤ 60 := hd
      obtain ⟨q1, x1, x2, rfl, hS, hL, hR⟩ := ta_invN (ta_mono (Tp.same s5) ha)
      refine iteF ?_
      cases b with
      | false =>
        refine ⟨_, rfl, rfl, _, rfl, ite_yes (by decide +kernel) ⟨_, rfl, q1, _, 0, _, rfl, rfl, hS, rfl, ?_⟩⟩
        exact ⟨x1, l, _, rfl, hL, by omega, sm.trans s5, hst⟩
      | true =>
        refine ⟨_, rfl, rfl, _, rfl, ite_no (by decide +kernel) ⟨_, rfl, q1, _, 1, _, rfl, rfl, hS, rfl, ?_⟩⟩
        exact ⟨x2, r, _, rfl, hR, by omega, sm.trans s5, hst⟩
  · rintro σ G ⟨v, u, x, rfl, ha, hd, sm, hst⟩
    rw [ptx_size, List.drop_eq_nil_of_le (Nat.le_refl _), Tree.st_nil] at hst
    exact ⟨_, rfl, q u hst v G ha sm⟩

abbrev s__law_replace : Stmt := top 56
theorem sc__law_replace : FnScope ["_law_term_here", "_law_spot", "_law_new"] ["_law_term_here", "_law_spot", "_law_new"] (defScope s__law_replace) := ⟨rfl, rfl, rfl, by decide +kernel, rfl, by decide +kernel, by decide +kernel⟩
theorem ok__law_replace (d__law_replace : D K mg "_law_replace" s__law_replace ["_law_term_here", "_law_spot", "_law_new"] f fd) : ∀ n : Nat, FnOk P w K mg base CX0 n f fd ["_law_term_here", "_law_spot", "_law_new"] (spRp K n)
  | 0 => fn_none fun vs H Q E h => by
    obtain ⟨_, _, _, _, _, _, _, _, _, h, _⟩ := h
    omega
  | n + 1 => by
    have G__law_replace := ok__law_replace d__law_replace n
    refine d__law_replace.F.ok sc__law_replace (fun vs H Q E h => ?_) (fun cdv A outer s H vs Q E hr h => ?_)
    · obtain ⟨_, _, _, _, _, _, rfl, _⟩ := h
      rfl
    obtain ⟨v, w', t, u, t', p, rfl, ha, hu, hp, hn, hrp, q⟩ := h
    refine ⟨_, (pss_cons (ps_if (pt_cmpR op_eq (pv 1) pe_str (nomark _)) (pss_one (ps_ret (pv 2))) pss_nil)
 (pss_cons (ps_if (pt_cmpR op_eq (pe_ix ix_str (pv 1) pe_int (fun _ _ => rfl)) pe_str (nomark _)) (pss_one (ps_ret (pe_tup (pa_cons (pe_call G__law_replace hr rfl d__law_replace.m d__law_replace.F.kp d__law_replace.b .nil pass0 (pa_cons (pe_ix ix_tup (pv 0) pe_int (fun _ _ => rfl)) (pa_cons (pe_slice sl_str (pv 1) (po_some pe_int) po_none) (pa_cons (pv 2) pa_nil)))) (pa_cons (pe_ix ix_tup (pv 0) pe_int (fun _ _ => rfl)) pa_nil))))) pss_nil)
 (pss_one (ps_ret (pe_tup (pa_cons (pe_ix ix_tup (pv 0) pe_int (fun _ _ => rfl)) (pa_cons (pe_call G__law_replace hr rfl d__law_replace.m d__law_replace.F.kp d__law_replace.b .nil pass0 (pa_cons (pe_ix ix_tup (pv 0) pe_int (fun _ _ => rfl)) (pa_cons (pe_slice sl_str (pv 1) (po_some pe_int) po_none) (pa_cons (pv 2) pa_nil)))) pa_nil))))))), ?_⟩
    cases p with
    | nil =>
      rw [Tree.rp_nil] at hrp
      cases hrp
      exact ⟨_, rfl, rfl, _, rfl, ite_yes (by decide +kernel) ⟨_, rfl, q w' H hu (Same.refl _)⟩⟩
    | cons b p =>
      have hp : p.length + 1 < n + 1 := hp
      have lp : (ptx (b :: p)).length ≤ sizeLine := by
        rw [ptx_len]
        show p.length + 1 ≤ _
        exact fits (by omega)
      have at0 : atI (ptx (b :: p)).cps.toList 0 = some (if b then 49 else 48) := by
        rw [ptx_cps]
        exact atI_nat (j := 0) rfl
      cases t with
      | L => cases hrp
      | N l r =>
        obtain ⟨q1, x1, x2, rfl, hS, hL, hR⟩ := ta_invN ha
        refine ⟨_, rfl, rfl, _, rfl, ite_no (not_empty b p) ?_⟩
        cases b with
        | false =>
          have hrp : (l.rp p u).map (fun l' => Tree.N l' r) = some t' := hrp
          cases e : l.rp p u with
          | none =>
            rw [e] at hrp
            cases hrp
          | some l' =>
            rw [e] at hrp
            cases hrp
            refine ⟨_, rfl, _, 0, _, rfl, rfl, lp, at0, rfl, _, rfl, ite_yes (by decide +kernel) ?_⟩
            refine ⟨_, rfl, q1, _, 0, _, rfl, rfl, hS, rfl, _, rfl, 1, rfl, _, rfl, lp, ?_⟩
            rw [ptx_tail]
            refine ⟨_, rfl, x1, w', l, u, l', p, rfl, hL, hu, by omega, by omega, e, fun y H2 t2 s2 => ?_⟩
            refine ⟨_, rfl, q1, _, 1, _, rfl, rfl, (Tp.same s2).sqT hS, rfl, two_le, fun p3 hp3 => ?_⟩
            have s3 := Same.new hp3 (.tup [y, x2])
            exact q _ _ (ta_node (SqT.here upd_same) (ta_mono (Tp.same s3) t2) (ta_mono (Tp.same (s2.trans s3)) hR)) (s2.trans s3)
        | true =>
          have hrp : (r.rp p u).map (fun r' => Tree.N l r') = some t' := hrp
          cases e : r.rp p u with
          | none =>
            rw [e] at hrp
            cases hrp
          | some r' =>
            rw [e] at hrp
            cases hrp
            refine ⟨_, rfl, _, 0, _, rfl, rfl, lp, at0, rfl, _, rfl, ite_no (by decide +kernel) ?_⟩
            refine ⟨_, rfl, q1, _, 0, _, rfl, rfl, hS, rfl, _, rfl, q1, _, 1, _, rfl, rfl, hS, rfl, _, rfl, 1, rfl, _, rfl, lp, ?_⟩
            rw [ptx_tail]
            refine ⟨_, rfl, x2, w', r, u, r', p, rfl, hR, hu, by omega, by omega, e, fun y H2 t2 s2 => ⟨two_le, fun p3 hp3 => ?_⟩⟩
            have s3 := Same.new hp3 (.tup [x1, y])
            exact q _ _ (ta_node (SqT.here upd_same) (ta_mono (Tp.same (s2.trans s3)) hL) (ta_mono (Tp.same s3) t2)) (s2.trans s3)

abbrev s__law_expanded : Stmt := top 57
theorem sc__law_expanded : FnScope ["_law_some"] ["_law_some"] (defScope s__law_expanded) := ⟨rfl, rfl, rfl, by decide +kernel, rfl, by decide +kernel, by decide +kernel⟩
theorem ok__law_expanded (d : D K mg "_law_expanded" s__law_expanded ["_law_some"] f fd) : FnOk P w K mg base CX0 1 f fd ["_law_some"] (spR0 K true) := by
  refine d.F.ok sc__law_expanded (fun vs H Q E h => ?_) (fun cdv A outer s H vs Q E hr h => ?_)
  · obtain ⟨_, _, rfl, _⟩ := h
    rfl
  obtain ⟨v, t, rfl, ha, hd, qn, q⟩ := h
  refine ⟨_, (pss_cons (ps_if (PW.pt (pw_or (pt_cmpR (op_eqD hr.units) (pv 0) (pe_tup pa_nil) (nomark _)) (pw_or1 (pt_cmpR (op_eqD hr.units) (pe_ix ix_tup (pv 0) pe_int (fun _ _ => rfl)) (pe_tup pa_nil) (nomark _))))) (pss_one (ps_ret pe_non)) pss_nil)
 (pss_one (ps_ret (pe_tup (pa_cons (pe_tup (pa_cons (pe_ix ix_tup (pv 0) pe_int (fun _ _ => rfl)) (pa_cons (pe_ix ix_tup (pe_ix ix_tup (pv 0) pe_int (fun _ _ => rfl)) pe_int (fun _ _ => rfl)) pa_nil))) (pa_cons (pe_tup (pa_cons (pe_ix ix_tup (pv 0) pe_int (fun _ _ => rfl)) (pa_cons (pe_ix ix_tup (pe_ix ix_tup (pv 0) pe_int (fun _ _ => rfl)) pe_int (fun _ _ => rfl)) pa_nil))) pa_nil)))))), ?_⟩
  refine ⟨_, rfl, zero_le', fun p hp => ⟨t.d, .tuple [], ta_mono (Tp.same (Same.new hp _)) ha, Dp.tup (SqT.here upd_same) .nil, Tree.shaped (by omega), shapedE, _, rfl, ite_eq (Tree.eqvL _) ?_⟩⟩
  have s1 := Same.new hp (.tup [])
  cases t with
  | L => exact iteT (iteT (qn rfl _ s1))
  | N a r =>
    have hd : max a.dp r.dp + 1 ≤ 60 := hd
    obtain ⟨q1, x1, x2, rfl, hS, hL, hR⟩ := ta_invN (ta_mono (Tp.same s1) ha)
    refine iteF ⟨_, rfl, q1, _, 1, _, rfl, rfl, hS, rfl, zero_le', fun p2 hp2 => ⟨r.d, .tuple [], ta_mono (Tp.same (Same.new hp2 _)) hR, Dp.tup (SqT.here upd_same) .nil, Tree.shaped (by omega), shapedE, _, rfl, ite_eq (Tree.eqvL _) ?_⟩⟩
    have s2 := Same.new hp2 (.tup [])
    cases r with
    | L => exact iteT (qn rfl _ (s1.trans s2))
    | N b c =>
      obtain ⟨q2, y1, y2, rfl, hS2, hL2, hR2⟩ := ta_invN hR
      refine iteF ?_
      refine ⟨_, rfl, q1, _, 0, _, rfl, rfl, (Tp.same s2).sqT hS, rfl, _, rfl, q1, _, 1, _, rfl, rfl, (Tp.same s2).sqT hS, rfl, q2, _, 0, _, rfl, rfl, (Tp.same s2).sqT hS2, rfl, two_le, fun p3 hp3 => ?_⟩
      have s3 := s2.trans (Same.new hp3 (.tup [x1, y1]))
      refine ⟨_, rfl, q1, _, 0, _, rfl, rfl, (Tp.same s3).sqT hS, rfl, _, rfl, q1, _, 1, _, rfl, rfl, (Tp.same s3).sqT hS, rfl, q2, _, 1, _, rfl, rfl, (Tp.same s3).sqT hS2, rfl, two_le, fun p4 hp4 => ⟨two_le, fun p5 hp5 => ?_⟩⟩
      have s4 := Same.new hp4 (.tup [x1, y2])
      have s5 := Same.new hp5 (.tup [.ref p3, .ref p4])
      have s35 := (s3.trans s4).trans s5
      refine q (.N (.N a b) (.N a c)) rfl _ _ (ta_node (SqT.here upd_same) (ta_node (SqT.here (s5 _ _ (s4 _ _ upd_same))) (ta_mono (Tp.same s35) hL) (ta_mono (Tp.same s35) hL2)) (ta_node (SqT.here (s5 _ _ upd_same)) (ta_mono (Tp.same s35) hL) (ta_mono (Tp.same s35) hR2))) (s1.trans s35)

abbrev s__law_contracted : Stmt := top 58
theorem sc__law_contracted : FnScope ["_law_some"] ["_law_some"] (defScope s__law_contracted) := ⟨rfl, rfl, rfl, by decide +kernel, rfl, by decide +kernel, by decide +kernel⟩
theorem ok__law_contracted (d : D K mg "_law_contracted" s__law_contracted ["_law_some"] f fd) : FnOk P w K mg base CX0 1 f fd ["_law_some"] (spR0 K false) := by
  refine d.F.ok sc__law_contracted (fun vs H Q E h => ?_) (fun cdv A outer s H vs Q E hr h => ?_)
  · obtain ⟨_, _, rfl, _⟩ := h
    rfl
  obtain ⟨v, t, rfl, ha, hd, qn, q⟩ := h
  refine ⟨_, (pss_cons (ps_if (PW.pt (pw_or (pt_cmpR (op_eqD hr.units) (pv 0) (pe_tup pa_nil) (nomark _)) (pw_or (pt_cmpR (op_eqD hr.units) (pe_ix ix_tup (pv 0) pe_int (fun _ _ => rfl)) (pe_tup pa_nil) (nomark _)) (pw_or (pt_cmpR (op_eqD hr.units) (pe_ix ix_tup (pv 0) pe_int (fun _ _ => rfl)) (pe_tup pa_nil) (nomark _)) (pw_or1 (pt_cmpR (op_neD hr.units) (pe_ix ix_tup (pe_ix ix_tup (pv 0) pe_int (fun _ _ => rfl)) pe_int (fun _ _ => rfl)) (pe_ix ix_tup (pe_ix ix_tup (pv 0) pe_int (fun _ _ => rfl)) pe_int (fun _ _ => rfl)) (nomark _))))))) (pss_one (ps_ret pe_non)) pss_nil)
 (pss_one (ps_ret (pe_tup (pa_cons (pe_ix ix_tup (pe_ix ix_tup (pv 0) pe_int (fun _ _ => rfl)) pe_int (fun _ _ => rfl)) (pa_cons (pe_tup (pa_cons (pe_ix ix_tup (pe_ix ix_tup (pv 0) pe_int (fun _ _ => rfl)) pe_int (fun _ _ => rfl)) (pa_cons (pe_ix ix_tup (pe_ix ix_tup (pv 0) pe_int (fun _ _ => rfl)) pe_int (fun _ _ => rfl)) pa_nil))) pa_nil)))))), ?_⟩
  refine ⟨_, rfl, zero_le', fun p hp => ⟨t.d, .tuple [], ta_mono (Tp.same (Same.new hp _)) ha, Dp.tup (SqT.here upd_same) .nil, Tree.shaped (by omega), shapedE, _, rfl, ite_eq (Tree.eqvL _) ?_⟩⟩
  have s1 := Same.new hp (.tup [])
  cases t with
  | L => exact iteT (iteT (qn rfl _ s1))
  | N l r =>
    have hd : max l.dp r.dp + 1 ≤ 60 := hd
    obtain ⟨q1, x1, x2, rfl, hS, hL, hR⟩ := ta_invN (ta_mono (Tp.same s1) ha)
    refine iteF ⟨_, rfl, q1, _, 0, _, rfl, rfl, hS, rfl, zero_le', fun p2 hp2 => ⟨l.d, .tuple [], ta_mono (Tp.same (Same.new hp2 _)) hL, Dp.tup (SqT.here upd_same) .nil, Tree.shaped (by omega), shapedE, _, rfl, ite_eq (Tree.eqvL _) ?_⟩⟩
    have s2 := Same.new hp2 (.tup [])
    cases l with
    | L => exact iteT (iteT (qn rfl _ (s1.trans s2)))
    | N a b =>
      refine iteF ⟨_, rfl, q1, _, 1, _, rfl, rfl, (Tp.same s2).sqT hS, rfl, zero_le', fun p3 hp3 => ⟨r.d, .tuple [], ta_mono (Tp.same (s2.trans (Same.new hp3 _))) hR, Dp.tup (SqT.here upd_same) .nil, Tree.shaped (by omega), shapedE, _, rfl, ite_eq (Tree.eqvL _) ?_⟩⟩
      have s3 := s2.trans (Same.new hp3 (.tup []))
      cases r with
      | L => exact iteT (iteT (qn rfl _ (s1.trans s3)))
      | N a' c =>
        have hd : max (max a.dp b.dp + 1) (max a'.dp c.dp + 1) + 1 ≤ 60 := hd
        have hS := (Tp.same s3).sqT hS
        obtain ⟨q2, y1, y2, rfl, hS2, hL2, hR2⟩ := ta_invN (ta_mono (Tp.same s3) hL)
        obtain ⟨q3, z1, z2, rfl, hS3, hL3, hR3⟩ := ta_invN (ta_mono (Tp.same s3) hR)
        refine iteF ⟨_, rfl, q1, _, 0, _, rfl, rfl, hS, rfl, q2, _, 0, _, rfl, rfl, hS2, rfl, _, rfl, q1, _, 1, _, rfl, rfl, hS, rfl, q3, _, 0, _, rfl, rfl, hS3, rfl, a.d, a'.d, hL2, hL3, Tree.shaped (by omega), Tree.shaped (by omega), _, rfl, ite_eq (congrArg not (Tree.eqvT a a')) ?_⟩
        cases e : a.eqb a' with
        | false =>
          refine iteT (qn ?_ _ (s1.trans s3))
          show (if a.eqb a' = true then some (Tree.N a (.N b c)) else none) = none
          rw [e]
          rfl
        | true =>
          refine iteF ?_
          refine ⟨_, rfl, q1, _, 0, _, rfl, rfl, hS, rfl, q2, _, 0, _, rfl, rfl, hS2, rfl, _, rfl, q1, _, 0, _, rfl, rfl, hS, rfl, q2, _, 1, _, rfl, rfl, hS2, rfl, _, rfl, q1, _, 1, _, rfl, rfl, hS, rfl, q3, _, 1, _, rfl, rfl, hS3, rfl, two_le, fun p4 hp4 => ⟨two_le, fun p5 hp5 => ?_⟩⟩
          have s4 := Same.new hp4 (.tup [y2, z2])
          have s5 := Same.new hp5 (.tup [y1, .ref p4])
          refine q (.N a (.N b c)) ?_ _ _ (ta_node (SqT.here upd_same) (ta_mono (Tp.same (s4.trans s5)) hL2) (ta_node (SqT.here (s5 _ _ upd_same)) (ta_mono (Tp.same (s4.trans s5)) hR2) (ta_mono (Tp.same (s4.trans s5)) hR3))) ((s1.trans s3).trans (s4.trans s5))
          show (if a.eqb a' = true then some (Tree.N a (.N b c)) else none) = _
          rw [e]
          rfl

abbrev s__law_rewrite : Stmt := top 59
theorem sc__law_rewrite : FnScope ["_law_term_here", "_law_spot", "_law_onward", "_law_current", "_law_new"] ["_law_term_here", "_law_spot", "_law_onward"] (defScope s__law_rewrite) := ⟨rfl, rfl, rfl, by decide +kernel, rfl, by decide +kernel, by decide +kernel⟩
theorem ta_ne {H : Hp} {v : V} {t : Tree} (h : TA K H v t) : decide (v = V.non) = false := by
  obtain ⟨a, xs, rfl, _⟩ := ta_inv h
  exact decide_eq_false fun z => by cases z
theorem ok__law_rewrite {f1 f2 f3 f4 : Addr} {e1 e2 e3 e4 : FuncData} (d : D K mg "_law_rewrite" s__law_rewrite ["_law_term_here", "_law_spot", "_law_onward"] f fd) (d__law_subterm : D K mg "_law_subterm" s__law_subterm ["_law_term_here", "_law_spot"] f1 e1) (d__law_expanded : D K mg "_law_expanded" s__law_expanded ["_law_some"] f2 e2)
    (d__law_replace : D K mg "_law_replace" s__law_replace ["_law_term_here", "_law_spot", "_law_new"] f3 e3) (d__law_contracted : D K mg "_law_contracted" s__law_contracted ["_law_some"] f4 e4) (n : Nat) : FnOk P w K mg base CX0 (n + 1 + 1) f fd ["_law_term_here", "_law_spot", "_law_onward"] (spRwN K n) := by
  have G__law_subterm : FnOk P w K mg base CX0 1 f1 e1 ["_law_term_here", "_law_spot"] (spStN K) := ok__law_subterm d__law_subterm
  have G__law_expanded : FnOk P w K mg base CX0 1 f2 e2 ["_law_some"] (spR0 K true) := ok__law_expanded d__law_expanded
  have G__law_contracted : FnOk P w K mg base CX0 1 f4 e4 ["_law_some"] (spR0 K false) := ok__law_contracted d__law_contracted
  have G__law_replace : FnOk P w K mg base CX0 n f3 e3 ["_law_term_here", "_law_spot", "_law_new"] (spRp K n) := ok__law_replace d__law_replace n
  refine d.F.ok sc__law_rewrite (fun vs H Q E h => ?_) (fun cdv A outer s H vs Q E hr h => ?_)
  · obtain ⟨_, _, _, _, rfl, _⟩ := h
    rfl
  obtain ⟨v, t, p, on, rfl, ha, hd, hp, hn, qn, q⟩ := h
  refine ⟨_, (pss_cons (ps_set (i := 3) sc__law_rewrite.nd rfl (Or.inl rfl) (pe_call G__law_subterm (hr.mono (by omega)) rfl d__law_subterm.m d__law_subterm.F.kp d__law_subterm.b .nil pass0 (pa_cons (pv 0) (pa_cons (pv 1) pa_nil))))
 (pss_cons (ps_set (i := 4) sc__law_rewrite.nd rfl (Or.inl rfl) pe_non)
 (pss_cons (ps_if (pt_cmpR op_notN (pv 3) pe_non (nomark _)) (pss_one (ps_set (i := 4) sc__law_rewrite.nd rfl (Or.inl rfl) (pe_ifExp (pt_truth (pv 2) (by intro _; rfl)) (pe_call G__law_expanded (hr.mono (by omega)) rfl d__law_expanded.m d__law_expanded.F.kp d__law_expanded.b .nil pass0 (pa_cons (pv 3) pa_nil)) (pe_call G__law_contracted (hr.mono (by omega)) rfl d__law_contracted.m d__law_contracted.F.kp d__law_contracted.b .nil pass0 (pa_cons (pv 3) pa_nil))))) pss_nil)
 (pss_one (ps_ret (pe_ifExp (pt_cmpR op_isN (pv 4) pe_non (nomark _)) pe_non (pe_call G__law_replace (hr.mono (by omega)) rfl d__law_replace.m d__law_replace.F.kp d__law_replace.b .nil pass0 (pa_cons (pv 0) (pa_cons (pv 1) (pa_cons (pv 4) pa_nil)))))))))), ?_⟩
  refine ⟨_, rfl, _, rfl, v, t, p, rfl, ha, hd, fun hz H1 s1 => ?_, fun u hz x H1 a1 s1 => ?_⟩
  · refine ⟨_, rfl, rfl, _, rfl, ite_no rfl ?_⟩
    refine ⟨_, rfl, rfl, _, rfl, ite_yes rfl (qn ?_ H1 s1)⟩
    unfold Tree.rwt
    rw [hz]
    rfl
  have hl := Tree.st_len t p u hz
  have hW : t.rwt on p = (u.r0 on).bind fun u' => t.rp p u' := by
    unfold Tree.rwt
    rw [hz]
    rfl
  refine ⟨_, rfl, rfl, _, rfl, ite_yes (by rw [ta_ne a1]; rfl) ?_⟩
  have fin : ∀ (u' : Tree), u.r0 on = some u' → ∀ (y : V) (H2 : Hp), TA K H2 y u' → Same H1 H2 → ∃ t', t.rp p u' = some t' ∧ t.rwt on p = some t' := fun u' e y H2 _ _ => by
    obtain ⟨t', e'⟩ := Tree.rp_some u' t p u hz
    refine ⟨t', e', ?_⟩
    rw [hW, e]
    exact e'
  have non : u.r0 on = none → t.rwt on p = none := fun e => by
    rw [hW, e]
    rfl
  refine ⟨_, rfl, on, rfl, ?_⟩
  cases on with
  | true =>
    refine iteT ⟨_, rfl, x, u, rfl, a1, by omega, fun hz2 H2 s2 => ?_, fun u' hz2 y H2 a2 s2 => ?_⟩
    · exact ⟨_, rfl, rfl, _, rfl, ite_yes rfl (qn (non hz2) H2 (s1.trans s2))⟩
    obtain ⟨t', e1, e2⟩ := fin u' hz2 y H2 a2 s2
    refine ⟨_, rfl, rfl, _, rfl, ite_no (ta_ne a2) ?_⟩
    exact ⟨_, rfl, _, rfl, _, rfl, v, y, t, u', t', p, rfl, ta_mono (Tp.same (s1.trans s2)) ha, a2, hp, by omega, e1, fun z H3 a3 s3 => q t' e2 z H3 a3 ((s1.trans s2).trans s3)⟩
  | false =>
    refine iteF ⟨_, rfl, x, u, rfl, a1, by omega, fun hz2 H2 s2 => ?_, fun u' hz2 y H2 a2 s2 => ?_⟩
    · exact ⟨_, rfl, rfl, _, rfl, ite_yes rfl (qn (non hz2) H2 (s1.trans s2))⟩
    obtain ⟨t', e1, e2⟩ := fin u' hz2 y H2 a2 s2
    refine ⟨_, rfl, rfl, _, rfl, ite_no (ta_ne a2) ?_⟩
    exact ⟨_, rfl, _, rfl, _, rfl, v, y, t, u', t', p, rfl, ta_mono (Tp.same (s1.trans s2)) ha, a2, hp, by omega, e1, fun z H3 a3 s3 => q t' e2 z H3 a3 ((s1.trans s2).trans s3)⟩

abbrev s__law_steps : Stmt := top 60
theorem sc__law_steps : FnScope ["_law_term_here", "_law_result", "_law_spot", "_law_onward"] ["_law_term_here"] (defScope s__law_steps) := ⟨rfl, rfl, rfl, by decide +kernel, rfl, by decide +kernel, by decide +kernel⟩
def spStps10 (K : PySem.W.Frag) : Sp := fun vs H Q _ => ∃ (v : V) (t : Tree), vs = [v] ∧ TA K H v t ∧ t.dp ≤ 28 ∧ t.nodes ≤ 400 ∧ ∀ (l : Addr) (xs : List V) (H' : Hp), Same H H' → H l = none → H' l = some (.lst xs) → xs.length ≤ 1000 → (∀ x ∈ xs, StepAt K H' t x) → Q (.ref l) H'
theorem ok__law_steps {f1 f2 f3 f4 f5 f6 : Addr} {e1 e2 e3 e4 e5 e6 : FuncData} (d : D K mg "_law_steps" s__law_steps ["_law_term_here"] f fd) (d__law_paths : D K mg "_law_paths" s__law_paths ["_law_term_here", "_law_spot"] f6 e6) (d__law_rewrite : D K mg "_law_rewrite" s__law_rewrite ["_law_term_here", "_law_spot", "_law_onward"] f5 e5) (d__law_subterm : D K mg "_law_subterm" s__law_subterm ["_law_term_here", "_law_spot"] f1 e1) (d__law_expanded : D K mg "_law_expanded" s__law_expanded ["_law_some"] f2 e2)
    (d__law_replace : D K mg "_law_replace" s__law_replace ["_law_term_here", "_law_spot", "_law_new"] f3 e3) (d__law_contracted : D K mg "_law_contracted" s__law_contracted ["_law_some"] f4 e4) : FnOk P w K mg base CX0 32 f fd ["_law_term_here"] (spStps10 K) := by
  have G__law_paths : FnOk P w K mg base CX0 30 f6 e6 ["_law_term_here", "_law_spot"] (spPts K 29) := ok__law_paths d__law_paths 29
  have G__law_rewrite : FnOk P w K mg base CX0 31 f5 e5 ["_law_term_here", "_law_spot", "_law_onward"] (spRwN K 29) := ok__law_rewrite d__law_rewrite d__law_subterm d__law_expanded d__law_replace d__law_contracted 29
  refine d.F.ok sc__law_steps (fun vs H Q E h => ?_) (fun cdv A outer s H vs Q E hr h => ?_)
  · obtain ⟨_, _, rfl, _⟩ := h
    rfl
  obtain ⟨v, t, rfl, ha, hd, hnd, q⟩ := h
  refine ⟨_, (pss_cons (ps_set (i := 1) sc__law_steps.nd rfl (Or.inl rfl) (pe_lst pa_nil))
 (pss_cons (ps_for PassesOwn.never rfl (pi_list (pe_call G__law_paths (hr.mono (by decide)) rfl d__law_paths.m d__law_paths.F.kp d__law_paths.b .nil pass0 (pa_cons (pv 0) (pa_cons pe_str pa_nil)))) (pg_name (i := 2) sc__law_steps.nd rfl (Or.inl rfl))
  (pss_one (ps_for PassesOwn.never rfl (pi_list (pe_lst (pa_cons pe_bl (pa_cons pe_bl pa_nil)))) (pg_name (i := 3) sc__law_steps.nd rfl (Or.inl rfl))
  (pss_one (ps_if (pt_cmpR op_notN (pe_call G__law_rewrite (hr.mono (by decide)) rfl d__law_rewrite.m d__law_rewrite.F.kp d__law_rewrite.b .nil pass0 (pa_cons (pv 0) (pa_cons (pv 2) (pa_cons (pv 3) pa_nil)))) pe_non (nomark _)) (pss_one (ps_expr (pe_bm PySem.F.plainAttrs_list PySem.F.slot_list_append PySem.F.type_list_append mt_append (pv 1) (pa_cons (pe_tup (pa_cons (pv 2) (pa_cons (pv 3) pa_nil))) pa_nil)))) pss_nil)))))
 (pss_one (ps_ret (pv 1))))), ?_⟩
  refine ⟨zero_le', fun l nl => ?_⟩
  have s1 := Same.new nl (.lst [])
  refine ⟨_, rfl, v, t, [], rfl, ta_mono (Tp.same s1) ha, by omega, by omega, by omega, by show 0 + t.dp ≤ 60; omega, fun b H2 s2 nb hb => ?_⟩
  have nbl : b ≠ l := fun z => by rw [z, upd_same] at nb; cases nb
  have hpl : ∀ p ∈ t.pts [], p.length ≤ 28 := fun p hp => by
    have := Tree.pts_le t [] p hp
    have e : ([] : List Bool).length = 0 := rfl
    omega
  have hl2 : H2 l = some (.lst []) := s2 _ _ upd_same
  refine ⟨b, rfl, ⟨_, SqL.here hb⟩, for_list (xs := ptxs (t.pts [])) (fun i σ G => ∃ (x y : Option V) (xs : List V), σ = [some v, some (.ref l), x, y] ∧ Same H G ∧ G b = some (.lst (ptxs (t.pts []))) ∧ G l = some (.lst xs) ∧ xs.length ≤ 2 * i ∧ ∀ x ∈ xs, StepAt K G t x)
    ⟨none, none, [], rfl, s1.trans s2, hb, hl2, Nat.zero_le _, fun x hx => nomatch hx⟩ ?_ ?_ ?_⟩
  · rintro i σ G _ ⟨x, y, xs, rfl, _, hb, _⟩
    exact SqL.here hb
  · rintro i x0 σ G hx ⟨x, y, xs, rfl, sm, hb, hl, hlen, hX⟩
    unfold ptxs at hx
    rw [List.getElem?_map] at hx
    cases ep : (t.pts [])[i]? with
    | none => rw [ep] at hx; cases hx
    | some p =>
      rw [ep] at hx
      cases hx
      have hi : i < (t.pts []).length := (List.getElem?_eq_some_iff.mp ep).1
      have hi : i < t.nodes := by rw [← Tree.pts_len t []]; exact hi
      have hp8 := hpl p (List.mem_of_getElem? ep)
      refine ⟨two_le, fun z nz => ?_⟩
      have nzl : z ≠ l := fun e => by rw [e, hl] at nz; cases nz
      have nzb : z ≠ b := fun e => by rw [e, hb] at nz; cases nz
      have sz := Same.new nz (.lst [.bl true, .bl false])
      refine ⟨z, rfl, ⟨_, SqL.here upd_same⟩, for_list (xs := [.bl true, .bl false]) (fun j σ G => ∃ (y : Option V) (xs : List V), σ = [some v, some (.ref l), some (.str (ptx p)), y] ∧ Same H G ∧ G b = some (.lst (ptxs (t.pts []))) ∧ G z = some (.lst [.bl true, .bl false]) ∧ G l = some (.lst xs) ∧ xs.length ≤ 2 * i + j ∧ ∀ x ∈ xs, StepAt K G t x)
        ⟨y, xs, rfl, sm.trans sz, sz _ _ hb, upd_same, sz _ _ hl, hlen, fun x hx => (hX x hx).tp (Tp.same sz)⟩ ?_ ?_ ?_⟩
      · rintro j σ G _ ⟨y, xs, rfl, _, _, hz, _⟩
        exact SqL.here hz
      · rintro j x1 σ G hx ⟨y, xs, rfl, sm, hb, hz, hl, hlen, hX⟩
        obtain ⟨on, rfl⟩ : ∃ on, x1 = V.bl on := by
          match j, hx with
          | 0, hx => cases hx; exact ⟨_, rfl⟩
          | 1, hx => cases hx; exact ⟨_, rfl⟩
        have hj : j < 2 := (List.getElem?_eq_some_iff.mp hx).1
        refine ⟨_, rfl, _, rfl, _, rfl, v, t, p, on, rfl, ta_mono (Tp.same sm) ha, by omega, by omega, by omega, fun _ G2 s3 => ?_, fun t' ht' x2 G2 a2 s3 => ?_⟩
        · refine ⟨rfl, _, rfl, ite_no rfl ?_⟩
          exact ⟨_, xs, rfl, sm.trans s3, s3 _ _ hb, s3 _ _ hz, s3 _ _ hl, by omega, fun x hx => (hX x hx).tp (Tp.same s3)⟩
        · refine ⟨rfl, _, rfl, ite_yes (by rw [ta_ne a2]; rfl) ?_⟩
          have hl3 := s3 _ _ hl
          refine ⟨_, rfl, .inl ⟨rfl, _, SqL.here hl3⟩, _, rfl, _, rfl, two_le, fun p3 np3 => ?_⟩
          have s4 := Same.new np3 (.tup [.str (ptx p), .bl on])
          have hl4 := s4 _ _ hl3
          have tp5 := Tp.but hl4 (But.set (o := .lst (xs ++ [.ref p3])))
          refine ⟨l, _, _, rfl, rfl, hl4, small1000 (by omega), ⟨_, xs ++ [.ref p3], rfl, fun c o e => ?_, ?_, ?_, upd_same, by rw [List.length_append]; show xs.length + 1 ≤ _; omega, fun x hx => ?_⟩⟩
          · rw [upd_ne (ne_of_none e nl)]
            exact s4 _ _ (s3 _ _ (sm _ _ e))
          · rw [upd_ne nbl]
            exact s4 _ _ (s3 _ _ hb)
          · rw [upd_ne nzl]
            exact s4 _ _ (s3 _ _ hz)
          · rcases List.mem_append.mp hx with hx | hx
            · exact (hX x hx).tp ((Tp.same (s3.trans s4)).trans tp5)
            · rw [List.mem_singleton.mp hx]
              exact ⟨p3, p, on, t', rfl, tp5.sqT (SqT.here upd_same), ht'⟩
      · rintro σ G ⟨y, xs, rfl, sm, hb, hz, hl, hlen, hX⟩
        exact ⟨_, _, xs, rfl, sm, hb, hl, by show xs.length ≤ 2 * (i + 1); have : xs.length ≤ 2 * i + 2 := hlen; omega, hX⟩
  · rintro σ G ⟨x, y, xs, rfl, sm, hb, hl, hlen, hX⟩
    rw [ptxs_len, Tree.pts_len] at hlen
    exact ⟨_, rfl, q l xs G sm nl hl (by omega) hX⟩

abbrev s__law_any_path : Stmt := top 61
theorem sc__law_any_path : FnScope ["_law_rng", "_law_term_here", "_law_spot"] ["_law_rng", "_law_term_here"] (defScope s__law_any_path) := ⟨rfl, rfl, rfl, by decide +kernel, rfl, by decide +kernel, by decide +kernel⟩
def spAnyP10 (K : PySem.W.Frag) : Sp := fun vs H Q _ => ∃ (r c : Addr) (v : V) (t : Tree), vs = [.ref r, v] ∧ RngC H r c ∧ TA K H v t ∧ t.dp ≤ 28 ∧ t.sz ≤ 200 ∧ ∀ (p : List Bool) (H' : Hp), p.length ≤ 30 → RngC H' r c → But r H H' → Q (.str (ptx p)) H'
theorem ok__law_any_path {f1 f2 f3 : Addr} {e1 e2 e3 : FuncData} (d__law_any_path : D K mg "_law_any_path" s__law_any_path ["_law_rng", "_law_term_here"] f fd) (B : Blt mg) (d__law_draw : D K mg "_law_draw" s__law_draw ["_law_rng", "_law_amount"] f1 e1) (d__law_pick : D K mg "_law_pick" s__law_pick ["_law_rng", "_law_terms"] f2 e2) (d__law_paths : D K mg "_law_paths" s__law_paths ["_law_term_here", "_law_spot"] f3 e3) : FnOk P w K mg base CX0 32 f fd ["_law_rng", "_law_term_here"] (spAnyP10 K) := by
  have G__law_pick : FnOk P w K mg base CX0 2 f2 e2 ["_law_rng", "_law_terms"] (spPickC K) := ok__law_pickC d__law_pick B d__law_draw
  have G__law_paths : FnOk P w K mg base CX0 30 f3 e3 ["_law_term_here", "_law_spot"] (spPts K 29) := ok__law_paths d__law_paths 29
  refine d__law_any_path.F.ok sc__law_any_path (fun vs H Q E h => ?_) (fun cdv A outer s H vs Q E hr h => ?_)
  · obtain ⟨_, _, _, _, rfl, _⟩ := h
    rfl
  obtain ⟨r, c, v, t, rfl, hR, ha, hd, hz, q⟩ := h
  have hn := tree_nodes t
  refine ⟨_, (pss_cons (ps_set (i := 2) sc__law_any_path.nd rfl (Or.inl rfl) (pe_call G__law_pick (hr.mono (by decide)) rfl d__law_pick.m d__law_pick.F.kp d__law_pick.b .nil pass0 (pa_cons (pv 0) (pa_cons (pe_call G__law_paths (hr.mono (by decide)) rfl d__law_paths.m d__law_paths.F.kp d__law_paths.b .nil pass0 (pa_cons (pv 1) (pa_cons pe_str pa_nil))) pa_nil))))
 (pss_one (ps_ret (pe_call G__law_pick (hr.mono (by decide)) rfl d__law_pick.m d__law_pick.F.kp d__law_pick.b .nil pass0 (pa_cons (pv 0) (pa_cons (pe_lst (pa_cons (pv 2) (pa_cons (pv 2) (pa_cons (pe_op op_add_str (pv 2) pe_str) (pa_cons (pe_op op_add_str (pv 2) pe_str) (pa_cons (pe_slice sl_str (pv 2) po_none (po_some pe_int)) pa_nil)))))) pa_nil)))))), ?_⟩
  refine ⟨_, rfl, _, rfl, v, t, [], rfl, ha, by omega, by omega, by omega, by show 0 + t.dp ≤ 60; omega, fun l H1 s1 nl hl => ?_⟩
  have R1 := hR.same s1
  have l1 := t.pts_len []
  have l2 := t.pts_pos []
  refine ⟨r, l, c, ptxs (t.pts []), rfl, R1, .inl (SqL.here hl), by rw [ptxs_len]; exact l2, by rw [ptxs_len]; omega, (hR.ne nl).1, fun x H2 hx R2 b2 => ?_⟩
  obtain ⟨p, hp, rfl⟩ := List.mem_map.mp hx
  have hpl := t.pts_le [] p hp
  have hpl : p.length ≤ 28 := Nat.le_trans hpl (by show 0 + t.dp ≤ 28; omega)
  have f1 : (ptx p).length + (Str.ofString "0").length ≤ sizeLine := by
    rw [ptx_len]
    exact fits (by show p.length + 1 ≤ 10000; omega)
  have f2 : (ptx p).length + (Str.ofString "11").length ≤ sizeLine := by
    rw [ptx_len]
    exact fits (by show p.length + 2 ≤ 10000; omega)
  refine ⟨_, rfl, _, rfl, _, rfl, _, rfl, _, _, rfl, rfl, f1, _, rfl, _, _, rfl, rfl, f2, _, rfl, 1, rfl, ptx p, rfl, (by rw [ptx_len]; exact fits (by omega)), fiveV, fun m nm => ?_⟩
  rw [ptx_snoc0, ptx_11, ptx_cut1]
  have sm := Same.new nm (.lst [.str (ptx p), .str (ptx p), .str (ptx (p ++ [false])), .str (ptx (p ++ [true, true])), .str (ptx (p.take 1))])
  refine ⟨r, m, c, _, rfl, R2.same sm, .inl (SqL.here upd_same), (by show 0 < 5; decide), (by show 5 ≤ 10000; decide), (R2.ne nm).1, fun y H3 hy R3 b3 => ?_⟩
  have bb : But r H H3 := ((But.same s1).trans b2).trans ((But.same sm).trans b3)
  have hy' : y = .str (ptx p) ∨ y = .str (ptx (p ++ [false])) ∨ y = .str (ptx (p ++ [true, true])) ∨ y = .str (ptx (p.take 1)) := by simpa using hy
  rcases hy' with rfl | rfl | rfl | rfl
  · exact q p H3 (by omega) R3 bb
  · exact q _ H3 (by rw [List.length_append]; show p.length + 1 ≤ 30; omega) R3 bb
  · exact q _ H3 (by rw [List.length_append]; show p.length + 2 ≤ 30; omega) R3 bb
  · exact q _ H3 (by rw [List.length_take]; omega) R3 bb

abbrev s__law_invalid_path : Stmt := top 62
theorem sc__law_invalid_path : FnScope ["_law_rng"] ["_law_rng"] (defScope s__law_invalid_path) := ⟨rfl, rfl, rfl, by decide +kernel, rfl, by decide +kernel, by decide +kernel⟩
theorem mul61 : MulOk (Str.ofString "0") 61 := by
  unfold MulOk
  decide +kernel
theorem mul40 : MulOk (Str.ofString "01") 40 := by
  unfold MulOk
  decide +kernel
theorem ok__law_invalid_path {f1 f2 : Addr} {e1 e2 : FuncData} (d__law_invalid_path : D K mg "_law_invalid_path" s__law_invalid_path ["_law_rng"] f fd) (B : Blt mg) (d__law_draw : D K mg "_law_draw" s__law_draw ["_law_rng", "_law_amount"] f1 e1) (d__law_pick : D K mg "_law_pick" s__law_pick ["_law_rng", "_law_terms"] f2 e2) : FnOk P w K mg base CX0 3 f fd ["_law_rng"] spBadP10 := by
  have G__law_pick : FnOk P w K mg base CX0 2 f2 e2 ["_law_rng", "_law_terms"] (spPickC K) := ok__law_pickC d__law_pick B d__law_draw
  refine d__law_invalid_path.F.ok sc__law_invalid_path (fun vs H Q E h => ?_) (fun cdv A outer s H vs Q E hr h => ?_)
  · obtain ⟨_, _, rfl, _⟩ := h
    rfl
  obtain ⟨r, c, rfl, hR, q⟩ := h
  refine ⟨_, (pss_one (ps_ret (pe_call G__law_pick (hr.mono (by decide)) rfl d__law_pick.m d__law_pick.F.kp d__law_pick.b .nil pass0 (pa_cons (pv 0) (pa_cons (pe_lst (pa_cons pe_str (pa_cons pe_str (pa_cons pe_str (pa_cons (pe_op op_mulS pe_str pe_int) (pa_cons (pe_op op_mulS pe_str pe_int) (pa_cons pe_str (pa_cons pe_str (pa_cons pe_str pa_nil))))))))) pa_nil))))), ?_⟩
  refine ⟨_, rfl, _, _, rfl, rfl, mul61, _, _, rfl, rfl, mul40, (by show 8 ≤ sizeLine; decide), fun m nm => ?_⟩
  have key : ∀ x ∈ ([V.str (Str.ofString "2"), V.str (Str.ofString "0a"), V.str (Str.ofString " "), V.str (Txt.mul (Str.ofString "0") 61), V.str (Txt.mul (Str.ofString "01") 40), V.str (Str.ofString "-"), V.str (Str.ofString "00 1"), V.str (Str.ofString "1\n")] : List V), ∃ z, x = .str z ∧ okp z = false ∧ z.length ≤ 1000 ∧ PyData.canLay0 (.str z) = true := by
    intro x hx
    rcases List.mem_cons.mp hx with rfl | hx
    · exact ⟨_, rfl, by decide +kernel, by decide +kernel, by decide +kernel⟩
    rcases List.mem_cons.mp hx with rfl | hx
    · exact ⟨_, rfl, by decide +kernel, by decide +kernel, by decide +kernel⟩
    rcases List.mem_cons.mp hx with rfl | hx
    · exact ⟨_, rfl, by decide +kernel, by decide +kernel, by decide +kernel⟩
    rcases List.mem_cons.mp hx with rfl | hx
    · exact ⟨_, rfl, by decide +kernel, by decide +kernel, by decide +kernel⟩
    rcases List.mem_cons.mp hx with rfl | hx
    · exact ⟨_, rfl, by decide +kernel, by decide +kernel, by decide +kernel⟩
    rcases List.mem_cons.mp hx with rfl | hx
    · exact ⟨_, rfl, by decide +kernel, by decide +kernel, by decide +kernel⟩
    rcases List.mem_cons.mp hx with rfl | hx
    · exact ⟨_, rfl, by decide +kernel, by decide +kernel, by decide +kernel⟩
    rw [List.mem_singleton.mp hx]
    exact ⟨_, rfl, by decide +kernel, by decide +kernel, by decide +kernel⟩
  refine ⟨r, m, c, _, rfl, hR.same (Same.new nm _), .inl (SqL.here upd_same), (by show 0 < 8; decide), (by show 8 ≤ 10000; decide), (hR.ne nm).1, fun y H3 hy R3 b3 => ?_⟩
  obtain ⟨z, rfl, h1, h2, h3⟩ := key y hy
  exact q z H3 h1 h2 h3 R3 ((But.same (Same.new nm _)).trans b3)

abbrev s__law_expected : Stmt := top 63
theorem sc__law_expected : FnScope ["_law_term_here", "_law_rows", "_law_at", "_law_spot", "_law_onward", "_law_good", "_law_sign"] ["_law_term_here", "_law_rows"] (defScope s__law_expected) := ⟨rfl, rfl, rfl, by decide +kernel, rfl, by decide +kernel, by decide +kernel⟩
theorem ok__law_expected {f1 f2 f3 f4 f5 f6 : Addr} {e1 e2 e3 e4 e5 e6 : FuncData} (d : D K mg "_law_expected" s__law_expected ["_law_term_here", "_law_rows"] f fd) (B : Blt mg) (d__law_size : D K mg "_law_size" s__law_size ["_law_term_here"] f6 e6) (d__law_rewrite : D K mg "_law_rewrite" s__law_rewrite ["_law_term_here", "_law_spot", "_law_onward"] f5 e5) (d__law_subterm : D K mg "_law_subterm" s__law_subterm ["_law_term_here", "_law_spot"] f1 e1) (d__law_expanded : D K mg "_law_expanded" s__law_expanded ["_law_some"] f2 e2)
    (d__law_replace : D K mg "_law_replace" s__law_replace ["_law_term_here", "_law_spot", "_law_new"] f3 e3) (d__law_contracted : D K mg "_law_contracted" s__law_contracted ["_law_some"] f4 e4) : FnOk P w K mg base CX0 66 f fd ["_law_term_here", "_law_rows"] (spExpd K) := by
  have G__law_size : FnOk P w K mg base CX0 40 f6 e6 ["_law_term_here"] (spTree K (fun t => .int t.sz) 40) := ok__law_size d__law_size 40
  have G__law_rewrite : FnOk P w K mg base CX0 63 f5 e5 ["_law_term_here", "_law_spot", "_law_onward"] (spRwN K 61) := ok__law_rewrite d__law_rewrite d__law_subterm d__law_expanded d__law_replace d__law_contracted 61
  refine d.F.ok sc__law_expected (fun vs H Q E h => ?_) (fun cdv A outer s H vs Q E hr h => ?_)
  · obtain ⟨_, _, _, _, _, rfl, _⟩ := h
    rfl
  obtain ⟨v0, b, t0, us, ms, rfl, ht0, hs0, hd0, hb, hM, hml, q, qI, qB⟩ := h
  refine ⟨_, (pss_cons (ps_for PassesOwn.never rfl (pi_range1 (by rfl) B.range (pa_cons (pe_callB call_len_seq (by rfl) B.len PySem.boot_len (pa_cons (pv 1) pa_nil)) pa_nil)) (pg_name (i := 2) sc__law_expected.nd rfl (Or.inl rfl))
  (pss_cons (ps_asg (pe_ix ix_list (pv 1) (pv 2) (fun _ _ => rfl)) (pg_tup (by rfl) (pgs_cons (pg_name (i := 3) sc__law_expected.nd rfl (Or.inl rfl)) (pgs_cons (pg_name (i := 4) sc__law_expected.nd rfl (Or.inl rfl)) pgs_nil))))
 (C8.pss_cut (ps_set (i := 5) sc__law_expected.nd rfl (Or.inl rfl) (pe_and (pe_cmpR op_lt (pe_callB call_len_str (by rfl) B.len PySem.boot_len (pa_cons (pv 3) pa_nil)) pe_int (nomark _)) (pe_one (pe_callB (cr_all rfl) (by rfl) B.all (by decide +kernel) (pa_cons (pe_lc (own := [("_law_sign", 6)]) (g := gName 6) (tt := tYes) (by rfl) sc__law_expected.nd (pi_str (pv 3)) (blkOk_by (own := [("_law_sign", 6)]) (N := ["_law_term_here", "_law_rows", "_law_at", "_law_spot", "_law_onward", "_law_good", "_law_sign"]) (sc := defScope s__law_expected) (by decide +kernel)) (fun _ _ _ _ _ => (pg_name (i := 6) sc__law_expected.nd rfl (Or.inl rfl))) (fun _ _ _ _ _ => pts_nil) (fun _ _ _ _ _ => (pe_cmpR op_in_sign (pv 6) pe_str (by with_unfolding_all rfl)))) pa_nil)))))
 (C8.pss_cut (ps_set (i := 0) sc__law_expected.nd rfl (Or.inl rfl) (pe_ifExp (pt_truth (pv 5) (by intro _; rfl)) (pe_call G__law_rewrite (hr.mono (by decide)) rfl d__law_rewrite.m d__law_rewrite.F.kp d__law_rewrite.b .nil pass0 (pa_cons (pv 0) (pa_cons (pv 3) (pa_cons (pv 4) pa_nil)))) pe_non))
 (pss_cons (ps_if (pt_cmpR op_isN (pv 0) pe_non (nomark _)) (pss_one (ps_ret (pe_tup (pa_cons pe_str (pa_cons (pv 2) pa_nil))))) pss_nil)
 (pss_one (ps_if (pt_cmpR op_gt (pe_call G__law_size (hr.mono (by decide)) rfl d__law_size.m d__law_size.F.kp d__law_size.b .nil pass0 (pa_cons (pv 0) pa_nil)) pe_int (nomark _)) (pss_one (ps_ret (pe_tup (pa_cons pe_str (pa_cons (pe_call G__law_size (hr.mono (by decide)) rfl d__law_size.m d__law_size.F.kp d__law_size.b .nil pass0 (pa_cons (pv 0) pa_nil)) pa_nil))))) pss_nil)))))))
 (pss_one (ps_ret (pe_tup (pa_cons pe_str (pa_cons (pv 0) pa_nil)))))), ?_⟩
  have hul := hM.len
  refine ⟨_, rfl, b, _, rfl, .inl hb, _, rfl, by omega, by omega, ?_⟩
  rw [Int.toNat_natCast]
  refine for_range (lo := 0) (n := us.length) (fun j σ G => ∃ (v : V) (t : Tree) (x2 x3 x4 x5 x6 : Option V), σ = [some v, some (.ref b), x2, x3, x4, x5, x6] ∧ Same H G ∧ TA K G v t ∧ t.sz ≤ 2000 ∧ t.dp ≤ t0.dp + j ∧ runS j t (ms.drop j) = runS 0 t0 ms) ⟨v0, t0, none, none, none, none, none, rfl, Same.refl _, ht0, hs0, by omega, rfl⟩ ?_ ?_
  · rintro j σ G hj ⟨v, t, x2, x3, x4, x5, x6, rfl, sG, ht, hs, hdp, hrun⟩
    have ej : ((0 : Int) + (j : Int)) = ((j : Nat) : Int) := by omega
    have hjk : t0.dp + j ≤ 30 := by
      obtain ⟨k, hk, h | ⟨i0, hi0, h⟩⟩ := hd0
      · omega
      · have := runS_ge (hrun.trans h)
        omega
    have hv : us[j]? = some us[j] := List.getElem?_eq_getElem hj
    obtain ⟨mm, hmm, qa, z, eq, hqa, ⟨hz1, hzp⟩, _⟩ := hM.at hv
    rw [eq] at hv
    have hj2 : j < ms.length := (List.getElem?_eq_some_iff.mp hmm).1
    rw [drop_at hmm] at hrun
    refine ⟨_, rfl, _, rfl, b, _, _, _, rfl, rfl, sG.seq hb, (by rw [ej]; exact atI_nat hv), qa, _, rfl, (Tp.same sG).sqT hqa, rfl, _, _, rfl, _, _, rfl, rfl, ?_⟩
    have hzl : z.length ≤ sizeLine := Nat.le_trans hz1 (by decide)
    have hpe : z = sL z.cps.toList := (sL_eta z).symm
    have hka := okp_all z.cps.toList
    rw [← hpe] at hka
    have hpl : z.cps.toList.length = z.length := rfl
    have hs : okp z = false → stR t mm = none := fun e => by
      rcases hzp with ⟨h, _⟩ | ⟨p, h, rfl, hp⟩
      · unfold stR; rw [h]; rfl
      · rw [okp_ptx hp] at e
        cases e
    refine ⟨fun σ G' => σ = [some v, some (.ref b), some (.int ((0 : Int) + (j : Int))), some (.str z), some (.bl mm.2), some (.bl (okp z)), x6] ∧ Same G G', ?_, ?_⟩
    · refine ⟨_, rfl, _, rfl, hzl, _, _, rfl, rfl, _, rfl, ?_⟩
      by_cases c1 : z.length ≤ 60
      rotate_left
      · refine ite_no (decide_eq_false (by show ¬ (z.length : Int) < 61; omega)) ⟨?_, Same.refl _⟩
        rw [hka, decide_eq_false (by omega), Bool.false_and]
        rfl
      rw [decide_eq_true (show z.cps.toList.length ≤ 60 from c1), Bool.true_and] at hka
      refine ite_yes (decide_eq_true (by show (z.length : Int) < 61; omega)) ?_
      refine ⟨_, rfl, _, rfl, fun D nD => lc_it walk_str (fun i G' => Same G G' ∧ G' D = some (.lst ((z.cps.toList.take i).map fun c => V.bl (decide (c ∈ S01))))) ⟨Same.new nD _, upd_same⟩ (fun i G _ _ => trivial) ?_ ?_⟩
      · rintro i v1 G1 G2 hi ⟨sG1, hD⟩ ⟨rfl, c, hc, rfl⟩
        have hc : z.cps.toList[i]? = some c := by
          rw [Array.getElem?_toList]
          exact hc
        refine ⟨rfl, ?_⟩
        refine ⟨_, rfl, c, _, rfl, rfl, _, hD, (by rw [List.length_map, List.length_take]; exact small1000 (by omega)), fun b o e => ?_, ?_⟩
        · rw [upd_ne (ne_of_none e nD)]
          exact sG1 _ _ e
        · rw [upd_same, List.take_add_one, hc, List.map_append]
          rfl
      · rintro G1 ⟨sG1, hD⟩
        have hf : z.cps.toList.take z.cps.size = z.cps.toList := List.take_of_length_le (Nat.le_refl _)
        rw [hf] at hD
        refine ⟨D, z.cps.toList.map fun c => decide (c ∈ S01), rfl, SqL.here (by rw [List.map_map]; exact hD), ?_, sG1⟩
        rw [List.all_map, hka]
        rfl
    rintro σ G1 ⟨rfl, s1⟩
    refine ⟨fun σ G' => ∃ vr, σ = [some vr, some (.ref b), some (.int ((0 : Int) + (j : Int))), some (.str z), some (.bl mm.2), some (.bl (okp z)), x6] ∧ Same G G' ∧ ((stR t mm = none ∧ vr = .non) ∨ ∃ u, stR t mm = some u ∧ TA K G' vr u), ?_, ?_⟩
    · cases hk : okp z with
      | false => exact ⟨_, rfl, false, rfl, iteF ⟨_, rfl, s1, .inl ⟨hs hk, rfl⟩⟩⟩
      | true =>
        rcases hzp with ⟨_, h⟩ | ⟨p, h, rfl, hp⟩
        · rw [h] at hk
          cases hk
        have e1 : stR t mm = t.rwt mm.2 p := by unfold stR; rw [h]; rfl
        refine ⟨_, rfl, true, rfl, iteT ⟨_, rfl, _, rfl, _, rfl, v, t, p, mm.2, rfl, ta_mono (Tp.same s1) ht, by omega, by omega, by omega, fun hn H' s' => ?_, fun u hu x H' hx s' => ?_⟩⟩
        · exact ⟨_, rfl, s1.trans s', .inl ⟨by rw [e1]; exact hn, rfl⟩⟩
        · exact ⟨_, rfl, s1.trans s', .inr ⟨u, by rw [e1]; exact hu, hx⟩⟩
    rintro σ G2 ⟨vr, rfl, s2, hvr⟩
    rcases hvr with ⟨hn, rfl⟩ | ⟨u, hu, hx⟩
    · refine ⟨_, rfl, rfl, _, rfl, ite_yes (decide_eq_true rfl) ⟨_, rfl, two_le, fun p np => ?_⟩⟩
      have sp := Same.new np (.tup [.str ("InvalidStep" : Str), .int ((0 : Int) + (j : Int))])
      refine qI j (by rw [← hrun, runS_none hn]) p _ ((sG.trans s2).trans sp) (SqT.here ?_)
      rw [upd_same, ej]
    · have nn : vr ≠ .non := fun e => by
        subst e
        obtain ⟨_, _, e, _⟩ := ta_inv hx
        cases e
      have hdu : u.dp ≤ t.dp + 1 ∧ u.sz ≤ 4000 := by
        cases h : mm.1 with
        | none =>
          unfold stR at hu
          rw [h] at hu
          cases hu
        | some p =>
          unfold stR at hu
          rw [h] at hu
          have hu : t.rwt mm.2 p = some u := hu
          have h1 := Tree.rwt_dp hu
          have h2 := Tree.rwt_sz2 hu
          omega
      refine ⟨_, rfl, rfl, _, rfl, ite_no (decide_eq_false nn) ?_⟩
      refine ⟨_, rfl, vr, u, rfl, hx, by omega, by omega, fun G3 s3 => ⟨_, _, rfl, rfl, _, rfl, ?_⟩⟩
      have hx3 := ta_mono (Tp.same s3) hx
      by_cases big : 2000 < u.sz
      · refine ite_yes (decide_eq_true (by omega)) ⟨_, rfl, vr, u, rfl, hx3, by omega, by omega, fun G4 s4 => ⟨two_le, fun p np => ?_⟩⟩
        have sp := Same.new np (.tup [.str ("TooLarge" : Str), .int (u.sz : Nat)])
        exact qB u.sz (by rw [← hrun, runS_big hu big]) p _ ((((sG.trans s2).trans s3).trans s4).trans sp) (SqT.here upd_same)
      · refine ite_no (decide_eq_false (by omega)) ?_
        exact ⟨vr, u, _, _, _, _, _, rfl, (sG.trans s2).trans s3, hx3, by omega, by omega, by rw [← hrun, runS_on hu big]⟩
  · rintro σ G ⟨v, t, x2, x3, x4, x5, x6, rfl, sG, ht, hs, hdp, hrun⟩
    rw [hul, List.drop_length] at hrun
    have hrun : XR.ok t = runS 0 t0 ms := hrun
    refine ⟨_, rfl, two_le, fun p np => ?_⟩
    have sp := Same.new np (.tup [.str ("value" : Str), v])
    exact q t hrun.symm p v _ (sG.trans sp) (SqT.here upd_same) (ta_mono (Tp.same sp) ht)

abbrev s__law_pair : Stmt := top 64
theorem sc__law_pair : FnScope ["_law_rng", "_law_term_here", "_law_some"] ["_law_rng", "_law_term_here"] (defScope s__law_pair) := ⟨rfl, rfl, rfl, by decide +kernel, rfl, by decide +kernel, by decide +kernel⟩
def spPr10 (K : PySem.W.Frag) : Sp := fun vs H Q _ => ∃ (r c : Addr) (v : V) (t : Tree), vs = [.ref r, v] ∧ RngC H r c ∧ TA K H v t ∧ t.dp ≤ 28 ∧ t.sz ≤ 200 ∧ ∀ (x : V) (m : SP10) (H' : Hp), StT K H' x m → RngC H' r c → But r H H' → Q x H'
theorem ok__law_pair {f1 f2 f3 f4 f5 f6 f7 f8 f9 g1 g2 : Addr} {e1 e2 e3 e4 e5 e6 e7 e8 e9 h1 h2 : FuncData} (d : D K mg "_law_pair" s__law_pair ["_law_rng", "_law_term_here"] f fd) (B : Blt mg) (d__law_draw : D K mg "_law_draw" s__law_draw ["_law_rng", "_law_amount"] f1 e1) (d__law_pick : D K mg "_law_pick" s__law_pick ["_law_rng", "_law_terms"] f2 e2) (d__law_invalid_path : D K mg "_law_invalid_path" s__law_invalid_path ["_law_rng"] f3 e3) (d__law_any_path : D K mg "_law_any_path" s__law_any_path ["_law_rng", "_law_term_here"] f4 e4) (d__law_steps : D K mg "_law_steps" s__law_steps ["_law_term_here"] f5 e5) (d__law_paths : D K mg "_law_paths" s__law_paths ["_law_term_here", "_law_spot"] f6 e6)
    (d__law_rewrite : D K mg "_law_rewrite" s__law_rewrite ["_law_term_here", "_law_spot", "_law_onward"] f7 e7) (d__law_subterm : D K mg "_law_subterm" s__law_subterm ["_law_term_here", "_law_spot"] f8 e8) (d__law_expanded : D K mg "_law_expanded" s__law_expanded ["_law_some"] f9 e9) (d__law_replace : D K mg "_law_replace" s__law_replace ["_law_term_here", "_law_spot", "_law_new"] g1 h1) (d__law_contracted : D K mg "_law_contracted" s__law_contracted ["_law_some"] g2 h2) : FnOk P w K mg base CX0 34 f fd ["_law_rng", "_law_term_here"] (spPr10 K) := by
  have G__law_draw : FnOk P w K mg base CX0 1 f1 e1 ["_law_rng", "_law_amount"] spDrawC := ok__law_drawC d__law_draw B
  have G__law_pick : FnOk P w K mg base CX0 2 f2 e2 ["_law_rng", "_law_terms"] (spPickC K) := ok__law_pickC d__law_pick B d__law_draw
  have G__law_invalid_path := ok__law_invalid_path (P := P) (w := w) (base := base) d__law_invalid_path B d__law_draw d__law_pick
  have G__law_any_path : FnOk P w K mg base CX0 32 f4 e4 ["_law_rng", "_law_term_here"] (spAnyP10 K) := ok__law_any_path d__law_any_path B d__law_draw d__law_pick d__law_paths
  have G__law_steps : FnOk P w K mg base CX0 32 f5 e5 ["_law_term_here"] (spStps10 K) := ok__law_steps d__law_steps d__law_paths d__law_rewrite d__law_subterm d__law_expanded d__law_replace d__law_contracted
  refine d.F.ok sc__law_pair (fun vs H Q E h => ?_) (fun cdv A outer s H vs Q E hr h => ?_)
  · obtain ⟨_, _, _, _, rfl, _⟩ := h
    rfl
  obtain ⟨r, c, v, t, rfl, hR, ht, hd, hz, q⟩ := h
  refine ⟨_, (pss_cons (ps_if (pt_cmpR op_eq (pe_call G__law_draw (hr.mono (by decide)) rfl d__law_draw.m d__law_draw.F.kp d__law_draw.b .nil pass0 (pa_cons (pv 0) (pa_cons pe_int pa_nil))) pe_int (nomark _)) (pss_one (ps_ret (pe_tup (pa_cons (pe_call G__law_invalid_path (hr.mono (by decide)) rfl d__law_invalid_path.m d__law_invalid_path.F.kp d__law_invalid_path.b .nil pass0 (pa_cons (pv 0) pa_nil)) (pa_cons pe_bl pa_nil))))) pss_nil)
 (pss_cons (ps_set (i := 2) sc__law_pair.nd rfl (Or.inl rfl) (pe_call G__law_steps (hr.mono (by decide)) rfl d__law_steps.m d__law_steps.F.kp d__law_steps.b .nil pass0 (pa_cons (pv 1) pa_nil)))
 (C8.pss_cut (ps_if (PW.pt (pw_and (pt_cmpR op_gt (pe_callB call_len_seq (by rfl) B.len PySem.boot_len (pa_cons (pv 2) pa_nil)) pe_int (nomark _)) (pw_and1 (pt_cmpR op_gt (pe_call G__law_draw (hr.mono (by decide)) rfl d__law_draw.m d__law_draw.F.kp d__law_draw.b .nil pass0 (pa_cons (pv 0) (pa_cons pe_int pa_nil))) pe_int (nomark _))))) (pss_one (ps_ret (pe_call G__law_pick (hr.mono (by decide)) rfl d__law_pick.m d__law_pick.F.kp d__law_pick.b .nil pass0 (pa_cons (pv 0) (pa_cons (pv 2) pa_nil))))) pss_nil)
 (pss_one (ps_ret (pe_tup (pa_cons (pe_call G__law_any_path (hr.mono (by decide)) rfl d__law_any_path.m d__law_any_path.F.kp d__law_any_path.b .nil pass0 (pa_cons (pv 0) (pa_cons (pv 1) pa_nil))) (pa_cons (pe_cmpR op_eq (pe_call G__law_draw (hr.mono (by decide)) rfl d__law_draw.m d__law_draw.F.kp d__law_draw.b .nil pass0 (pa_cons (pv 0) (pa_cons pe_int pa_nil))) pe_int (nomark _)) pa_nil)))))))), ?_⟩
  refine ⟨_, rfl, r, 25, c, rfl, hR, by decide, by decide, fun n H1 n0 n1 R1 b1 => ⟨rfl, _, rfl, ?_⟩⟩
  by_cases c0 : V.int n = V.int 0
  · refine ite_yes (decide_eq_true c0) ⟨_, rfl, r, c, rfl, R1, fun z H2 hz1 hz2 hz3 R2 b2 => ⟨two_le, fun p np => ?_⟩⟩
    have sp := Same.new np (.tup [.str z, .bl true])
    exact q _ (none, true) _ ⟨p, z, rfl, SqT.here upd_same, ⟨hz2, .inl ⟨rfl, hz1⟩⟩, hz3⟩ (R2.same sp) ((b1.trans b2).trans (But.same sp))
  refine ite_no (decide_eq_false c0) ?_
  have hn := tree_nodes t
  have ht1 := ta_mono (hR.tp b1) ht
  refine ⟨_, rfl, v, t, rfl, ht1, hd, by omega, fun l xs H2 s2 nl hl hxl hX => ?_⟩
  have R2 := R1.same s2
  have b2 := b1.trans (But.same s2)
  have nlr := (R1.ne nl).1
  have ht2 := ta_mono (Tp.same s2) ht1
  have hXa : ∀ x ∈ xs, ∃ m, StT K H2 x m := fun x hx => by
    obtain ⟨qa, p, on, t', rfl, h2, h3⟩ := hX x hx
    have hp := Tree.rwt_len h3
    exact ⟨(some p, on), qa, ptx p, rfl, h2, ⟨by rw [ptx_len]; omega, .inr ⟨p, rfl, rfl, by omega⟩⟩, ptx_lay p⟩
  refine ⟨fun σ G => σ = [some (.ref r), some v, some (.ref l)] ∧ RngC G r c ∧ But r H G ∧ TA K G v t, ?_, ?_⟩
  · refine ⟨_, rfl, l, _, rfl, .inl (SqL.here hl), _, _, rfl, rfl, _, rfl, ?_⟩
    by_cases c1 : (0 : Int) < (xs.length : Int)
    rotate_left
    · exact ite_no (decide_eq_false c1) (iteF ⟨rfl, R2, b2, ht2⟩)
    refine ite_yes (decide_eq_true c1) ⟨_, rfl, r, 5, c, rfl, R2, by decide, by decide, fun k H3 k0 k1 R3 b3 => ⟨_, _, rfl, rfl, _, rfl, ?_⟩⟩
    have hl3 := b3 _ _ nlr hl
    by_cases c2 : (0 : Int) < k
    rotate_left
    · exact ite_no (decide_eq_false c2) ⟨rfl, R3, b2.trans b3, ta_mono (R2.tp b3) ht2⟩
    refine ite_yes (decide_eq_true c2) ⟨_, rfl, _, rfl, r, l, c, xs, rfl, R3, .inl (SqL.here hl3), by omega, by omega, nlr, fun x H4 hx R4 b4 => ?_⟩
    obtain ⟨m, hm⟩ := hXa x hx
    exact q x m H4 ((hm.tp (R2.tp b3)).tp (R3.tp b4)) R4 ((b2.trans b3).trans b4)
  rintro σ G ⟨rfl, RG, bG, htG⟩
  refine ⟨_, rfl, _, rfl, r, c, v, t, rfl, RG, htG, hd, hz, fun p H2 hp R3 b3 => ⟨_, rfl, r, 2, c, rfl, R3, by decide, by decide, fun k H3 k0 k1 R4 b4 => ⟨rfl, two_le, fun p5 np5 => ?_⟩⟩⟩
  have sp := Same.new np5 (.tup [.str (ptx p), .bl (decide (V.int k = V.int 0))])
  exact q _ (some p, decide (V.int k = V.int 0)) _ ⟨p5, ptx p, rfl, SqT.here upd_same, ⟨by rw [ptx_len]; omega, .inr ⟨p, rfl, rfl, by omega⟩⟩, ptx_lay p⟩ (R4.same sp) (((bG.trans b3).trans b4).trans (But.same sp))

abbrev s_law : Stmt := top 65
theorem sc_law : FnScope ["_law_script", "_law_rng", "_law_turn", "_law_current", "_law_rows", "_law_step", "_law_later", "_law_copied", "_law_expected_here", "_law_argument", "_law_grow", "_law_term_here"] ["_law_script"] (defScope s_law) := ⟨rfl, rfl, rfl, by decide +kernel, rfl, by decide +kernel, by decide +kernel⟩
abbrev s__law_try : Stmt := top 49
theorem sc__law_try : FnScope ["_law_ask", "_law_e", "_law_word"] ["_law_ask"] (defScope s__law_try) := ⟨rfl, rfl, rfl, by decide +kernel, rfl, by decide +kernel, by decide +kernel⟩
def lamQ : Str := (PyProof.Rows.envOfC "law" (defScope s_law) 0 0 .none).qual ++ "<lambda>"
/-! ### lists of steps: the law -/
structure Cls10 (K : PySem.W.Frag) (CT CI CL CS : Addr) (word : Addr → Option Str) (fld : Addr → Option Addr → Hp → V → Prop) : Prop where
  st : ∀ D dd H H' v, Same H H' → fld D dd H v → fld D dd H' v
  p0 : ExcC K CI ∧ PySem.W.exmOne K (.ref CI) (.ref CT) = some true ∧ word CI = some (en 0) ∧ ∀ H, fld CI none H .non
  x5 : ExcC K CL ∧ PySem.W.exmOne K (.ref CL) (.ref CT) = some true ∧ word CL = some (en 5) ∧ ∀ (H : Hp) (e : Addr) (fs : List (Str × V)) (v : V), H e = some (.xd fs) → fs.lookup ("size" : Str) = some v → fld CL (some e) H v
  x9 : ExcC K CS ∧ PySem.W.exmOne K (.ref CS) (.ref CT) = some true ∧ word CS = some (en 9) ∧ ∀ (H : Hp) (e : Addr) (fs : List (Str × V)) (v : V), H e = some (.xd fs) → fs.lookup ("position" : Str) = some v → fld CS (some e) H v
def spLaw10 (T : List (Addr × Str)) (K : PySem.W.Frag) : Sp := fun vs H Q _ => ∃ (a : Addr) (ns : List Int), vs = [.ref a] ∧ SqL K H a (ns.map V.int) ∧ LamX.Tabs T H ∧ ∀ H', Q (.bl true) H'
/-- what a list of steps comes to, as data -/
def xrD : XR → PyData
  | .ok u => .tuple [.str ("value" : Str), u.d]
  | .inv i => .tuple [.str ("InvalidStep" : Str), .int (i : Int)]
  | .big n => .tuple [.str ("TooLarge" : Str), .int (n : Int)]
def XrA (K : PySem.W.Frag) (H : Hp) (v : V) : XR → Prop
  | .ok u => ∃ (p : Addr) (x : V), v = .ref p ∧ SqT K H p [.str "value", x] ∧ TA K H x u
  | .inv i => ∃ p : Addr, v = .ref p ∧ SqT K H p [.str "InvalidStep", .int (i : Int)]
  | .big n => ∃ p : Addr, v = .ref p ∧ SqT K H p [.str "TooLarge", .int (n : Int)]
theorem XrA.tp {K : PySem.W.Frag} {H H' : Hp} {v : V} {r : XR} (e : Tp H H') (h : XrA K H v r) : XrA K H' v r := by
  cases r with
  | ok u =>
    obtain ⟨p, x, h1, h2, h3⟩ := h
    exact ⟨p, x, h1, e.sqT h2, ta_mono e h3⟩
  | inv i =>
    obtain ⟨p, h1, h2⟩ := h
    exact ⟨p, h1, e.sqT h2⟩
  | big n =>
    obtain ⟨p, h1, h2⟩ := h
    exact ⟨p, h1, e.sqT h2⟩
theorem XrA.dp {K : PySem.W.Frag} {H : Hp} {v : V} {r : XR} (h : XrA K H v r) : Dp K H v (xrD r) := by
  cases r with
  | ok u =>
    obtain ⟨p, x, rfl, h2, h3⟩ := h
    exact Dp.tup h2 (.cons (.str _) (.cons h3 .nil))
  | inv i =>
    obtain ⟨p, rfl, h2⟩ := h
    exact Dp.tup h2 (.cons (.str _) (.cons (.int _) .nil))
  | big n =>
    obtain ⟨p, rfl, h2⟩ := h
    exact Dp.tup h2 (.cons (.str _) (.cons (.int _) .nil))
theorem rwt_dp {on : Bool} {t t' : Tree} {p : List Bool} (h : t.rwt on p = some t') : t'.dp ≤ t.dp + 1 := by
  refine Tree.rwt_ind (R := fun a b => b.dp ≤ a.dp + 1) ?_ ?_ ?_ ?_ h
  · intro a b c
    show max (max a.dp b.dp + 1) (max a.dp c.dp + 1) + 1 ≤ max a.dp (max b.dp c.dp + 1) + 1 + 1
    omega
  · intro a b c
    show max a.dp (max b.dp c.dp + 1) + 1 ≤ max (max a.dp b.dp + 1) (max a.dp c.dp + 1) + 1 + 1
    omega
  · intro a a' b h
    show max a'.dp b.dp + 1 ≤ max a.dp b.dp + 1 + 1
    omega
  · intro a b b' h
    show max a.dp b'.dp + 1 ≤ max a.dp b.dp + 1 + 1
    omega
theorem runS_dp : ∀ {ms : List SP10} {i : Nat} {t u : Tree}, runS i t ms = .ok u → u.dp ≤ t.dp + ms.length
  | [], i, t, u, h => by
    injection h with h
    rw [h]
    exact Nat.le_refl _
  | m :: r, i, t, u, h => by
    cases e : stR t m with
    | none => rw [runS_none e] at h; cases h
    | some t1 =>
      by_cases b : 2000 < t1.sz
      · rw [runS_big e b] at h; cases h
      · rw [runS_on e b] at h
        have := runS_dp h
        have h1 : t1.dp ≤ t.dp + 1 := by
          unfold stR at e
          obtain ⟨p, _, e2⟩ := Option.bind_eq_some_iff.mp e
          exact rwt_dp e2
        rw [List.length_cons]
        omega
theorem runS_sz : ∀ {ms : List SP10} {i : Nat} {t u : Tree}, runS i t ms = .ok u → t.sz ≤ 2000 → u.sz ≤ 2000
  | [], i, t, u, h, hz => by
    injection h with h
    rw [← h]
    exact hz
  | m :: r, i, t, u, h, hz => by
    cases e : stR t m with
    | none => rw [runS_none e] at h; cases h
    | some t1 =>
      by_cases b : 2000 < t1.sz
      · rw [runS_big e b] at h; cases h
      · rw [runS_on e b] at h
        exact runS_sz h (by omega)
theorem xrD_depth {t : Tree} {ms : List SP10} (h : t.dp + ms.length ≤ 30) : (xrD (runS 0 t ms)).depth < 36 := by
  have es : ∀ z : Str, PyData.depth (.str z) = 0 := fun _ => rfl
  cases e : runS 0 t ms with
  | ok u =>
    have h1 := runS_dp e
    have h2 := u.d_depth
    show max (PyData.depth (.str ("value" : Str))) (max u.d.depth 0) + 1 < 36
    rw [es]
    omega
  | inv i =>
    show max (PyData.depth (.str ("InvalidStep" : Str))) (max 0 0) + 1 < 36
    rw [es]
    decide
  | big i =>
    show max (PyData.depth (.str ("TooLarge" : Str))) (max 0 0) + 1 < 36
    rw [es]
    decide
theorem xrD_lay (r : XR) : (xrD r).canLay0 = true := by
  cases r with
  | ok u =>
    show (PyData.canLay0 (.str ("value" : Str)) && (u.d.canLay0 && true)) = true
    rw [u.d_lay]
    decide +kernel
  | inv i =>
    show (PyData.canLay0 (.str ("InvalidStep" : Str)) && (true && true)) = true
    decide +kernel
  | big i =>
    show (PyData.canLay0 (.str ("TooLarge" : Str)) && (true && true)) = true
    decide +kernel
theorem xrD_shaped {t : Tree} {ms : List SP10} (h : t.dp + ms.length ≤ 30) : SeqAt.shaped (xrD (runS 0 t ms)) = true := by
  have h1 := xrD_depth h
  unfold SeqAt.shaped
  rw [xrD_lay, decide_eq_true (by omega)]
  rfl
theorem tree_wide10 : ∀ t : Tree, wide t.d = true
  | .L => rfl
  | .N l r => by
    show (decide (2 ≤ 1000) && (wide l.d && (wide r.d && true))) = true
    rw [tree_wide10 l, tree_wide10 r]
    decide
theorem xrD_wide (r : XR) : wide (xrD r) = true := by
  cases r with
  | ok u =>
    show (decide (2 ≤ 1000) && (true && (wide u.d && true))) = true
    rw [tree_wide10]
    decide
  | inv i => rfl
  | big i => rfl
/-- pairs as data -/
theorem StA.data {K : PySem.W.Frag} {H : Hp} : ∀ {xs : List V} {ms : List SP10}, StA K H xs ms → ∃ ds : List PyData, DpAll K H xs ds ∧ PyData.canLayAll0 ds = true ∧ PyData.depthAll ds ≤ 1
  | _, _, .nil => ⟨[], .nil, rfl, Nat.zero_le _⟩
  | _, _, .cons (m := m) a b => by
    obtain ⟨ds, h1, h2, h3⟩ := StA.data b
    obtain ⟨q, z, rfl, hq, hz, hl⟩ := a
    refine ⟨.tuple [.str z, .bool m.2] :: ds, .cons (Dp.tup hq (.cons (.str _) (.cons (.bl _) .nil))) h1, ?_, ?_⟩
    · show ((PyData.canLay0 (.str z) && (true && true)) && PyData.canLayAll0 ds) = true
      rw [hl, h2]
      rfl
    · show max (max 0 (max 0 0) + 1) (PyData.depthAll ds) ≤ 1
      omega
theorem cut_last (us : List V) (x : V) : cutV (us ++ [x]) (some (-1)) none = [x] := by
  unfold cutV
  have e : HT.sIx (us ++ [x]).length 0 (some (-1)) = us.length := by
    show (if (-1 : Int) < 0 then ((-1 : Int) + ((us ++ [x]).length : Int)).toNat else min (-1 : Int).toNat (us ++ [x]).length) = us.length
    rw [if_pos (by decide), List.length_append, List.length_singleton]
    omega
  rw [HT.sIx_none, e, List.drop_left, List.length_append, List.length_singleton, Nat.add_sub_cancel_left]
  rfl
theorem lst_shaped {ds : List PyData} (h1 : PyData.canLayAll0 ds = true) (h2 : PyData.depthAll ds ≤ 1) : SeqAt.shaped (.list ds) = true := by
  have e1 : PyData.canLay0 (.list ds) = PyData.canLayAll0 ds := rfl
  have e2 : (PyData.list ds).depth = PyData.depthAll ds + 1 := rfl
  unfold SeqAt.shaped
  rw [e1, h1, decide_eq_true (by omega)]
  rfl
def ms10 : List SP10 := [(some [], true), (some [true], true), (some [true, true], true), (some [false], true)]
def t10 : Tree := .N (.N (.N .L .L) .L) (.N (.N .L .L) (.N .L .L))
theorem run10 : runS 0 t10 (List.replicate 12 ms10).flatten = .inv 2 := by rfl
theorem pth10 {z : Str} {p : List Bool} (h : z = ptx p) (hl : p.length ≤ 60) : PthT z (some p) := ⟨by rw [h, ptx_len]; omega, .inr ⟨p, rfl, h, hl⟩⟩
theorem inv_shaped (i : Nat) : SeqAt.shaped (xrD (.inv i)) = true := by
  unfold SeqAt.shaped
  rw [xrD_lay]
  rfl
theorem inv_depth (i : Nat) : (xrD (.inv i)).depth ≤ 1 := Nat.le_refl _
theorem StA.append {K : PySem.W.Frag} {H : Hp} {xs ys : List V} {ms ns : List SP10} (h : StA K H xs ms) (h2 : StA K H ys ns) : StA K H (xs ++ ys) (ms ++ ns) := by
  induction h with
  | nil => exact h2
  | cons a _ ih => exact .cons a ih
theorem StA.rep {K : PySem.W.Frag} {H : Hp} {xs : List V} {ms : List SP10} (h : StA K H xs ms) : ∀ n : Nat, StA K H (List.replicate n xs).flatten (List.replicate n ms).flatten
  | 0 => .nil
  | n + 1 => h.append (StA.rep h n)
structure D10 (T : List (Addr × Str)) (K : PySem.W.Frag) (r cc l : Addr) (us : List V) (ms : List SP10) (G : Hp) : Prop where
  R : RngC G r cc
  tb : LamX.Tabs T G
  L : G l = some (.lst us)
  S : StA K G us ms
section
variable {T : List (Addr × Str)} {K : PySem.W.Frag} {r cc l : Addr} {us : List V} {ms : List SP10} {G G' : Hp}
theorem D10.same (F : D10 T K r cc l us ms G) (s : Same G G') : D10 T K r cc l us ms G' := ⟨F.R.same s, tabs_same s F.tb, s _ _ F.L, F.S.tp (Tp.same s)⟩
theorem D10.extN (F : D10 T K r cc l us ms G) (e : LamX.ExtN G G') (tb : LamX.Tabs T G') : D10 T K r cc l us ms G' := ⟨F.R.extN e, tb, e _ _ F.L (fun _ => nofun), F.S.tp (Tp.extN e)⟩
end
structure F10 (T : List (Addr × Str)) (K : PySem.W.Frag) (r cc : Addr) (v : V) (t : Tree) (l : Addr) (us : List V) (ms : List SP10) (G : Hp) : Prop where
  R : RngC G r cc
  tb : LamX.Tabs T G
  a : TA K G v t
  L : G l = some (.lst us)
  S : StA K G us ms
  lr : l ≠ r ∧ l ≠ cc
section
variable {T : List (Addr × Str)} {K : PySem.W.Frag} {r cc l : Addr} {v : V} {t : Tree} {us : List V} {ms : List SP10} {G G' : Hp}
theorem F10.same (F : F10 T K r cc v t l us ms G) (s : Same G G') : F10 T K r cc v t l us ms G' := ⟨F.R.same s, tabs_same s F.tb, ta_mono (Tp.same s) F.a, s _ _ F.L, F.S.tp (Tp.same s), F.lr⟩
theorem F10.but (F : F10 T K r cc v t l us ms G) (R : RngC G' r cc) (b : But r G G') : F10 T K r cc v t l us ms G' := ⟨R, F.R.tabs b F.tb, ta_mono (F.R.tp b) F.a, b _ _ F.lr.1 F.L, F.S.tp (F.R.tp b), F.lr⟩
theorem F10.extN (F : F10 T K r cc v t l us ms G) (e : LamX.ExtN G G') (tb : LamX.Tabs T G') : F10 T K r cc v t l us ms G' := ⟨F.R.extN e, tb, ta_mono (Tp.extN e) F.a, e _ _ F.L (fun _ => nofun), F.S.tp (Tp.extN e), F.lr⟩
theorem F10.app {x : V} {m : SP10} (F : F10 T K r cc v t l us ms G) (h : StT K G x m) : F10 T K r cc v t l (us ++ [x]) (ms ++ [m]) (upd G l (.lst (us ++ [x]))) := by
  have b : But l G (upd G l (.lst (us ++ [x]))) := fun b o n e => by rw [upd_ne n]; exact e
  have tp : Tp G (upd G l (.lst (us ++ [x]))) := Tp.but F.L But.set
  exact ⟨F.R.set ⟨F.lr.1, F.lr.2⟩, tabs_set F.tb F.L b, ta_mono tp F.a, upd_same, (F.S.tp tp).snoc (h.tp tp), F.lr⟩
end
theorem ok_law10 {g0 g1 g2 g3 g4 g5 g6 g7 g8 g9 g10 : Addr} {h0 h1 h2 h3 h4 h5 h6 h7 h8 h9 h10 : FuncData} {fA : Addr} {fdA : FuncData} {CI CL CS CT c Pt : Addr} {word : Addr → Option Str} {fld : Addr → Option Addr → Hp → V → Prop} {oc dV kV doc pm ct : Value} {od an : Option Addr} {osl : Array (Option Value)}
    (lk : K.lookup f = some ⟨oc, od, .func (PySem.W.fnOf "law" "law" (defArgs s_law) (defBody s_law) (defScope s_law) dV kV doc pm an (.ref c) ct), osl⟩) (hcd : PySem.W.codeIn K (.ref c) "law" = true) (TB : LamX.TabB base mg c Pt) (B : Blt mg)
    (Z : Cls10 K CT CI CL CS word fld) (mT : mg "TermError" = some (.ref CT))
    (d__law_draws : D K mg "_law_draws" s__law_draws ["_law_script"] g0 h0) (d__law_draw : D K mg "_law_draw" s__law_draw ["_law_rng", "_law_amount"] g1 h1) (d__law_pick : D K mg "_law_pick" s__law_pick ["_law_rng", "_law_terms"] g2 h2) (d__law_same : D K mg "_law_same" s__law_same ["_law_result", "_law_expected_here"] g3 h3) (d__law_any_term : D K mg "_law_any_term" s__law_any_term ["_law_rng", "_law_top"] g4 h4) (d__law_size : D K mg "_law_size" s__law_size ["_law_term_here"] g5 h5) (d__law_pair : D K mg "_law_pair" s__law_pair ["_law_rng", "_law_term_here"] g6 h6) (d__law_expected : D K mg "_law_expected" s__law_expected ["_law_term_here", "_law_rows"] g7 h7) (d__law_error_name : D K mg "_law_error_name" s__law_error_name ["_law_e"] g8 h8) (d__law_error_field : D K mg "_law_error_field" s__law_error_field ["_law_e", "_law_word"] g9 h9) (d__law_try : D K mg "_law_try" s__law_try ["_law_ask"] g10 h10) (d_apply_steps : D K mg "apply_steps" s_apply_steps ["term", "steps"] fA fdA) (kbA : KBn K fdA ["term", "steps"] 1 ["steps"] (fun us ws => us ++ ws) (fun vs zs => vs ++ zs))
    (G__law_any_term : FnOk P w K mg base CX0 9 g4 h4 ["_law_rng", "_law_top"] (spAnyC K)) (G__law_pair : FnOk P w K mg base CX0 34 g6 h6 ["_law_rng", "_law_term_here"] (spPr10 K)) (G__law_expected : FnOk P w K mg base CX0 66 g7 h7 ["_law_term_here", "_law_rows"] (spExpd K))
    (GN : FnB P w K mg base 3 g8 h8 ["_law_e"] (spName2 K CT word)) (GF : FnB P w K mg base 3 g9 h9 ["_law_e", "_law_word"] (spField word fld)) (G_apply_steps : FnOk P w K mg base (L2C.CX P w) 10 fA fdA ["term", "steps"] (spApp K CI CL CS)) :
    FnOk P w K mg base CX0 80 f (PySem.W.fnOf "law" "law" (defArgs s_law) (defBody s_law) (defScope s_law) dV kV doc pm an (.ref c) ct) ["_law_script"] (spLaw10 [(Pt, lamQ)] K) := by
  have G__law_draws : FnOk P w K mg base CX0 1 g0 h0 ["_law_script"] (spDraws K) := ok__law_draws d__law_draws B
  have G__law_draw : FnOk P w K mg base CX0 1 g1 h1 ["_law_rng", "_law_amount"] spDrawC := ok__law_drawC d__law_draw B
  have G__law_pick : FnOk P w K mg base CX0 2 g2 h2 ["_law_rng", "_law_terms"] (spPickC K) := ok__law_pickC d__law_pick B d__law_draw
  have G__law_same : FnOk P w K mg base CX0 40 g3 h3 ["_law_result", "_law_expected_here"] (spSame K 40) := ok__law_same d__law_same B 40
  have G__law_size : FnOk P w K mg base CX0 40 g5 h5 ["_law_term_here"] (spTree K (fun t => .int t.sz) 40) := ok__law_size d__law_size 40
  obtain ⟨ocT, odT, kVT, docT, pmT, anT, cdT, ctT, oslT, rfl, lkT, hcT⟩ := d__law_try.F.ex
  refine fn_of (k := 79) lk hcd sc_law (fun vs H Q E h => ?_) (fun A outer s H vs Q E hr h => ?_)
  · obtain ⟨_, _, rfl, _⟩ := h
    rfl
  obtain ⟨a0, ns, rfl, hS, T0, q⟩ := h
  suffices z' : ∃ t, PSs (cxOf CX0 P w K mg base ["_law_script", "_law_rng", "_law_turn", "_law_current", "_law_rows", "_law_step", "_law_later", "_law_copied", "_law_expected_here", "_law_argument", "_law_grow", "_law_term_here"] "law" (defScope s_law) f (.ref c) A outer s H E).nox (defBody s_law) t ∧ t { nx := fun _ H' => Q .non H', rt := Q } (L2.start ["_law_script", "_law_rng", "_law_turn", "_law_current", "_law_rows", "_law_step", "_law_later", "_law_copied", "_law_expected_here", "_law_argument", "_law_grow", "_law_term_here"] [.ref a0]) H from z'.elim fun t y => ⟨t, y.1.nox, y.2⟩
  refine ⟨_, (pss_cons (ps_set (i := 1) sc_law.nd rfl (Or.inl rfl) (pe_call G__law_draws (hr.mono (by decide)) rfl d__law_draws.m d__law_draws.F.kp d__law_draws.b .nil pass0 (pa_cons (pv 0) pa_nil)))
 (pss_cons (ps_for PassesOwn.never rfl (pi_range1 (by rfl) B.range (pa_cons pe_int pa_nil)) (pg_name (i := 2) sc_law.nd rfl (Or.inl rfl))
  (pss_cons (ps_set (i := 11) sc_law.nd rfl (Or.inr rfl) (pe_call G__law_any_term (hr.mono (by decide)) rfl d__law_any_term.m d__law_any_term.F.kp d__law_any_term.b .nil pass0 (pa_cons (pv 1) (pa_cons pe_int pa_nil))))
 (pss_cons (ps_par (i := 3) (j := 4) (by rfl) sc_law.nd rfl rfl (by decide) rfl rfl (pa_cons (pv 11) (pa_cons (pe_lst pa_nil) pa_nil)) (by rfl))
 (pss_cons (ps_for PassesOwn.never rfl (pi_range1 (by rfl) B.range (pa_cons (pe_call G__law_draw (hr.mono (by decide)) rfl d__law_draw.m d__law_draw.F.kp d__law_draw.b .nil pass0 (pa_cons (pv 1) (pa_cons pe_int pa_nil))) pa_nil)) (pg_name (i := 5) sc_law.nd rfl (Or.inl rfl))
  (pss_cons (ps_expr (pe_bm PySem.F.plainAttrs_list PySem.F.slot_list_append PySem.F.type_list_append mt_append (pv 4) (pa_cons (pe_call G__law_pair (hr.mono (by decide)) rfl d__law_pair.m d__law_pair.F.kp d__law_pair.b .nil pass0 (pa_cons (pv 1) (pa_cons (pv 3) pa_nil))) pa_nil)))
 (pss_cons (ps_set (i := 6) sc_law.nd rfl (Or.inl rfl) (pe_call G__law_expected (hr.mono (by decide)) rfl d__law_expected.m d__law_expected.F.kp d__law_expected.b .nil pass0 (pa_cons (pv 3) (pa_cons (pe_slice sl_list (pv 4) (po_some (pe_un un_neg pe_int)) po_none) pa_nil))))
 (pss_one (ps_set (i := 3) sc_law.nd rfl (Or.inl rfl) (pe_ifExp (PW.pt (pw_and (pt_cmpR op_eq (pe_ix ix_tup (pv 6) pe_int (fun _ _ => rfl)) pe_str (nomark _)) (pw_and1 (pt_cmpR op_lt (pe_call G__law_size (hr.mono (by decide)) rfl d__law_size.m d__law_size.F.kp d__law_size.b .nil pass0 (pa_cons (pe_ix ix_tup (pv 6) pe_int (fun _ _ => rfl)) pa_nil)) pe_int (nomark _))))) (pe_ix ix_tup (pv 6) pe_int (fun _ _ => rfl)) (pv 3)))))))
 (pss_cons (ps_set (i := 7) sc_law.nd rfl (Or.inl rfl) (pe_callTy call_list_of (by rfl) B.list (by decide +kernel) (pa_cons (pv 4) pa_nil)))
 (pss_cons (ps_set (i := 9) sc_law.nd rfl (Or.inr rfl) (pe_call G__law_pick (hr.mono (by decide)) rfl d__law_pick.m d__law_pick.F.kp d__law_pick.b .nil pass0 (pa_cons (pv 1) (pa_cons (pe_lst (pa_cons (pv 7) (pa_cons (pe_callTy call_tuple_of (by rfl) B.tuple (by decide +kernel) (pa_cons (pv 7) pa_nil)) pa_nil))) pa_nil))))
 (C8.pss_cut (ps_set (i := 8) sc_law.nd rfl (Or.inl rfl) (pe_call G__law_expected (hr.mono (by decide)) rfl d__law_expected.m d__law_expected.F.kp d__law_expected.b .nil pass0 (pa_cons (pv 11) (pa_cons (pv 4) pa_nil))))
 (pss_one (ps_if (PW.pt (pw_or (pt_not (pt_val (pe_call G__law_same (hr.mono (by decide)) rfl d__law_same.m d__law_same.F.kp d__law_same.b .nil pass0 (pa_cons (pe_lamN (T := [(Pt, lamQ)]) (TT := TTry2 K CT word fld) (t := fun E => tCall (spApp K CI CL CS) [] E (tCons (tVar 11) (tCons (tVar 9) tNil))) rfl d__law_try.m d__law_try.F.kp lkT hcT d__law_try.b sc__law_try rfl (.inl rfl)
  (try_gives2 rfl rfl rfl rfl rfl rfl mT d__law_error_name.m d__law_error_field.m d__law_error_name.F.kp d__law_error_field.F.kp d__law_error_name.b d__law_error_field.b GN GF) TB rfl (List.mem_singleton.mpr rfl) (fun p hp _ => by rw [List.mem_singleton.mp hp]; rfl) (hr.mono (by decide)) (by decide : 40 ≤ 55 + 1) (LamX.lamS_by (by rfl)) rfl (fun _ _ _ _ _ => rfl)
  (fun A2 outer2 s2 H2 E2 f2 c2 hr2 => (pe_call (E := E2) G_apply_steps (hr2.mono (by decide)) rfl d_apply_steps.m d_apply_steps.F.kp d_apply_steps.b .nil passLC (pa_cons (pe_var (i := 11) rfl (.inr (.inr rfl))) (pa_cons (pe_var (i := 9) rfl (.inr (.inr rfl))) pa_nil))))) (pa_cons (pv 8) pa_nil))))) (pw_or1 (pt_cmpR (op_neD hr.units) (pv 7) (pv 4) (nomark _))))) (pss_one (ps_ret pe_bl)) pss_nil)))))))))
 (pss_cons (ps_set (i := 10) sc_law.nd rfl (Or.inr rfl) (pe_op op_rep (pe_lst (pa_cons (pe_tup (pa_cons pe_str (pa_cons pe_bl pa_nil))) (pa_cons (pe_tup (pa_cons pe_str (pa_cons pe_bl pa_nil))) (pa_cons (pe_tup (pa_cons pe_str (pa_cons pe_bl pa_nil))) (pa_cons (pe_tup (pa_cons pe_str (pa_cons pe_bl pa_nil))) pa_nil))))) pe_int))
 (pss_cons (ps_set (i := 11) sc_law.nd rfl (Or.inr rfl) (pe_tup (pa_cons (pe_tup (pa_cons (pe_tup (pa_cons (pe_tup pa_nil) (pa_cons (pe_tup pa_nil) pa_nil))) (pa_cons (pe_tup pa_nil) pa_nil))) (pa_cons (pe_tup (pa_cons (pe_tup (pa_cons (pe_tup pa_nil) (pa_cons (pe_tup pa_nil) pa_nil))) (pa_cons (pe_tup (pa_cons (pe_tup pa_nil) (pa_cons (pe_tup pa_nil) pa_nil))) pa_nil))) pa_nil))))
 (pss_cons (ps_if (pt_not (pt_val (pe_call G__law_same (hr.mono (by decide)) rfl d__law_same.m d__law_same.F.kp d__law_same.b .nil pass0 (pa_cons (pe_lamN (T := [(Pt, lamQ)]) (TT := TTry2 K CT word fld) (t := fun E => tCall (spApp K CI CL CS) [] E (tCons (tVar 11) (tCons (tVar 10) tNil))) rfl d__law_try.m d__law_try.F.kp lkT hcT d__law_try.b sc__law_try rfl (.inl rfl)
  (try_gives2 rfl rfl rfl rfl rfl rfl mT d__law_error_name.m d__law_error_field.m d__law_error_name.F.kp d__law_error_field.F.kp d__law_error_name.b d__law_error_field.b GN GF) TB rfl (List.mem_singleton.mpr rfl) (fun p hp _ => by rw [List.mem_singleton.mp hp]; rfl) (hr.mono (by decide)) (by decide : 40 ≤ 55 + 1) (LamX.lamS_by (by rfl)) rfl (fun _ _ _ _ _ => rfl)
  (fun A2 outer2 s2 H2 E2 f2 c2 hr2 => (pe_call (E := E2) G_apply_steps (hr2.mono (by decide)) rfl d_apply_steps.m d_apply_steps.F.kp d_apply_steps.b .nil passLC (pa_cons (pe_var (i := 11) rfl (.inr (.inr rfl))) (pa_cons (pe_var (i := 10) rfl (.inr (.inr rfl))) pa_nil))))) (pa_cons (pe_call G__law_expected (hr.mono (by decide)) rfl d__law_expected.m d__law_expected.F.kp d__law_expected.b .nil pass0 (pa_cons (pv 11) (pa_cons (pv 10) pa_nil))) pa_nil))))) (pss_one (ps_ret pe_bl)) pss_nil)
 (pss_cons (ps_if (pt_cmpR (op_neD hr.units) (pe_callN (ks := ["steps"]) (n := 1) G_apply_steps (hr.mono (by decide)) rfl d_apply_steps.m d_apply_steps.F.kp kbA passC0 (pa_cons (pv 11) pa_nil) (pk_cons (pe_lst pa_nil) pk_nil)) (pv 11) (nomark _)) (pss_one (ps_ret pe_bl)) pss_nil)
 (pss_one (ps_ret (pe_cmpR (op_eqD hr.units) (pe_lamN (T := [(Pt, lamQ)]) (TT := TTry2 K CT word fld) (t := fun E => tCall (spApp K CI CL CS) [] E (tCons (tTup (tCons (tTup tNil) tNil)) (tCons (tLst (tCons (tTup (tCons (tC (.str (Str.ofString "2"))) (tCons (tC (.bl true)) tNil))) tNil)) tNil))) rfl d__law_try.m d__law_try.F.kp lkT hcT d__law_try.b sc__law_try rfl (.inl rfl)
  (try_gives2 rfl rfl rfl rfl rfl rfl mT d__law_error_name.m d__law_error_field.m d__law_error_name.F.kp d__law_error_field.F.kp d__law_error_name.b d__law_error_field.b GN GF) TB rfl (List.mem_singleton.mpr rfl) (fun p hp _ => by rw [List.mem_singleton.mp hp]; rfl) (hr.mono (by decide)) (by decide : 40 ≤ 55 + 1) (LamX.lamS_by (by rfl)) rfl (fun _ _ _ _ _ => rfl)
  (fun A2 outer2 s2 H2 E2 f2 c2 hr2 => (pe_call (E := E2) G_apply_steps (hr2.mono (by decide)) rfl d_apply_steps.m d_apply_steps.F.kp d_apply_steps.b .nil passLC (pa_cons (pe_tup (pa_cons (pe_tup pa_nil) pa_nil)) (pa_cons (pe_lst (pa_cons (pe_tup (pa_cons pe_str (pa_cons pe_bl pa_nil))) pa_nil)) pa_nil))))) (pe_tup (pa_cons pe_str (pa_cons pe_non pa_nil))) (nomark _)))))))))), ?_⟩
  refine ⟨_, rfl, a0, ns, rfl, hS, fun r H1 s1 _ R1 => ?_⟩
  obtain ⟨cc, R1⟩ := R1.toC
  have T1 : LamX.Tabs [(Pt, lamQ)] H1 := tabs_same s1 T0
  have hNT : ∀ {G : Hp} {v : V} {t : Tree}, TA K G v t → t.sz ≤ 12 → t.dp ≤ 6 → NT K G v t.d ∧ ndD t.d ≤ 1000 ∧ okd t.d = true := fun {G v t} h1 h2 h3 => by
    have hnd := tree_nodes t
    refine ⟨NT.of h1 (by omega), by rw [tree_nd]; omega, ?_⟩
    rw [tree_okd, decide_eq_true h3, decide_eq_true h2]
    rfl
  refine ⟨4, rfl, by decide, by decide, for_range (lo := 0) (n := 4) (fun i σ G => ∃ (x2 x3 x4 x5 x6 x7 x8 x9 x10 x11 : Option V), σ = [some (.ref a0), some (.ref r), x2, x3, x4, x5, x6, x7, x8, x9, x10, x11] ∧ RngC G r cc ∧ LamX.Tabs [(Pt, lamQ)] G) ⟨_, _, _, _, _, _, _, _, _, _, rfl, R1, T1⟩ ?_ ?_⟩
  · rintro i σ H2 hi ⟨x2, x3, x4, x5, x6, x7, x8, x9, x10, x11, rfl, R2, T2⟩
    refine ⟨_, rfl, r, 9, cc, rfl, by decide, by decide, R2, fun v t H3 a3 z3 d3 R3 b3 => ⟨_, rfl, zero_le', fun l nl => ?_⟩⟩
    have T3 := R2.tabs b3 T2
    have F4 : F10 [(Pt, lamQ)] K r cc v t l [] [] (upd H3 l (.lst [])) := ⟨R3.same (Same.new nl _), tabs_same (Same.new nl _) T3, ta_mono (Tp.same (Same.new nl _)) a3, upd_same, .nil, R3.ne nl⟩
    clear R2 T2 R3 a3 b3 T3 nl
    generalize (upd H3 l (.lst [])) = G4 at *
    refine ⟨_, _, rfl, _, rfl, r, 21, cc, rfl, F4.R, by decide, by decide, fun n H6 v0 v1 R6 b6 => ⟨n, rfl, by omega, by omega, ?_⟩⟩
    have F6 := F4.but R6 b6
    refine for_range (lo := 0) (n := n.toNat) (fun j σ G => ∃ (x5 x6 : Option V) (vc : V) (tc : Tree) (us : List V) (ms : List SP10), σ = [some (.ref a0), some (.ref r), some (.int (0 + (i : Int))), some vc, some (.ref l), x5, x6, x7, x8, x9, x10, some v] ∧ F10 [(Pt, lamQ)] K r cc v t l us ms G ∧ TA K G vc tc ∧ tc.sz < 200 ∧ tc.dp ≤ 6 + j ∧ ms.length = j) ⟨_, _, v, t, [], [], rfl, F6, F6.a, by omega, by omega, rfl⟩ ?_ ?_
    · clear F4 F6 R6 b6
      rintro j σ G hj ⟨x5, x6, vc, tc, us, ms, rfl, F, ac, hz, hd, hml⟩
      have hul := F.S.len
      refine ⟨_, rfl, .inl ⟨rfl, _, SqL.here F.L⟩, _, rfl, _, rfl, r, cc, vc, tc, rfl, F.R, ac, by omega, by omega, fun x m G2 hx R2 b2 => ⟨l, _, _, rfl, rfl, (F.but R2 b2).L, small1000 (by omega), ?_⟩⟩
      have F2 := (F.but R2 b2).app hx
      have ac2 : TA K (upd G2 l (.lst (us ++ [x]))) vc tc := ta_mono ((F.R.tp b2).trans (Tp.but (F.but R2 b2).L But.set)) ac
      have hx2 : StT K (upd G2 l (.lst (us ++ [x]))) x m := hx.tp (Tp.but (F.but R2 b2).L But.set)
      clear F ac b2 R2 hx
      generalize (upd G2 l (.lst (us ++ [x]))) = G3 at *
      refine ⟨_, rfl, _, rfl, 1, rfl, _, rfl, l, _, rfl, SqL.here F2.L, fun sl nsl => ?_⟩
      have s4 := Same.new nsl (.lst (cutV (us ++ [x]) (some (-1)) none))
      have hsl : SqL K (upd G3 sl (.lst (cutV (us ++ [x]) (some (-1)) none))) sl [x] := SqL.here (by rw [upd_same, cut_last])
      have F4 := F2.same s4
      have ac4 := ta_mono (Tp.same s4) ac2
      have hx4 := hx2.tp (Tp.same s4)
      clear F2 ac2 hx2 s4 nsl
      generalize (upd G3 sl (.lst (cutV (us ++ [x]) (some (-1)) none))) = G4 at *
      have hml2 : (ms ++ [m]).length = j + 1 := by rw [List.length_append, hml]; rfl
      refine ⟨vc, sl, tc, [x], [m], rfl, ac4, by omega, ⟨1, by omega, .inl (Nat.le_refl _)⟩, hsl, .cons hx4 .nil, (by show 1 ≤ 60; decide), fun u hu p y G5 s5 hp hy => ?_, fun k hk p G5 s5 hp => ?_, fun k hk p G5 s5 hp => ?_⟩
      · have hd2 : u.dp ≤ tc.dp + 1 := runS_dp hu
        have hz2 : u.sz ≤ 2000 := runS_sz hu (by omega)
        have F5 := F4.same s5
        have ac5 := ta_mono (Tp.same s5) ac4
        refine ⟨_, rfl, p, _, 0, _, rfl, rfl, hp, rfl, rfl, _, rfl, ite_yes (decide_eq_true rfl) ⟨_, rfl, p, _, 1, _, rfl, rfl, hp, rfl, y, u, rfl, hy, by omega, by decide, fun G6 s6 => ⟨_, _, rfl, rfl, _, rfl, ?_⟩⟩⟩
        have F6 := F5.same s6
        by_cases c : (u.sz : Int) < 200
        · refine ite_yes (decide_eq_true c) ⟨_, rfl, p, _, 1, _, rfl, rfl, (Tp.same s6).sqT hp, rfl, ?_⟩
          exact ⟨_, _, y, u, _, _, rfl, F6, ta_mono (Tp.same s6) hy, by omega, by omega, hml2⟩
        · refine ite_no (decide_eq_false c) ⟨_, rfl, ?_⟩
          exact ⟨_, _, vc, tc, _, _, rfl, F6, ta_mono (Tp.same s6) ac5, hz, by omega, hml2⟩
      · have F5 := F4.same s5
        have ac5 := ta_mono (Tp.same s5) ac4
        refine ⟨_, rfl, p, _, 0, _, rfl, rfl, hp, rfl, rfl, _, rfl, ite_no (decide_eq_false (by decide)) (ite_no rfl ⟨_, rfl, ?_⟩)⟩
        exact ⟨_, _, vc, tc, _, _, rfl, F5, ac5, hz, by omega, hml2⟩
      · have F5 := F4.same s5
        have ac5 := ta_mono (Tp.same s5) ac4
        refine ⟨_, rfl, p, _, 0, _, rfl, rfl, hp, rfl, rfl, _, rfl, ite_no (decide_eq_false (by decide)) (ite_no rfl ⟨_, rfl, ?_⟩)⟩
        exact ⟨_, _, vc, tc, _, _, rfl, F5, ac5, hz, by omega, hml2⟩
    rintro σ G ⟨x5, x6, vc, tc, us, ms, rfl, F, _, _, _, hml⟩
    clear F4 F6 R6 b6
    have hul := F.S.len
    refine ⟨_, rfl, l, us, rfl, .inl (SqL.here F.L), fun cl ncl => ?_⟩
    have s5 := Same.new ncl (.lst us)
    have ncr := F.R.ne ncl
    have F5 := F.same s5
    have hcl : (upd G cl (.lst us)) cl = some (.lst us) := upd_same
    clear F s5 ncl
    generalize (upd G cl (.lst us)) = G5 at *
    refine ⟨_, rfl, _, rfl, _, rfl, cl, us, rfl, .inl ⟨SqL.here hcl, fun tl ntl => ?_⟩⟩
    have s6 := Same.new ntl (.tup us)
    have htl : (upd G5 tl (.tup us)) tl = some (.tup us) := upd_same
    have ntr := F5.R.ne ntl
    have F6 := F5.same s6
    have hcl6 := s6 _ _ hcl
    clear F5 s6 ntl hcl
    generalize (upd G5 tl (.tup us)) = G6 at *
    refine ⟨two_le, fun pl npl => ⟨r, pl, cc, _, rfl, F6.R.same (Same.new npl _), .inl (SqL.here upd_same), Nat.zero_lt_succ _, (by show 2 ≤ 10000; decide), (F6.R.ne npl).1, fun xa G7 hxa R7 b7 => ?_⟩⟩
    have s7 := Same.new npl (.lst [.ref cl, .ref tl])
    have F7 := (F6.same s7).but R7 b7
    have hcl7 := b7 _ _ ncr.1 (s7 _ _ hcl6)
    have htl7 := b7 _ _ ntr.1 (s7 _ _ htl)
    have hba : ∃ ba, xa = .ref ba ∧ (ba = cl ∨ SqT K G7 ba us) := by
      rcases List.mem_cons.mp hxa with e | e
      · exact ⟨cl, e, .inl rfl⟩
      · exact ⟨tl, List.mem_singleton.mp e, .inr (SqT.here htl7)⟩
    obtain ⟨ba, rfl, hba⟩ := hba
    clear F6 s7 hcl6 htl htl7 R7 b7 ncr ntr hxa npl
    refine ⟨fun σ G => ∃ vh, σ = [some (.ref a0), some (.ref r), some (.int (0 + (i : Int))), some vc, some (.ref l), x5, x6, some (.ref cl), some vh, some (.ref ba), x10, some v] ∧ F10 [(Pt, lamQ)] K r cc v t l us ms G ∧ XrA K G vh (runS 0 t ms) ∧ G cl = some (.lst us) ∧ (ba = cl ∨ SqT K G ba us), ?_, ?_⟩
    · have hbS : ∀ {G8 : Hp}, Same G7 G8 → (ba = cl ∨ SqT K G8 ba us) := fun s8 => hba.imp id (Tp.same s8).sqT
      refine ⟨_, rfl, _, rfl, v, l, t, us, ms, rfl, F7.a, by omega, ⟨ms.length, by omega, .inl (Nat.le_refl _)⟩, SqL.here F7.L, F7.S, by omega, fun u hu p y G8 s8 hp hy => ⟨_, rfl, F7.same s8, ?_, s8 _ _ hcl7, hbS s8⟩, fun k hk p G8 s8 hp => ⟨_, rfl, F7.same s8, ?_, s8 _ _ hcl7, hbS s8⟩, fun k hk p G8 s8 hp => ⟨_, rfl, F7.same s8, ?_, s8 _ _ hcl7, hbS s8⟩⟩
      · rw [hu]
        exact ⟨p, y, rfl, hp, hy⟩
      · rw [hk]
        exact ⟨p, rfl, hp⟩
      · rw [hk]
        exact ⟨p, rfl, hp⟩
    clear F7 hcl7 hba
    rintro σ G ⟨vh, rfl, F, hX, hc, hb⟩
    refine ⟨F.tb, fun G1 ex1 tb1 _ => ?_⟩
    have F1 := F.extN ex1 tb1
    have tp1 := Tp.extN ex1
    have hX1 := hX.tp tp1
    have hc1 := ex1 _ _ hc (fun _ => nofun)
    have hb1 : SqL K G1 ba us ∨ SqT K G1 ba us := hb.imp (fun e => by rw [e]; exact SqL.here hc1) tp1.sqT
    obtain ⟨j1, j2, j3⟩ := hNT F1.a (by omega) (by omega)
    clear F hX hc hb ex1 tb1 tp1
    refine ⟨_, rfl, _, rfl, v, ba, t.d, us, ms, rfl, j1, j2, hb1, F1.S, by omega, fun bad => absurd (j3.symm.trans bad) (by decide), fun t' et _ _ => ?_⟩
    cases d_inj et
    refine ⟨fun u hu y G2 s2 hy => ⟨two_le, fun e ne => ?_⟩, fun k hk e0 G2 s2 _ h0 => ?_, fun k hk e0 G2 s2 _ h0 => ?_⟩
    · have s3 := Same.new ne (.tup [.str ("value" : Str), y])
      have hE : XrA K (upd G2 e (.tup [.str ("value" : Str), y])) (.ref e) (runS 0 t ms) := by
        rw [hu]
        exact ⟨e, y, rfl, SqT.here upd_same, ta_mono (Tp.same s3) hy⟩
      have sA := s2.trans s3
      clear s2 s3
      generalize (upd G2 e (.tup [.str ("value" : Str), y])) = G3 at *
      refine ⟨_, rfl, .ref e, vh, xrD (runS 0 t ms), rfl, hE.dp, (hX1.tp (Tp.same sA)).dp, xrD_shaped (by omega), Nat.lt_of_lt_of_le (xrD_depth (by omega)) (by decide), xrD_wide _, fun G4 s4 => ?_⟩
      have F4 := F1.same (sA.trans s4)
      have hc4 := (sA.trans s4) _ _ hc1
      obtain ⟨ds, hd1, hd2, hd3⟩ := F4.S.data
      have shp := lst_shaped hd2 hd3
      refine ⟨_, rfl, ite_no rfl ⟨_, rfl, _, rfl, .list ds, .list ds, Dp.lst (SqL.here hc4) hd1, Dp.lst (SqL.here F4.L) hd1, shp, shp, _, rfl, ite_no (by rw [SeqAt.eqv_refl _ (SeqAt.canLay_of_shaped shp)]; rfl) ?_⟩⟩
      exact ⟨_, _, _, _, _, _, _, _, _, _, rfl, F4.R, F4.tb⟩
    · refine wTry2 (D := CS) (nm := en 9) (v := .int (k : Int)) Z.st rfl ⟨Z.x9.1, fun d ed => ⟨_, by cases ed; exact h0⟩, Z.x9.2.1⟩ Z.x9.2.2.1 (Z.x9.2.2.2 _ _ _ _ h0 rfl) fun e G3 s3 ne => ?_
      have s5 := Same.new ne (.tup [.str (en 9), .int (k : Int)])
      have hE : XrA K (upd G3 e (.tup [.str (en 9), .int (k : Int)])) (.ref e) (runS 0 t ms) := by
        rw [hk]
        exact ⟨e, rfl, SqT.here upd_same⟩
      have sA := s2.trans (s3.trans s5)
      clear s2 s3 s5
      generalize (upd G3 e (.tup [.str (en 9), .int (k : Int)])) = G3 at *
      refine ⟨_, rfl, .ref e, vh, xrD (runS 0 t ms), rfl, hE.dp, (hX1.tp (Tp.same sA)).dp, xrD_shaped (by omega), Nat.lt_of_lt_of_le (xrD_depth (by omega)) (by decide), xrD_wide _, fun G4 s4 => ?_⟩
      have F4 := F1.same (sA.trans s4)
      have hc4 := (sA.trans s4) _ _ hc1
      obtain ⟨ds, hd1, hd2, hd3⟩ := F4.S.data
      have shp := lst_shaped hd2 hd3
      refine ⟨_, rfl, ite_no rfl ⟨_, rfl, _, rfl, .list ds, .list ds, Dp.lst (SqL.here hc4) hd1, Dp.lst (SqL.here F4.L) hd1, shp, shp, _, rfl, ite_no (by rw [SeqAt.eqv_refl _ (SeqAt.canLay_of_shaped shp)]; rfl) ?_⟩⟩
      exact ⟨_, _, _, _, _, _, _, _, _, _, rfl, F4.R, F4.tb⟩
    · refine wTry2 (D := CL) (nm := en 5) (v := .int (k : Int)) Z.st rfl ⟨Z.x5.1, fun d ed => ⟨_, by cases ed; exact h0⟩, Z.x5.2.1⟩ Z.x5.2.2.1 (Z.x5.2.2.2 _ _ _ _ h0 rfl) fun e G3 s3 ne => ?_
      have s5 := Same.new ne (.tup [.str (en 5), .int (k : Int)])
      have hE : XrA K (upd G3 e (.tup [.str (en 5), .int (k : Int)])) (.ref e) (runS 0 t ms) := by
        rw [hk]
        exact ⟨e, rfl, SqT.here upd_same⟩
      have sA := s2.trans (s3.trans s5)
      clear s2 s3 s5
      generalize (upd G3 e (.tup [.str (en 5), .int (k : Int)])) = G3 at *
      refine ⟨_, rfl, .ref e, vh, xrD (runS 0 t ms), rfl, hE.dp, (hX1.tp (Tp.same sA)).dp, xrD_shaped (by omega), Nat.lt_of_lt_of_le (xrD_depth (by omega)) (by decide), xrD_wide _, fun G4 s4 => ?_⟩
      have F4 := F1.same (sA.trans s4)
      have hc4 := (sA.trans s4) _ _ hc1
      obtain ⟨ds, hd1, hd2, hd3⟩ := F4.S.data
      have shp := lst_shaped hd2 hd3
      refine ⟨_, rfl, ite_no rfl ⟨_, rfl, _, rfl, .list ds, .list ds, Dp.lst (SqL.here hc4) hd1, Dp.lst (SqL.here F4.L) hd1, shp, shp, _, rfl, ite_no (by rw [SeqAt.eqv_refl _ (SeqAt.canLay_of_shaped shp)]; rfl) ?_⟩⟩
      exact ⟨_, _, _, _, _, _, _, _, _, _, rfl, F4.R, F4.tb⟩
  rintro σ G ⟨x2, x3, x4, x5, x6, x7, x8, x9, x10, x11, rfl, R, T⟩
  clear R1 T1 s1 T0 hS
  refine ⟨two_le, fun p1 np1 => ⟨two_le, fun p2 np2 => ⟨two_le, fun p3 np3 => ⟨two_le, fun p4 np4 => ⟨four_le, fun l0 nl0 => ⟨l0, 12, _, rfl, rfl, upd_same, by decide, by decide, (by show 4 * 12 ≤ sizeLine; decide), fun gl ngl => ?_⟩⟩⟩⟩⟩⟩
  have z1 := Same.new np1 (.tup [.str (Str.ofString ""), .bl true])
  have z2 := Same.new np2 (.tup [.str (Str.ofString "1"), .bl true])
  have z3 := Same.new np3 (.tup [.str (Str.ofString "11"), .bl true])
  have z4 := Same.new np4 (.tup [.str (Str.ofString "0"), .bl true])
  have z5 := Same.new nl0 (.lst [.ref p1, .ref p2, .ref p3, .ref p4])
  have z6 := Same.new ngl (.lst (List.replicate (12 : Int).toNat [V.ref p1, .ref p2, .ref p3, .ref p4]).flatten)
  have z56 := z5.trans z6
  have z46 := z4.trans z56
  have z36 := z3.trans z46
  have z26 := z2.trans z36
  have z16 := z1.trans z26
  have hS0 : StA K (upd (upd (upd (upd (upd (upd G p1 (.tup [.str (Str.ofString ""), .bl true])) p2 (.tup [.str (Str.ofString "1"), .bl true])) p3 (.tup [.str (Str.ofString "11"), .bl true])) p4 (.tup [.str (Str.ofString "0"), .bl true])) l0 (.lst [.ref p1, .ref p2, .ref p3, .ref p4])) gl (.lst (List.replicate (12 : Int).toNat [V.ref p1, .ref p2, .ref p3, .ref p4]).flatten)) [V.ref p1, .ref p2, .ref p3, .ref p4] ms10 := .cons ⟨p1, (Str.ofString ""), rfl, SqT.here (z26 _ _ upd_same), pth10 (p := []) (by decide +kernel) (by decide), by decide +kernel⟩ (.cons ⟨p2, (Str.ofString "1"), rfl, SqT.here (z36 _ _ upd_same), pth10 (p := [true]) (by decide +kernel) (by decide), by decide +kernel⟩ (.cons ⟨p3, (Str.ofString "11"), rfl, SqT.here (z46 _ _ upd_same), pth10 (p := [true, true]) (by decide +kernel) (by decide), by decide +kernel⟩ (.cons ⟨p4, (Str.ofString "0"), rfl, SqT.here (z56 _ _ upd_same), pth10 (p := [false]) (by decide +kernel) (by decide), by decide +kernel⟩ .nil)))
  have D0 : D10 [(Pt, lamQ)] K r cc gl (List.replicate 12 [V.ref p1, .ref p2, .ref p3, .ref p4]).flatten (List.replicate 12 ms10).flatten (upd (upd (upd (upd (upd (upd G p1 (.tup [.str (Str.ofString ""), .bl true])) p2 (.tup [.str (Str.ofString "1"), .bl true])) p3 (.tup [.str (Str.ofString "11"), .bl true])) p4 (.tup [.str (Str.ofString "0"), .bl true])) l0 (.lst [.ref p1, .ref p2, .ref p3, .ref p4])) gl (.lst (List.replicate (12 : Int).toNat [V.ref p1, .ref p2, .ref p3, .ref p4]).flatten)) := ⟨R.same z16, tabs_same z16 T, upd_same, hS0.rep 12⟩
  clear z1 z2 z3 z4 z5 z6 z56 z46 z36 z26 z16 hS0 R T np1 np2 np3 np4 nl0 ngl
  have hul : (List.replicate 12 [V.ref p1, .ref p2, .ref p3, .ref p4]).flatten.length = 48 := by simp
  generalize (upd (upd (upd (upd (upd (upd G p1 (.tup [.str (Str.ofString ""), .bl true])) p2 (.tup [.str (Str.ofString "1"), .bl true])) p3 (.tup [.str (Str.ofString "11"), .bl true])) p4 (.tup [.str (Str.ofString "0"), .bl true])) l0 (.lst [.ref p1, .ref p2, .ref p3, .ref p4])) gl (.lst (List.replicate (12 : Int).toNat [V.ref p1, .ref p2, .ref p3, .ref p4]).flatten)) = G1 at *
  generalize (List.replicate 12 [V.ref p1, .ref p2, .ref p3, .ref p4]).flatten = us at *
  refine ⟨zero_le', fun u1 n1 => ⟨zero_le', fun u2 n2 => ⟨two_le, fun u3 n3 => ⟨zero_le', fun u4 n4 => ⟨two_le, fun u5 n5 => ⟨zero_le', fun u6 n6 => ⟨zero_le', fun u7 n7 => ⟨two_le, fun u8 n8 => ⟨zero_le', fun u9 n9 => ⟨zero_le', fun u10 n10 => ⟨two_le, fun u11 n11 => ⟨two_le, fun u12 n12 => ⟨two_le, fun u13 n13 => ?_⟩⟩⟩⟩⟩⟩⟩⟩⟩⟩⟩⟩⟩
  have y1 := Same.new n1 (.tup [])
  have t1 : TA K (upd G1 u1 (.tup [])) (.ref u1) .L := Dp.tup (SqT.here upd_same) .nil
  replace D0 := D0.same y1
  clear y1 n1 
  generalize (upd G1 u1 (.tup [])) = G2 at *
  have y2 := Same.new n2 (.tup [])
  have t2 : TA K (upd G2 u2 (.tup [])) (.ref u2) .L := Dp.tup (SqT.here upd_same) .nil
  replace t1 := ta_mono (Tp.same y2) t1
  replace D0 := D0.same y2
  clear y2 n2 
  generalize (upd G2 u2 (.tup [])) = G3 at *
  have y3 := Same.new n3 (.tup [.ref u1, .ref u2])
  have t3 : TA K (upd G3 u3 (.tup [.ref u1, .ref u2])) (.ref u3) (.N .L .L) := Dp.tup (SqT.here upd_same) (.cons (ta_mono (Tp.same y3) t1) (.cons (ta_mono (Tp.same y3) t2) .nil))
  replace D0 := D0.same y3
  clear y3 n3 t1 t2
  generalize (upd G3 u3 (.tup [.ref u1, .ref u2])) = G4 at *
  have y4 := Same.new n4 (.tup [])
  have t4 : TA K (upd G4 u4 (.tup [])) (.ref u4) .L := Dp.tup (SqT.here upd_same) .nil
  replace t3 := ta_mono (Tp.same y4) t3
  replace D0 := D0.same y4
  clear y4 n4 
  generalize (upd G4 u4 (.tup [])) = G5 at *
  have y5 := Same.new n5 (.tup [.ref u3, .ref u4])
  have t5 : TA K (upd G5 u5 (.tup [.ref u3, .ref u4])) (.ref u5) (.N (.N .L .L) .L) := Dp.tup (SqT.here upd_same) (.cons (ta_mono (Tp.same y5) t3) (.cons (ta_mono (Tp.same y5) t4) .nil))
  replace D0 := D0.same y5
  clear y5 n5 t3 t4
  generalize (upd G5 u5 (.tup [.ref u3, .ref u4])) = G6 at *
  have y6 := Same.new n6 (.tup [])
  have t6 : TA K (upd G6 u6 (.tup [])) (.ref u6) .L := Dp.tup (SqT.here upd_same) .nil
  replace t5 := ta_mono (Tp.same y6) t5
  replace D0 := D0.same y6
  clear y6 n6 
  generalize (upd G6 u6 (.tup [])) = G7 at *
  have y7 := Same.new n7 (.tup [])
  have t7 : TA K (upd G7 u7 (.tup [])) (.ref u7) .L := Dp.tup (SqT.here upd_same) .nil
  replace t5 := ta_mono (Tp.same y7) t5
  replace t6 := ta_mono (Tp.same y7) t6
  replace D0 := D0.same y7
  clear y7 n7 
  generalize (upd G7 u7 (.tup [])) = G8 at *
  have y8 := Same.new n8 (.tup [.ref u6, .ref u7])
  have t8 : TA K (upd G8 u8 (.tup [.ref u6, .ref u7])) (.ref u8) (.N .L .L) := Dp.tup (SqT.here upd_same) (.cons (ta_mono (Tp.same y8) t6) (.cons (ta_mono (Tp.same y8) t7) .nil))
  replace t5 := ta_mono (Tp.same y8) t5
  replace D0 := D0.same y8
  clear y8 n8 t6 t7
  generalize (upd G8 u8 (.tup [.ref u6, .ref u7])) = G9 at *
  have y9 := Same.new n9 (.tup [])
  have t9 : TA K (upd G9 u9 (.tup [])) (.ref u9) .L := Dp.tup (SqT.here upd_same) .nil
  replace t5 := ta_mono (Tp.same y9) t5
  replace t8 := ta_mono (Tp.same y9) t8
  replace D0 := D0.same y9
  clear y9 n9 
  generalize (upd G9 u9 (.tup [])) = G10 at *
  have y10 := Same.new n10 (.tup [])
  have t10 : TA K (upd G10 u10 (.tup [])) (.ref u10) .L := Dp.tup (SqT.here upd_same) .nil
  replace t5 := ta_mono (Tp.same y10) t5
  replace t8 := ta_mono (Tp.same y10) t8
  replace t9 := ta_mono (Tp.same y10) t9
  replace D0 := D0.same y10
  clear y10 n10 
  generalize (upd G10 u10 (.tup [])) = G11 at *
  have y11 := Same.new n11 (.tup [.ref u9, .ref u10])
  have t11 : TA K (upd G11 u11 (.tup [.ref u9, .ref u10])) (.ref u11) (.N .L .L) := Dp.tup (SqT.here upd_same) (.cons (ta_mono (Tp.same y11) t9) (.cons (ta_mono (Tp.same y11) t10) .nil))
  replace t5 := ta_mono (Tp.same y11) t5
  replace t8 := ta_mono (Tp.same y11) t8
  replace D0 := D0.same y11
  clear y11 n11 t9 t10
  generalize (upd G11 u11 (.tup [.ref u9, .ref u10])) = G12 at *
  have y12 := Same.new n12 (.tup [.ref u8, .ref u11])
  have t12 : TA K (upd G12 u12 (.tup [.ref u8, .ref u11])) (.ref u12) (.N (.N .L .L) (.N .L .L)) := Dp.tup (SqT.here upd_same) (.cons (ta_mono (Tp.same y12) t8) (.cons (ta_mono (Tp.same y12) t11) .nil))
  replace t5 := ta_mono (Tp.same y12) t5
  replace D0 := D0.same y12
  clear y12 n12 t8 t11
  generalize (upd G12 u12 (.tup [.ref u8, .ref u11])) = G13 at *
  have y13 := Same.new n13 (.tup [.ref u5, .ref u12])
  have t13 : TA K (upd G13 u13 (.tup [.ref u5, .ref u12])) (.ref u13) (.N (.N (.N .L .L) .L) (.N (.N .L .L) (.N .L .L))) := Dp.tup (SqT.here upd_same) (.cons (ta_mono (Tp.same y13) t5) (.cons (ta_mono (Tp.same y13) t12) .nil))
  replace D0 := D0.same y13
  clear y13 n13 t5 t12
  generalize (upd G13 u13 (.tup [.ref u5, .ref u12])) = G14 at *
  have D : D10 [(Pt, lamQ)] K r cc gl us (List.replicate 12 ms10).flatten G14 := D0
  have a : TA K G14 (.ref u13) t10 := t13
  clear D0 t13
  generalize G14 = G at *
  have hrun : runS 0 t10 (List.replicate 12 ms10).flatten = .inv 2 := run10
  have hml : (List.replicate 12 ms10).flatten.length = 48 := by decide
  generalize (List.replicate 12 ms10).flatten = ms at *
  refine ⟨D.tb, fun G2 ex2 tb2 _ => ?_⟩
  have D2 := D.extN ex2 tb2
  have a2 := ta_mono (Tp.extN ex2) a
  clear D a ex2 tb2
  obtain ⟨j1, j2, j3⟩ := hNT a2 (by decide) (by decide)
  refine ⟨_, rfl, _, rfl, _, gl, t10.d, us, ms, rfl, j1, j2, .inl (SqL.here D2.L), D2.S, by omega, fun bad => absurd (j3.symm.trans bad) (by decide), fun t' et _ _ => ?_⟩
  cases d_inj et
  refine ⟨fun u hu => by rw [hrun] at hu; (cases hu), fun k hk e0 G3 s3 _ h0 => ?_, fun k hk => by rw [hrun] at hk; (cases hk)⟩
  obtain rfl : 2 = k := by
    rw [hrun] at hk
    injection hk
  refine wTry2 (D := CS) (nm := en 9) (v := .int ((2 : Nat) : Int)) Z.st rfl ⟨Z.x9.1, fun d ed => ⟨_, by cases ed; exact h0⟩, Z.x9.2.1⟩ Z.x9.2.2.1 (Z.x9.2.2.2 _ _ _ _ h0 rfl) fun e G4 s4 ne => ?_
  have s5 := Same.new ne (.tup [.str (en 9), .int ((2 : Nat) : Int)])
  have hE : XrA K (upd G4 e (.tup [.str (en 9), .int ((2 : Nat) : Int)])) (.ref e) (.inv 2) := ⟨e, rfl, SqT.here upd_same⟩
  have sA := s3.trans (s4.trans s5)
  have D5 := D2.same sA
  have a5 := ta_mono (Tp.same sA) a2
  clear D2 a2 sA s3 s4 s5 h0 j1 j2 j3 ne hk
  generalize (upd G4 e (.tup [.str (en 9), .int ((2 : Nat) : Int)])) = G5 at *
  refine ⟨_, rfl, _, rfl, _, gl, t10, us, ms, rfl, a5, by decide, ⟨3, by decide, .inr ⟨2, by decide, hrun⟩⟩, SqL.here D5.L, D5.S, by omega, fun u hu => by rw [hrun] at hu; (cases hu), fun k hk p G6 s6 hp => ?_, fun k hk => by rw [hrun] at hk; (cases hk)⟩
  obtain rfl : 2 = k := by
    rw [hrun] at hk
    injection hk
  have hd := xrD_depth (t := .L) (ms := [(some [true], true)]) (by decide)
  refine ⟨.ref e, .ref p, xrD (.inv 2), rfl, (hE.tp (Tp.same s6)).dp, XrA.dp (r := .inv 2) ⟨p, rfl, hp⟩, inv_shaped 2, Nat.lt_of_le_of_lt (inv_depth 2) (by decide), xrD_wide _, fun G7 s7 => ⟨_, rfl, iteF ?_⟩⟩
  have D7 := D5.same (s6.trans s7)
  have a7 := ta_mono (Tp.same (s6.trans s7)) a5
  clear D5 a5 s6 s7 hE hp
  -- no steps
  refine ⟨_, rfl, zero_le', fun el nel => ?_⟩
  have s8 := Same.new nel (.lst [])
  have D8 := D7.same s8
  have a8 := ta_mono (Tp.same s8) a7
  have hel : SqL K (upd G7 el (.lst [])) el [] := SqL.here upd_same
  clear D7 a7 s8 nel
  generalize (upd G7 el (.lst [])) = G8 at *
  obtain ⟨j1, j2, j3⟩ := hNT a8 (by decide) (by decide)
  refine ⟨rfl, rfl, _, el, t10.d, [], [], rfl, j1, j2, .inl hel, .nil, by decide, fun bad => absurd (j3.symm.trans bad) (by decide), fun t' et _ _ => ?_⟩
  cases d_inj et
  refine ⟨fun u hu y G9 s9 hy => ?_, (fun k hk => nomatch hk), (fun k hk => nomatch hk)⟩
  obtain rfl : t10 = u := by
    injection hu
  have D9 := D8.same s9
  have sh : SeqAt.shaped t10.d = true := Tree.shaped (by decide)
  refine ⟨_, rfl, t10.d, t10.d, hy, ta_mono (Tp.same s9) a8, sh, sh, _, rfl, ite_no (by rw [SeqAt.eqv_refl _ (SeqAt.canLay_of_shaped sh)]; rfl) ?_⟩
  clear D8 a8 s9 hy hel j1 j2 j3
  -- a term that is none
  refine ⟨D9.tb, fun G10 ex tb _ => ⟨zero_le', fun v1 m1 => ⟨one_le, fun v2 m2 => ⟨two_le, fun v3 m3 => ⟨one_le, fun v4 m4 => ?_⟩⟩⟩⟩⟩
  have y1 := Same.new m1 (.tup [])
  have y2 := Same.new m2 (.tup [.ref v1])
  have y3 := Same.new m3 (.tup [.str (Str.ofString "2"), .bl true])
  have y4 := Same.new m4 (.lst [.ref v3])
  have okB : okd (.tuple [.tuple []]) = false := by decide +kernel
  refine ⟨.ref v2, v4, .tuple [.tuple []], [.ref v3], [(none, true)], rfl, ⟨Dp.tup (SqT.here ((y3.trans y4) _ _ upd_same)) (.cons (Dp.tup (SqT.here ((y2.trans (y3.trans y4)) _ _ upd_same)) .nil) .nil), by decide +kernel, by decide +kernel⟩, by decide +kernel, .inl (SqL.here upd_same), .cons ⟨v3, _, rfl, SqT.here (y4 _ _ upd_same), ⟨by decide, .inl ⟨rfl, by decide +kernel⟩⟩, by decide +kernel⟩ .nil, by decide, fun _ G11 s11 => ?_, fun t' et hz' hd' => ?_⟩
  rotate_left
  · rw [et, tree_okd, decide_eq_true hd', decide_eq_true hz'] at okB
    cases okB
  refine wTry2 (D := CI) (nm := en 0) (v := .non) Z.st rfl ⟨Z.p0.1, fun d ed => (by cases ed), Z.p0.2.1⟩ Z.p0.2.2.1 (Z.p0.2.2.2 _) fun e2 G12 s12 ne2 => ⟨two_le, fun q5 nq5 => ?_⟩
  have z5 := Same.new nq5 (.tup [.str (Str.ofString "InvalidTerm"), .non])
  refine ⟨eD 0, eD 0, dp_eD (SqT.here (z5 _ _ upd_same)), dp_eD (SqT.here upd_same), eD_shaped 0 (by decide), eD_shaped 0 (by decide), ?_⟩
  rw [SeqAt.eqv_refl _ (SeqAt.canLay_of_shaped (eD_shaped 0 (by decide)))]
  exact q _
theorem kb_app {kV doc pm cd ct : Value} {an : Option Addr} : KBn K (PySem.W.fnOf "apply_steps" "apply_steps" (defArgs s_apply_steps) (defBody s_apply_steps) (defScope s_apply_steps) .none kV doc pm an cd ct) ["term", "steps"] 1 ["steps"] (fun us ws => us ++ ws) (fun vs zs => vs ++ zs) := by
  refine ⟨fun s us ws _ h1 h2 => ?_, fun r1 r2 => r1.append r2⟩
  match us, ws, h1, h2 with
  | [_], [_], _, _ => exact .of_eq rfl
theorem ok_law {Cp CI CP CN CR CL CS CT c Pt fI fP fM fG fS fA : Addr} {fdI fdP fdM fdG fdS fdA : FuncData} {tk tk2 tk3 : Tok} {cl : Nat → Addr} {word : Addr → Option Str} {fld : Addr → Option Addr → Hp → V → Prop} {oc dV kV doc pm ct : Value} {od an : Option Addr} {osl : Array (Option Value)} {g0 g1 g2 g3 g4 g5 g6 g7 g8 g9 g10 g11 g12 g13 g14 g15 g16 g17 g18 g19 g20 g21 g22 g23 g24 g25 g26 g27 g28 g29 g30 : Addr} {h0 h1 h2 h3 h4 h5 h6 h7 h8 h9 h10 h11 h12 h13 h14 h15 h16 h17 h18 h19 h20 h21 h22 h23 h24 h25 h26 h27 h28 h29 h30 : FuncData}
    (lk : K.lookup f = some ⟨oc, od, .func (PySem.W.fnOf "law" "law" (defArgs s_law) (defBody s_law) (defScope s_law) dV kV doc pm an (.ref c) ct), osl⟩) (hcd : PySem.W.codeIn K (.ref c) "law" = true) (TB : LamX.TabB base mg c Pt) (B : Blt mg) (C : Cst mg)
    (hwd : ∀ D nm, word D = some nm → ∃ j, Isw K cl D j ∧ nm = en j) (w_term : word CI = some (en 0)) (w_big : word CL = some (en 5)) (w_stp : word CS = some (en 9))
    (hfld : fld = fun D dd H v => (D = CI ∧ v = .non) ∨ (D = CL ∧ ∃ (e : Addr) (fs : List (Str × V)), dd = some e ∧ H e = some (.xd fs) ∧ fs.lookup ("size" : Str) = some v) ∨ (D = CS ∧ ∃ (e : Addr) (fs : List (Str × V)), dd = some e ∧ H e = some (.xd fs) ∧ fs.lookup ("position" : Str) = some v))
    (hx : ∀ D nm, word D = some nm → XfC K D ∧ PySem.W.findIn K (.ref D) "position" = some none ∧ PySem.W.findIn K (.ref D) "name" = some none ∧ PySem.W.findIn K (.ref D) "size" = some none ∧ PySem.W.findIn K (.ref D) "row" = some none)
    (M : Errs mg cl) (xc_term : ExcC K CI) (xc_big : ExcC K CL) (xc_stp : ExcC K CS) (xm_term : PySem.W.exmOne K (.ref CI) (.ref CT) = some true) (xm_big : PySem.W.exmOne K (.ref CL) (.ref CT) = some true) (xm_stp : PySem.W.exmOne K (.ref CS) (.ref CT) = some true)
    (EI : ErrC K mg "InvalidTerm" CI) (EP : ErrC K mg "InvalidPath" CP) (EN : ErrC K mg "PathNotFound" CN) (ER : ErrC K mg "NotRewritable" CR)
    (FLG : FunS P K mg "TooLarge" "TooLarge.__init__" s_TLInit ["self", "size"] CL fG fdG) (nG : PySem.W.findIn K (.ref CL) "size" = some none) (FLS : FunS P K mg "InvalidStep" "InvalidStep.__init__" s_ISInit ["self", "position"] CS fS fdS) (nS : PySem.W.findIn K (.ref CS) "position" = some none)
    (mP1 : PySem.W.exmAny K (.ref CP) [.ref CP, .ref CN, .ref CR] = some true) (mN1 : PySem.W.exmAny K (.ref CN) [.ref CP, .ref CN, .ref CR] = some true) (mR1 : PySem.W.exmAny K (.ref CR) [.ref CP, .ref CN, .ref CR] = some true)
    (mT : mg "TermError" = some (.ref CT)) (GEN : ∃ t, mg "GENERATOR" = some (.int 0 t)) (C_MAX_PATH : mg "MAX_PATH" = some (.int 60 tk)) (C_MAX_STEP_SIZE : mg "MAX_STEP_SIZE" = some (.int 2000 tk2)) (C_MAX_POOL : mg "MAX_POOL" = some (.int 20000 tk3))
    (T : PoolT K mg Cp) (MM : L2.Mk K Cp fI) (FI : Fun K "__init__" "Pool.__init__" s_PInit fI fdI) (bI : Binds K fdI ["self"] []) (FP : Fun K "pair" "Pool.pair" s_PPair fP fdP) (bP : Binds K fdP ["self", "left", "right"] []) (mP : Meth K Cp "pair" fP)
    (FN : Fun K "number_of" "Pool.number_of" s_PNum fM fdM) (bN : Binds K fdM ["self", "term"] []) (mN : Meth K Cp "number_of" fM)
    (kbA : KBn K fdA ["term", "steps"] 1 ["steps"] (fun us ws => us ++ ws) (fun vs zs => vs ++ zs)) (d_apply_steps : D K mg "apply_steps" s_apply_steps ["term", "steps"] fA fdA)
    (d__law_draws : D K mg "_law_draws" s__law_draws ["_law_script"] g0 h0) (d__law_draw : D K mg "_law_draw" s__law_draw ["_law_rng", "_law_amount"] g1 h1) (d__law_pick : D K mg "_law_pick" s__law_pick ["_law_rng", "_law_terms"] g2 h2) (d__law_same : D K mg "_law_same" s__law_same ["_law_result", "_law_expected_here"] g3 h3) (d__law_error_name : D K mg "_law_error_name" s__law_error_name ["_law_e"] g4 h4) (d__law_error_field : D K mg "_law_error_field" s__law_error_field ["_law_e", "_law_word"] g5 h5) (d__law_try : D K mg "_law_try" s__law_try ["_law_ask"] g6 h6) (d__law_term : D K mg "_law_term" s__law_term ["_law_rng", "_law_many", "_law_cap"] g7 h7) (d__law_comb : D K mg "_law_comb" s__law_comb ["_law_many", "_law_onleft"] g8 h8) (d__law_any_term : D K mg "_law_any_term" s__law_any_term ["_law_rng", "_law_top"] g9 h9) (d__law_size : D K mg "_law_size" s__law_size ["_law_term_here"] g10 h10) (d__law_paths : D K mg "_law_paths" s__law_paths ["_law_term_here", "_law_spot"] g11 h11) (d__law_subterm : D K mg "_law_subterm" s__law_subterm ["_law_term_here", "_law_spot"] g12 h12) (d__law_replace : D K mg "_law_replace" s__law_replace ["_law_term_here", "_law_spot", "_law_new"] g13 h13) (d__law_expanded : D K mg "_law_expanded" s__law_expanded ["_law_some"] g14 h14) (d__law_contracted : D K mg "_law_contracted" s__law_contracted ["_law_some"] g15 h15) (d__law_rewrite : D K mg "_law_rewrite" s__law_rewrite ["_law_term_here", "_law_spot", "_law_onward"] g16 h16) (d__law_steps : D K mg "_law_steps" s__law_steps ["_law_term_here"] g17 h17) (d__law_any_path : D K mg "_law_any_path" s__law_any_path ["_law_rng", "_law_term_here"] g18 h18) (d__law_invalid_path : D K mg "_law_invalid_path" s__law_invalid_path ["_law_rng"] g19 h19) (d__law_expected : D K mg "_law_expected" s__law_expected ["_law_term_here", "_law_rows"] g20 h20) (d__law_pair : D K mg "_law_pair" s__law_pair ["_law_rng", "_law_term_here"] g21 h21) (d_is_pair : D K mg "is_pair" s_is_pair ["part"] g22 h22) (d_is_term : D K mg "is_term" s_is_term ["term"] g23 h23) (d_check_term : D K mg "check_term" s_check_term ["term"] g24 h24) (d_check_path : D K mg "check_path" s_check_path ["path"] g25 h25) (d_numbers_along : D K mg "numbers_along" s_numbers_along ["pool", "number", "path"] g26 h26) (d_expanded : D K mg "expanded" s_expanded ["pool", "number"] g27 h27) (d_contracted : D K mg "contracted" s_contracted ["pool", "number"] g28 h28) (d_rewritten : D K mg "rewritten" s_rewritten ["pool", "number", "expanding"] g29 h29) (d_rewritten_at : D K mg "rewritten_at" s_rewritten_at ["pool", "number", "path", "expanding"] g30 h30) :
    FnOk P w K mg base CX0 80 f (PySem.W.fnOf "law" "law" (defArgs s_law) (defBody s_law) (defScope s_law) dV kV doc pm an (.ref c) ct) ["_law_script"] (spLawT K Pt) := by
  have GN := fun p1 : Unit => (ok__law_error_name (P := P) (w := w) (base := base) (CT := CT) d__law_error_name B M hwd).mono (by decide : 1 ≤ 3)
  have GF := fun p1 : Unit => (ok__law_error_field (P := P) (w := w) (base := base) (word := word) (fld := fld) d__law_error_field B hx fun D nm dd H v z y => by
    rw [hfld] at y
    rcases y with ⟨rfl, h1⟩ | ⟨rfl, e, fs, h1, h2, h3⟩ | ⟨rfl, e, fs, h1, h2, h3⟩
    · exact ⟨0, by decide, Option.some.inj (z.symm.trans w_term), .inl ⟨by decide, h1⟩⟩
    · exact ⟨5, by decide, Option.some.inj (z.symm.trans w_big), .inr ⟨e, fs, by decide, h1, h2, h3⟩⟩
    · exact ⟨9, by decide, Option.some.inj (z.symm.trans w_stp), .inr ⟨e, fs, by decide, h1, h2, h3⟩⟩).mono (by decide : 1 ≤ 3)
  have hfs : ∀ D dd H H' v, Same H H' → fld D dd H v → fld D dd H' v := fun D dd H H' v sm y => by
    rw [hfld] at y ⊢
    rcases y with y | ⟨a, e, fs, h1, h2, h3⟩ | ⟨a, e, fs, h1, h2, h3⟩
    · exact .inl (y)
    · exact .inr (.inl (⟨a, e, fs, h1, sm _ _ h2, h3⟩))
    · exact .inr (.inr (⟨a, e, fs, h1, sm _ _ h2, h3⟩))
  have Z : Cls10 K CT CI CL CS word fld := ⟨hfs, ⟨xc_term, xm_term, w_term, fun H => by rw [hfld]; exact .inl (⟨rfl, rfl⟩)⟩, ⟨xc_big, xm_big, w_big, fun H e fs v h1 h2 => by rw [hfld]; exact .inr (.inl (⟨rfl, e, fs, rfl, h1, h2⟩))⟩, ⟨xc_stp, xm_stp, w_stp, fun H e fs v h1 h2 => by rw [hfld]; exact .inr (.inr (⟨rfl, e, fs, rfl, h1, h2⟩))⟩⟩
  have Gap := ok_apply_steps (P := P) (w := w) (base := base) d_apply_steps T B C GEN C_MAX_PATH C_MAX_STEP_SIZE C_MAX_POOL EI EP EN ER FLG nG FLS nS mP1 mN1 mR1 MM FI bI FP bP mP FN bN mN d_is_pair d_is_term d_check_term d_check_path d_numbers_along d_expanded d_contracted d_rewritten d_rewritten_at
  have Gat := ok__law_any_termC (P := P) (w := w) (base := base) d__law_any_term B d__law_draw d__law_comb d__law_term
  have Gpr := ok__law_pair (P := P) (w := w) (base := base) d__law_pair B d__law_draw d__law_pick d__law_invalid_path d__law_any_path d__law_steps d__law_paths d__law_rewrite d__law_subterm d__law_expanded d__law_replace d__law_contracted
  have Gex := ok__law_expected (P := P) (w := w) (base := base) d__law_expected B d__law_size d__law_rewrite d__law_subterm d__law_expanded d__law_replace d__law_contracted
  have G := ok_law10 lk hcd TB B Z mT d__law_draws d__law_draw d__law_pick d__law_same d__law_any_term d__law_size d__law_pair d__law_expected d__law_error_name d__law_error_field d__law_try d_apply_steps kbA Gat Gpr Gex (GN ()) (GF ()) Gap
  exact G.imp fun vs H Q E ⟨a, ns, hv, hS, hP, q⟩ => ⟨a, ns, hv, hS, tabs1 hP, q⟩

end
theorem kit_own {K : PySem.W.Frag} {C c : Addr} {b : Bool} (ne : (Value.ref C == Value.ref c) = false) (h1 : PySem.W.isClsIn K c = true) (h2 : PySem.W.typeIn K (.ref c) = some (.type "type")) (h3 : PySem.W.subIn K (.ref C) (.ref c) = some b) : PySem.W.kitOne K (.ref C) (.ref c) = some b := by
  have e2 : ((PySem.W.clsIn K c).isSome && PySem.W.typeIn K (.ref c) == some (.type "type")) = true := by
    have h1' : (PySem.W.clsIn K c).isSome = true := h1
    rw [h1', h2] <;> rfl
  unfold PySem.W.kitOne
  rw [ne, if_neg (by decide)]
  show (if ((PySem.W.clsIn K c).isSome && PySem.W.typeIn K (.ref c) == some (.type "type")) = true then PySem.W.subIn K (.ref C) (.ref c) else none) = some b
  rw [if_pos e2]
  exact h3
theorem codeHd_mk {K : PySem.W.Frag} {cL Pt : Addr} {edL : Option Addr} {vsL : Array Value} {slL : Array (Option Value)} {f18 : Str} {t18 t7 t10 : Tok} {i7 i10 : Int} {b9 : Bool} (lC : K.lookup cL = some ⟨.type "code", edL, .fields vsL, slL⟩) (h11 : vsL[11]? = some (.ref Pt)) (h18 : vsL.getD 18 .none = .str f18 t18)
    (h7 : vsL.getD 7 .none = .int i7 t7) (h9 : vsL.getD 9 .none = .bool b9) (h10 : vsL.getD 10 .none = .int i10 t10) (ne : (cL != Pt) = true) : PySem.W.codeHdIn K cL Pt = true := by
  unfold PySem.W.codeHdIn
  rw [lC]
  simp only [h11, h18, h7, h9, h10, ne, beq_self_eq_true, Bool.and_true, Bool.and_self]
theorem exmAny_mk {K : PySem.W.Frag} {cls c : Value} {r : List Value} {b d : Bool} (h1 : PySem.W.exmOne K cls c = some b) (h2 : PySem.W.exmAny K cls r = some d) : PySem.W.exmAny K cls (c :: r) = some (b || d) := by
  unfold PySem.W.exmAny
  rw [h1, h2]
set_option maxHeartbeats 0 in
theorem all_mk {l : PySem.W.OpenLaw} {w : World} {K : PySem.W.Frag} {h : Heap} {mg : Str → Option Value} {fa : Addr} (X : K.In h) (G : h.Ns mainGlobals mg) (hfa : mg "law" = some (.ref fa)) 
    {g0 g1 g2 g3 g4 g5 g6 g7 g8 g9 g10 g11 g12 g13 g14 g15 g16 g17 g18 g19 g20 g21 g22 g23 g24 g25 g26 g27 g28 g29 g30 g31 g32 : Addr}
    {od0 an0 od1 an1 od2 an2 od3 an3 od4 an4 od5 an5 od6 an6 od7 an7 od8 an8 od9 an9 od10 an10 od11 an11 od12 an12 od13 an13 od14 an14 od15 an15 od16 an16 od17 an17 od18 an18 od19 an19 od20 an20 od21 an21 od22 an22 od23 an23 od24 an24 od25 an25 od26 an26 od27 an27 od28 an28 od29 an29 od30 an30 od31 an31 od32 an32 : Option Addr}
    {sl0 sl1 sl2 sl3 sl4 sl5 sl6 sl7 sl8 sl9 sl10 sl11 sl12 sl13 sl14 sl15 sl16 sl17 sl18 sl19 sl20 sl21 sl22 sl23 sl24 sl25 sl26 sl27 sl28 sl29 sl30 sl31 sl32 : Array (Option Value)}
    {oc0 kV0 dc0 pm0 cd0 ct0 oc1 kV1 dc1 pm1 cd1 ct1 oc2 kV2 dc2 pm2 cd2 ct2 oc3 kV3 dc3 pm3 cd3 ct3 oc4 kV4 dc4 pm4 cd4 ct4 oc5 kV5 dc5 pm5 cd5 ct5 oc6 kV6 dc6 pm6 cd6 ct6 oc7 kV7 dc7 pm7 cd7 ct7 oc8 kV8 dc8 pm8 cd8 ct8 oc9 kV9 dc9 pm9 cd9 ct9 oc10 kV10 dc10 pm10 cd10 ct10 oc11 kV11 dc11 pm11 cd11 ct11 oc12 kV12 dc12 pm12 cd12 ct12 oc13 kV13 dc13 pm13 cd13 ct13 oc14 kV14 dc14 pm14 cd14 ct14 oc15 kV15 dc15 pm15 cd15 ct15 oc16 kV16 dc16 pm16 cd16 ct16 oc17 kV17 dc17 pm17 cd17 ct17 oc18 kV18 dc18 pm18 cd18 ct18 oc19 kV19 dc19 pm19 cd19 ct19 oc20 kV20 dc20 pm20 cd20 ct20 oc21 kV21 dc21 pm21 cd21 ct21 oc22 kV22 dc22 pm22 cd22 ct22 oc23 kV23 dc23 pm23 cd23 ct23 oc24 kV24 dc24 pm24 cd24 ct24 oc25 kV25 dc25 pm25 cd25 ct25 oc26 kV26 dc26 pm26 cd26 ct26 oc27 kV27 dc27 pm27 cd27 ct27 oc28 kV28 dc28 pm28 cd28 ct28 oc29 kV29 dc29 pm29 cd29 ct29 oc30 kV30 dc30 pm30 cd30 ct30 oc31 kV31 dc31 pm31 cd31 ct31 oc32 kV32 dc32 pm32 ct32 : Value}
    {cL Pt CT : Addr} {f18 : Str} {t18 t7 t10 : Tok} {i7 i10 : Int} {b9 : Bool} {edL : Option Addr} {vsL : Array Value} {slL : Array (Option Value)}
    {tc_MAX_SIZE : Tok}
    {tc_MAX_DEPTH : Tok}
    {tc_GENERATOR : Tok}
    {tc_MAX_PATH : Tok}
    {tc_MAX_STEP_SIZE : Tok}
    {tc_MAX_POOL : Tok}
    {x0 x1 x2 x3 x4 x5 x6 x7 x8 x9 x10 x11 x12 x13 x14 x15 x16 x17 x18 x19 : Addr}
    {tf5 tcd5 tcc5 tN5 : Addr} {to5 tkV5 tdc5 tpm5 tct5 tcl5 tccl5 : Value} {td5 tan5 tcdd5 tccd5 tdd5 : Option Addr} {tsl5 tcs5 tccs5 : Array (Option Value)} {tcv5 : Array Value} {tfile5 tnm5 tq5 : Str} {tft5 : Tok} {tbs5 tbm5 tsub5 : List Value} {tsn5 : List Str} {tab5 : Bool} {tcol5 : Option Bool} {tk0_5 tk1_5 tk2_5 tk3_5 tk5_5 : Option Value}
    {tf9 tcd9 tcc9 tN9 : Addr} {to9 tkV9 tdc9 tpm9 tct9 tcl9 tccl9 : Value} {td9 tan9 tcdd9 tccd9 tdd9 : Option Addr} {tsl9 tcs9 tccs9 : Array (Option Value)} {tcv9 : Array Value} {tfile9 tnm9 tq9 : Str} {tft9 : Tok} {tbs9 tbm9 tsub9 : List Value} {tsn9 : List Str} {tab9 : Bool} {tcol9 : Option Bool} {tk0_9 tk1_9 tk2_9 tk3_9 tk5_9 : Option Value}
    {Cp m0 m1 m2 : Addr} {mod0 man0 mod1 man1 mod2 man2 : Option Addr} {msl0 msl1 msl2 : Array (Option Value)} {moc0 mkV0 mdc0 mpm0 mcd0 mct0 moc1 mkV1 mdc1 mpm1 mcd1 mct1 moc2 mkV2 mdc2 mpm2 mcd2 mct2 : Value}
    (a0 : PySem.W.nsIn K mainGlobals "is_pair" = some (some (.ref g0)))
    (l0 : K.lookup g0 = some ⟨oc0, od0, .func (PySem.W.fnOf "is_pair" "is_pair" (defArgs s_is_pair) (defBody s_is_pair) (defScope s_is_pair) .none kV0 dc0 pm0 an0 cd0 ct0), sl0⟩)
    (c0 : PySem.W.codeIn K cd0 "is_pair" = true)
    (k0 : PySem.W.keepIn K (.ref g0) = true)
    (a1 : PySem.W.nsIn K mainGlobals "is_term" = some (some (.ref g1)))
    (l1 : K.lookup g1 = some ⟨oc1, od1, .func (PySem.W.fnOf "is_term" "is_term" (defArgs s_is_term) (defBody s_is_term) (defScope s_is_term) .none kV1 dc1 pm1 an1 cd1 ct1), sl1⟩)
    (c1 : PySem.W.codeIn K cd1 "is_term" = true)
    (k1 : PySem.W.keepIn K (.ref g1) = true)
    (a2 : PySem.W.nsIn K mainGlobals "check_term" = some (some (.ref g2)))
    (l2 : K.lookup g2 = some ⟨oc2, od2, .func (PySem.W.fnOf "check_term" "check_term" (defArgs s_check_term) (defBody s_check_term) (defScope s_check_term) .none kV2 dc2 pm2 an2 cd2 ct2), sl2⟩)
    (c2 : PySem.W.codeIn K cd2 "check_term" = true)
    (k2 : PySem.W.keepIn K (.ref g2) = true)
    (a3 : PySem.W.nsIn K mainGlobals "check_path" = some (some (.ref g3)))
    (l3 : K.lookup g3 = some ⟨oc3, od3, .func (PySem.W.fnOf "check_path" "check_path" (defArgs s_check_path) (defBody s_check_path) (defScope s_check_path) .none kV3 dc3 pm3 an3 cd3 ct3), sl3⟩)
    (c3 : PySem.W.codeIn K cd3 "check_path" = true)
    (k3 : PySem.W.keepIn K (.ref g3) = true)
    (a4 : PySem.W.nsIn K mainGlobals "numbers_along" = some (some (.ref g4)))
    (l4 : K.lookup g4 = some ⟨oc4, od4, .func (PySem.W.fnOf "numbers_along" "numbers_along" (defArgs s_numbers_along) (defBody s_numbers_along) (defScope s_numbers_along) .none kV4 dc4 pm4 an4 cd4 ct4), sl4⟩)
    (c4 : PySem.W.codeIn K cd4 "numbers_along" = true)
    (k4 : PySem.W.keepIn K (.ref g4) = true)
    (a5 : PySem.W.nsIn K mainGlobals "expanded" = some (some (.ref g5)))
    (l5 : K.lookup g5 = some ⟨oc5, od5, .func (PySem.W.fnOf "expanded" "expanded" (defArgs s_expanded) (defBody s_expanded) (defScope s_expanded) .none kV5 dc5 pm5 an5 cd5 ct5), sl5⟩)
    (c5 : PySem.W.codeIn K cd5 "expanded" = true)
    (k5 : PySem.W.keepIn K (.ref g5) = true)
    (a6 : PySem.W.nsIn K mainGlobals "contracted" = some (some (.ref g6)))
    (l6 : K.lookup g6 = some ⟨oc6, od6, .func (PySem.W.fnOf "contracted" "contracted" (defArgs s_contracted) (defBody s_contracted) (defScope s_contracted) .none kV6 dc6 pm6 an6 cd6 ct6), sl6⟩)
    (c6 : PySem.W.codeIn K cd6 "contracted" = true)
    (k6 : PySem.W.keepIn K (.ref g6) = true)
    (a7 : PySem.W.nsIn K mainGlobals "rewritten" = some (some (.ref g7)))
    (l7 : K.lookup g7 = some ⟨oc7, od7, .func (PySem.W.fnOf "rewritten" "rewritten" (defArgs s_rewritten) (defBody s_rewritten) (defScope s_rewritten) .none kV7 dc7 pm7 an7 cd7 ct7), sl7⟩)
    (c7 : PySem.W.codeIn K cd7 "rewritten" = true)
    (k7 : PySem.W.keepIn K (.ref g7) = true)
    (a8 : PySem.W.nsIn K mainGlobals "rewritten_at" = some (some (.ref g8)))
    (l8 : K.lookup g8 = some ⟨oc8, od8, .func (PySem.W.fnOf "rewritten_at" "rewritten_at" (defArgs s_rewritten_at) (defBody s_rewritten_at) (defScope s_rewritten_at) .none kV8 dc8 pm8 an8 cd8 ct8), sl8⟩)
    (c8 : PySem.W.codeIn K cd8 "rewritten_at" = true)
    (k8 : PySem.W.keepIn K (.ref g8) = true)
    (a9 : PySem.W.nsIn K mainGlobals "apply_steps" = some (some (.ref g9)))
    (l9 : K.lookup g9 = some ⟨oc9, od9, .func (PySem.W.fnOf "apply_steps" "apply_steps" (defArgs s_apply_steps) (defBody s_apply_steps) (defScope s_apply_steps) .none kV9 dc9 pm9 an9 cd9 ct9), sl9⟩)
    (c9 : PySem.W.codeIn K cd9 "apply_steps" = true)
    (k9 : PySem.W.keepIn K (.ref g9) = true)
    (a10 : PySem.W.nsIn K mainGlobals "_law_draws" = some (some (.ref g10)))
    (l10 : K.lookup g10 = some ⟨oc10, od10, .func (PySem.W.fnOf "_law_draws" "_law_draws" (defArgs s__law_draws) (defBody s__law_draws) (defScope s__law_draws) .none kV10 dc10 pm10 an10 cd10 ct10), sl10⟩)
    (c10 : PySem.W.codeIn K cd10 "_law_draws" = true)
    (k10 : PySem.W.keepIn K (.ref g10) = true)
    (a11 : PySem.W.nsIn K mainGlobals "_law_draw" = some (some (.ref g11)))
    (l11 : K.lookup g11 = some ⟨oc11, od11, .func (PySem.W.fnOf "_law_draw" "_law_draw" (defArgs s__law_draw) (defBody s__law_draw) (defScope s__law_draw) .none kV11 dc11 pm11 an11 cd11 ct11), sl11⟩)
    (c11 : PySem.W.codeIn K cd11 "_law_draw" = true)
    (k11 : PySem.W.keepIn K (.ref g11) = true)
    (a12 : PySem.W.nsIn K mainGlobals "_law_pick" = some (some (.ref g12)))
    (l12 : K.lookup g12 = some ⟨oc12, od12, .func (PySem.W.fnOf "_law_pick" "_law_pick" (defArgs s__law_pick) (defBody s__law_pick) (defScope s__law_pick) .none kV12 dc12 pm12 an12 cd12 ct12), sl12⟩)
    (c12 : PySem.W.codeIn K cd12 "_law_pick" = true)
    (k12 : PySem.W.keepIn K (.ref g12) = true)
    (a13 : PySem.W.nsIn K mainGlobals "_law_same" = some (some (.ref g13)))
    (l13 : K.lookup g13 = some ⟨oc13, od13, .func (PySem.W.fnOf "_law_same" "_law_same" (defArgs s__law_same) (defBody s__law_same) (defScope s__law_same) .none kV13 dc13 pm13 an13 cd13 ct13), sl13⟩)
    (c13 : PySem.W.codeIn K cd13 "_law_same" = true)
    (k13 : PySem.W.keepIn K (.ref g13) = true)
    (a14 : PySem.W.nsIn K mainGlobals "_law_error_name" = some (some (.ref g14)))
    (l14 : K.lookup g14 = some ⟨oc14, od14, .func (PySem.W.fnOf "_law_error_name" "_law_error_name" (defArgs s__law_error_name) (defBody s__law_error_name) (defScope s__law_error_name) .none kV14 dc14 pm14 an14 cd14 ct14), sl14⟩)
    (c14 : PySem.W.codeIn K cd14 "_law_error_name" = true)
    (k14 : PySem.W.keepIn K (.ref g14) = true)
    (a15 : PySem.W.nsIn K mainGlobals "_law_error_field" = some (some (.ref g15)))
    (l15 : K.lookup g15 = some ⟨oc15, od15, .func (PySem.W.fnOf "_law_error_field" "_law_error_field" (defArgs s__law_error_field) (defBody s__law_error_field) (defScope s__law_error_field) .none kV15 dc15 pm15 an15 cd15 ct15), sl15⟩)
    (c15 : PySem.W.codeIn K cd15 "_law_error_field" = true)
    (k15 : PySem.W.keepIn K (.ref g15) = true)
    (a16 : PySem.W.nsIn K mainGlobals "_law_term" = some (some (.ref g16)))
    (l16 : K.lookup g16 = some ⟨oc16, od16, .func (PySem.W.fnOf "_law_term" "_law_term" (defArgs s__law_term) (defBody s__law_term) (defScope s__law_term) .none kV16 dc16 pm16 an16 cd16 ct16), sl16⟩)
    (c16 : PySem.W.codeIn K cd16 "_law_term" = true)
    (k16 : PySem.W.keepIn K (.ref g16) = true)
    (a17 : PySem.W.nsIn K mainGlobals "_law_comb" = some (some (.ref g17)))
    (l17 : K.lookup g17 = some ⟨oc17, od17, .func (PySem.W.fnOf "_law_comb" "_law_comb" (defArgs s__law_comb) (defBody s__law_comb) (defScope s__law_comb) .none kV17 dc17 pm17 an17 cd17 ct17), sl17⟩)
    (c17 : PySem.W.codeIn K cd17 "_law_comb" = true)
    (k17 : PySem.W.keepIn K (.ref g17) = true)
    (a18 : PySem.W.nsIn K mainGlobals "_law_any_term" = some (some (.ref g18)))
    (l18 : K.lookup g18 = some ⟨oc18, od18, .func (PySem.W.fnOf "_law_any_term" "_law_any_term" (defArgs s__law_any_term) (defBody s__law_any_term) (defScope s__law_any_term) .none kV18 dc18 pm18 an18 cd18 ct18), sl18⟩)
    (c18 : PySem.W.codeIn K cd18 "_law_any_term" = true)
    (k18 : PySem.W.keepIn K (.ref g18) = true)
    (a19 : PySem.W.nsIn K mainGlobals "_law_size" = some (some (.ref g19)))
    (l19 : K.lookup g19 = some ⟨oc19, od19, .func (PySem.W.fnOf "_law_size" "_law_size" (defArgs s__law_size) (defBody s__law_size) (defScope s__law_size) .none kV19 dc19 pm19 an19 cd19 ct19), sl19⟩)
    (c19 : PySem.W.codeIn K cd19 "_law_size" = true)
    (k19 : PySem.W.keepIn K (.ref g19) = true)
    (a20 : PySem.W.nsIn K mainGlobals "_law_paths" = some (some (.ref g20)))
    (l20 : K.lookup g20 = some ⟨oc20, od20, .func (PySem.W.fnOf "_law_paths" "_law_paths" (defArgs s__law_paths) (defBody s__law_paths) (defScope s__law_paths) .none kV20 dc20 pm20 an20 cd20 ct20), sl20⟩)
    (c20 : PySem.W.codeIn K cd20 "_law_paths" = true)
    (k20 : PySem.W.keepIn K (.ref g20) = true)
    (a21 : PySem.W.nsIn K mainGlobals "_law_subterm" = some (some (.ref g21)))
    (l21 : K.lookup g21 = some ⟨oc21, od21, .func (PySem.W.fnOf "_law_subterm" "_law_subterm" (defArgs s__law_subterm) (defBody s__law_subterm) (defScope s__law_subterm) .none kV21 dc21 pm21 an21 cd21 ct21), sl21⟩)
    (c21 : PySem.W.codeIn K cd21 "_law_subterm" = true)
    (k21 : PySem.W.keepIn K (.ref g21) = true)
    (a22 : PySem.W.nsIn K mainGlobals "_law_replace" = some (some (.ref g22)))
    (l22 : K.lookup g22 = some ⟨oc22, od22, .func (PySem.W.fnOf "_law_replace" "_law_replace" (defArgs s__law_replace) (defBody s__law_replace) (defScope s__law_replace) .none kV22 dc22 pm22 an22 cd22 ct22), sl22⟩)
    (c22 : PySem.W.codeIn K cd22 "_law_replace" = true)
    (k22 : PySem.W.keepIn K (.ref g22) = true)
    (a23 : PySem.W.nsIn K mainGlobals "_law_expanded" = some (some (.ref g23)))
    (l23 : K.lookup g23 = some ⟨oc23, od23, .func (PySem.W.fnOf "_law_expanded" "_law_expanded" (defArgs s__law_expanded) (defBody s__law_expanded) (defScope s__law_expanded) .none kV23 dc23 pm23 an23 cd23 ct23), sl23⟩)
    (c23 : PySem.W.codeIn K cd23 "_law_expanded" = true)
    (k23 : PySem.W.keepIn K (.ref g23) = true)
    (a24 : PySem.W.nsIn K mainGlobals "_law_contracted" = some (some (.ref g24)))
    (l24 : K.lookup g24 = some ⟨oc24, od24, .func (PySem.W.fnOf "_law_contracted" "_law_contracted" (defArgs s__law_contracted) (defBody s__law_contracted) (defScope s__law_contracted) .none kV24 dc24 pm24 an24 cd24 ct24), sl24⟩)
    (c24 : PySem.W.codeIn K cd24 "_law_contracted" = true)
    (k24 : PySem.W.keepIn K (.ref g24) = true)
    (a25 : PySem.W.nsIn K mainGlobals "_law_rewrite" = some (some (.ref g25)))
    (l25 : K.lookup g25 = some ⟨oc25, od25, .func (PySem.W.fnOf "_law_rewrite" "_law_rewrite" (defArgs s__law_rewrite) (defBody s__law_rewrite) (defScope s__law_rewrite) .none kV25 dc25 pm25 an25 cd25 ct25), sl25⟩)
    (c25 : PySem.W.codeIn K cd25 "_law_rewrite" = true)
    (k25 : PySem.W.keepIn K (.ref g25) = true)
    (a26 : PySem.W.nsIn K mainGlobals "_law_steps" = some (some (.ref g26)))
    (l26 : K.lookup g26 = some ⟨oc26, od26, .func (PySem.W.fnOf "_law_steps" "_law_steps" (defArgs s__law_steps) (defBody s__law_steps) (defScope s__law_steps) .none kV26 dc26 pm26 an26 cd26 ct26), sl26⟩)
    (c26 : PySem.W.codeIn K cd26 "_law_steps" = true)
    (k26 : PySem.W.keepIn K (.ref g26) = true)
    (a27 : PySem.W.nsIn K mainGlobals "_law_any_path" = some (some (.ref g27)))
    (l27 : K.lookup g27 = some ⟨oc27, od27, .func (PySem.W.fnOf "_law_any_path" "_law_any_path" (defArgs s__law_any_path) (defBody s__law_any_path) (defScope s__law_any_path) .none kV27 dc27 pm27 an27 cd27 ct27), sl27⟩)
    (c27 : PySem.W.codeIn K cd27 "_law_any_path" = true)
    (k27 : PySem.W.keepIn K (.ref g27) = true)
    (a28 : PySem.W.nsIn K mainGlobals "_law_invalid_path" = some (some (.ref g28)))
    (l28 : K.lookup g28 = some ⟨oc28, od28, .func (PySem.W.fnOf "_law_invalid_path" "_law_invalid_path" (defArgs s__law_invalid_path) (defBody s__law_invalid_path) (defScope s__law_invalid_path) .none kV28 dc28 pm28 an28 cd28 ct28), sl28⟩)
    (c28 : PySem.W.codeIn K cd28 "_law_invalid_path" = true)
    (k28 : PySem.W.keepIn K (.ref g28) = true)
    (a29 : PySem.W.nsIn K mainGlobals "_law_expected" = some (some (.ref g29)))
    (l29 : K.lookup g29 = some ⟨oc29, od29, .func (PySem.W.fnOf "_law_expected" "_law_expected" (defArgs s__law_expected) (defBody s__law_expected) (defScope s__law_expected) .none kV29 dc29 pm29 an29 cd29 ct29), sl29⟩)
    (c29 : PySem.W.codeIn K cd29 "_law_expected" = true)
    (k29 : PySem.W.keepIn K (.ref g29) = true)
    (a30 : PySem.W.nsIn K mainGlobals "_law_pair" = some (some (.ref g30)))
    (l30 : K.lookup g30 = some ⟨oc30, od30, .func (PySem.W.fnOf "_law_pair" "_law_pair" (defArgs s__law_pair) (defBody s__law_pair) (defScope s__law_pair) .none kV30 dc30 pm30 an30 cd30 ct30), sl30⟩)
    (c30 : PySem.W.codeIn K cd30 "_law_pair" = true)
    (k30 : PySem.W.keepIn K (.ref g30) = true)
    (a31 : PySem.W.nsIn K mainGlobals "_law_try" = some (some (.ref g31)))
    (l31 : K.lookup g31 = some ⟨oc31, od31, .func (PySem.W.fnOf "_law_try" "_law_try" (defArgs s__law_try) (defBody s__law_try) (defScope s__law_try) .none kV31 dc31 pm31 an31 cd31 ct31), sl31⟩)
    (c31 : PySem.W.codeIn K cd31 "_law_try" = true)
    (k31 : PySem.W.keepIn K (.ref g31) = true)
    (a32 : PySem.W.nsIn K mainGlobals "law" = some (some (.ref g32)))
    (l32 : K.lookup g32 = some ⟨oc32, od32, .func (PySem.W.fnOf "law" "law" (defArgs s_law) (defBody s_law) (defScope s_law) .none kV32 dc32 pm32 an32 (.ref cL) ct32), sl32⟩)
    (c32 : PySem.W.codeIn K (.ref cL) "law" = true)
    (k32 : PySem.W.keepIn K (.ref g32) = true)
    (z_len : PySem.W.nsIn K mainGlobals "len" = some none)
    (z_list : PySem.W.nsIn K mainGlobals "list" = some none)
    (z_tuple : PySem.W.nsIn K mainGlobals "tuple" = some none)
    (z_dict : PySem.W.nsIn K mainGlobals "dict" = some none)
    (z_bool : PySem.W.nsIn K mainGlobals "bool" = some none)
    (z_isinstance : PySem.W.nsIn K mainGlobals "isinstance" = some none)
    (z_max : PySem.W.nsIn K mainGlobals "max" = some none)
    (z_min : PySem.W.nsIn K mainGlobals "min" = some none)
    (z_range : PySem.W.nsIn K mainGlobals "range" = some none)
    (z_all : PySem.W.nsIn K mainGlobals "all" = some none)
    (z_sorted : PySem.W.nsIn K mainGlobals "sorted" = some none)
    (z_enumerate : PySem.W.nsIn K mainGlobals "enumerate" = some none)
    (z_sum : PySem.W.nsIn K mainGlobals "sum" = some none)
    (z_str : PySem.W.nsIn K mainGlobals "str" = some none)
    (z_int : PySem.W.nsIn K mainGlobals "int" = some none)
    (q_MAX_SIZE : PySem.W.nsIn K mainGlobals "MAX_SIZE" = some (some (.int 12 tc_MAX_SIZE)))
    (q_MAX_DEPTH : PySem.W.nsIn K mainGlobals "MAX_DEPTH" = some (some (.int 6 tc_MAX_DEPTH)))
    (q_GENERATOR : PySem.W.nsIn K mainGlobals "GENERATOR" = some (some (.int 0 tc_GENERATOR)))
    (q_MAX_PATH : PySem.W.nsIn K mainGlobals "MAX_PATH" = some (some (.int 60 tc_MAX_PATH)))
    (q_MAX_STEP_SIZE : PySem.W.nsIn K mainGlobals "MAX_STEP_SIZE" = some (some (.int 2000 tc_MAX_STEP_SIZE)))
    (q_MAX_POOL : PySem.W.nsIn K mainGlobals "MAX_POOL" = some (some (.int 20000 tc_MAX_POOL)))
    (lC : K.lookup cL = some ⟨.type "code", edL, .fields vsL, slL⟩)
    (lP11 : vsL[11]? = some (.ref Pt))
    (nP : K.lookup Pt = none)
    (v18 : vsL.getD 18 .none = .str f18 t18)
    (v7 : vsL.getD 7 .none = .int i7 t7)
    (v9 : vsL.getD 9 .none = .bool b9)
    (v10 : vsL.getD 10 .none = .int i10 t10)
    (vne : (cL != Pt) = true)
    (aT : PySem.W.nsIn K mainGlobals "TermError" = some (some (.ref CT)))
    (ax0 : PySem.W.nsIn K mainGlobals "InvalidTerm" = some (some (.ref x0)))
    (ax1 : PySem.W.nsIn K mainGlobals "InvalidText" = some (some (.ref x1)))
    (ax2 : PySem.W.nsIn K mainGlobals "InvalidPath" = some (some (.ref x2)))
    (ax3 : PySem.W.nsIn K mainGlobals "PathNotFound" = some (some (.ref x3)))
    (ax4 : PySem.W.nsIn K mainGlobals "NotRewritable" = some (some (.ref x4)))
    (ax5 : PySem.W.nsIn K mainGlobals "TooLarge" = some (some (.ref x5)))
    (ax6 : PySem.W.nsIn K mainGlobals "InvalidSize" = some (some (.ref x6)))
    (ax7 : PySem.W.nsIn K mainGlobals "InvalidIndex" = some (some (.ref x7)))
    (ax8 : PySem.W.nsIn K mainGlobals "InvalidWord" = some (some (.ref x8)))
    (ax9 : PySem.W.nsIn K mainGlobals "InvalidStep" = some (some (.ref x9)))
    (ax10 : PySem.W.nsIn K mainGlobals "InvalidElement" = some (some (.ref x10)))
    (ax11 : PySem.W.nsIn K mainGlobals "InvalidModel" = some (some (.ref x11)))
    (ax12 : PySem.W.nsIn K mainGlobals "NestingTooDeep" = some (some (.ref x12)))
    (ax13 : PySem.W.nsIn K mainGlobals "InvalidLabel" = some (some (.ref x13)))
    (ax14 : PySem.W.nsIn K mainGlobals "DuplicateName" = some (some (.ref x14)))
    (ax15 : PySem.W.nsIn K mainGlobals "UnknownName" = some (some (.ref x15)))
    (ax16 : PySem.W.nsIn K mainGlobals "LimitReached" = some (some (.ref x16)))
    (ax17 : PySem.W.nsIn K mainGlobals "InvalidCommand" = some (some (.ref x17)))
    (ax18 : PySem.W.nsIn K mainGlobals "EmptyHistory" = some (some (.ref x18)))
    (ax19 : PySem.W.nsIn K mainGlobals "InvalidSnapshot" = some (some (.ref x19)))
    (ki0 : PySem.W.isClsIn K x0 = true)
    (ky0 : PySem.W.typeIn K (.ref x0) = some (.type "type"))
    (ki1 : PySem.W.isClsIn K x1 = true)
    (ky1 : PySem.W.typeIn K (.ref x1) = some (.type "type"))
    (ki2 : PySem.W.isClsIn K x2 = true)
    (ky2 : PySem.W.typeIn K (.ref x2) = some (.type "type"))
    (ki3 : PySem.W.isClsIn K x3 = true)
    (ky3 : PySem.W.typeIn K (.ref x3) = some (.type "type"))
    (ki4 : PySem.W.isClsIn K x4 = true)
    (ky4 : PySem.W.typeIn K (.ref x4) = some (.type "type"))
    (ki5 : PySem.W.isClsIn K x5 = true)
    (ky5 : PySem.W.typeIn K (.ref x5) = some (.type "type"))
    (ki6 : PySem.W.isClsIn K x6 = true)
    (ky6 : PySem.W.typeIn K (.ref x6) = some (.type "type"))
    (ki7 : PySem.W.isClsIn K x7 = true)
    (ky7 : PySem.W.typeIn K (.ref x7) = some (.type "type"))
    (ki8 : PySem.W.isClsIn K x8 = true)
    (ky8 : PySem.W.typeIn K (.ref x8) = some (.type "type"))
    (ki9 : PySem.W.isClsIn K x9 = true)
    (ky9 : PySem.W.typeIn K (.ref x9) = some (.type "type"))
    (ki10 : PySem.W.isClsIn K x10 = true)
    (ky10 : PySem.W.typeIn K (.ref x10) = some (.type "type"))
    (ki11 : PySem.W.isClsIn K x11 = true)
    (ky11 : PySem.W.typeIn K (.ref x11) = some (.type "type"))
    (ki12 : PySem.W.isClsIn K x12 = true)
    (ky12 : PySem.W.typeIn K (.ref x12) = some (.type "type"))
    (ki13 : PySem.W.isClsIn K x13 = true)
    (ky13 : PySem.W.typeIn K (.ref x13) = some (.type "type"))
    (ki14 : PySem.W.isClsIn K x14 = true)
    (ky14 : PySem.W.typeIn K (.ref x14) = some (.type "type"))
    (ki15 : PySem.W.isClsIn K x15 = true)
    (ky15 : PySem.W.typeIn K (.ref x15) = some (.type "type"))
    (ki16 : PySem.W.isClsIn K x16 = true)
    (ky16 : PySem.W.typeIn K (.ref x16) = some (.type "type"))
    (ki17 : PySem.W.isClsIn K x17 = true)
    (ky17 : PySem.W.typeIn K (.ref x17) = some (.type "type"))
    (ki18 : PySem.W.isClsIn K x18 = true)
    (ky18 : PySem.W.typeIn K (.ref x18) = some (.type "type"))
    (ki19 : PySem.W.isClsIn K x19 = true)
    (ky19 : PySem.W.typeIn K (.ref x19) = some (.type "type"))
    (xn : PySem.W.specialIn K (.builtin "object.__class__") "__get__" = some (some (.builtin "getset_descriptor.__get__")))
    (xt : PySem.W.takesIn K (.builtin "object.__class__") = some true)
    (ye : PySem.W.subIn K (.ref CT) (.type "BaseException") = some true)
    (yd : PySem.W.hasDictIn K CT = true)
    (yt : PySem.W.typeIn K (.ref CT) = some (.type "type"))
    (kn0_1 : (Value.ref x0 == Value.ref x1) = false)
    (ks0_1 : PySem.W.subIn K (.ref x0) (.ref x1) = some false)
    (kn0_2 : (Value.ref x0 == Value.ref x2) = false)
    (ks0_2 : PySem.W.subIn K (.ref x0) (.ref x2) = some false)
    (kn0_3 : (Value.ref x0 == Value.ref x3) = false)
    (ks0_3 : PySem.W.subIn K (.ref x0) (.ref x3) = some false)
    (kn0_4 : (Value.ref x0 == Value.ref x4) = false)
    (ks0_4 : PySem.W.subIn K (.ref x0) (.ref x4) = some false)
    (kn0_5 : (Value.ref x0 == Value.ref x5) = false)
    (ks0_5 : PySem.W.subIn K (.ref x0) (.ref x5) = some false)
    (kn0_6 : (Value.ref x0 == Value.ref x6) = false)
    (ks0_6 : PySem.W.subIn K (.ref x0) (.ref x6) = some false)
    (kn0_7 : (Value.ref x0 == Value.ref x7) = false)
    (ks0_7 : PySem.W.subIn K (.ref x0) (.ref x7) = some false)
    (kn0_8 : (Value.ref x0 == Value.ref x8) = false)
    (ks0_8 : PySem.W.subIn K (.ref x0) (.ref x8) = some false)
    (kn0_9 : (Value.ref x0 == Value.ref x9) = false)
    (ks0_9 : PySem.W.subIn K (.ref x0) (.ref x9) = some false)
    (kn0_10 : (Value.ref x0 == Value.ref x10) = false)
    (ks0_10 : PySem.W.subIn K (.ref x0) (.ref x10) = some false)
    (kn0_11 : (Value.ref x0 == Value.ref x11) = false)
    (ks0_11 : PySem.W.subIn K (.ref x0) (.ref x11) = some false)
    (kn0_12 : (Value.ref x0 == Value.ref x12) = false)
    (ks0_12 : PySem.W.subIn K (.ref x0) (.ref x12) = some false)
    (kn0_13 : (Value.ref x0 == Value.ref x13) = false)
    (ks0_13 : PySem.W.subIn K (.ref x0) (.ref x13) = some false)
    (kn0_14 : (Value.ref x0 == Value.ref x14) = false)
    (ks0_14 : PySem.W.subIn K (.ref x0) (.ref x14) = some false)
    (kn0_15 : (Value.ref x0 == Value.ref x15) = false)
    (ks0_15 : PySem.W.subIn K (.ref x0) (.ref x15) = some false)
    (kn0_16 : (Value.ref x0 == Value.ref x16) = false)
    (ks0_16 : PySem.W.subIn K (.ref x0) (.ref x16) = some false)
    (kn0_17 : (Value.ref x0 == Value.ref x17) = false)
    (ks0_17 : PySem.W.subIn K (.ref x0) (.ref x17) = some false)
    (kn0_18 : (Value.ref x0 == Value.ref x18) = false)
    (ks0_18 : PySem.W.subIn K (.ref x0) (.ref x18) = some false)
    (kn0_19 : (Value.ref x0 == Value.ref x19) = false)
    (ks0_19 : PySem.W.subIn K (.ref x0) (.ref x19) = some false)
    (xg0 : PySem.W.findIn K (.ref x0) "__getattribute__" = some (some (.builtin "BaseException.__getattribute__")))
    (xk0 : PySem.W.findIn K (.ref x0) "__getattr__" = some none)
    (xd0 : PySem.W.hasDictIn K x0 = true)
    (xa0 : PySem.W.findIn K (.ref x0) "__class__" = some (some (.builtin "object.__class__")))
    (xm0 : PySem.W.mroIn K x0 (.type "object") = some true)
    (ys0 : PySem.W.subIn K (.ref x0) (.ref CT) = some true)
    (kn5_0 : (Value.ref x5 == Value.ref x0) = false)
    (ks5_0 : PySem.W.subIn K (.ref x5) (.ref x0) = some false)
    (kn5_1 : (Value.ref x5 == Value.ref x1) = false)
    (ks5_1 : PySem.W.subIn K (.ref x5) (.ref x1) = some false)
    (kn5_2 : (Value.ref x5 == Value.ref x2) = false)
    (ks5_2 : PySem.W.subIn K (.ref x5) (.ref x2) = some false)
    (kn5_3 : (Value.ref x5 == Value.ref x3) = false)
    (ks5_3 : PySem.W.subIn K (.ref x5) (.ref x3) = some false)
    (kn5_4 : (Value.ref x5 == Value.ref x4) = false)
    (ks5_4 : PySem.W.subIn K (.ref x5) (.ref x4) = some false)
    (kn5_6 : (Value.ref x5 == Value.ref x6) = false)
    (ks5_6 : PySem.W.subIn K (.ref x5) (.ref x6) = some false)
    (kn5_7 : (Value.ref x5 == Value.ref x7) = false)
    (ks5_7 : PySem.W.subIn K (.ref x5) (.ref x7) = some false)
    (kn5_8 : (Value.ref x5 == Value.ref x8) = false)
    (ks5_8 : PySem.W.subIn K (.ref x5) (.ref x8) = some false)
    (kn5_9 : (Value.ref x5 == Value.ref x9) = false)
    (ks5_9 : PySem.W.subIn K (.ref x5) (.ref x9) = some false)
    (kn5_10 : (Value.ref x5 == Value.ref x10) = false)
    (ks5_10 : PySem.W.subIn K (.ref x5) (.ref x10) = some false)
    (kn5_11 : (Value.ref x5 == Value.ref x11) = false)
    (ks5_11 : PySem.W.subIn K (.ref x5) (.ref x11) = some false)
    (kn5_12 : (Value.ref x5 == Value.ref x12) = false)
    (ks5_12 : PySem.W.subIn K (.ref x5) (.ref x12) = some false)
    (kn5_13 : (Value.ref x5 == Value.ref x13) = false)
    (ks5_13 : PySem.W.subIn K (.ref x5) (.ref x13) = some false)
    (kn5_14 : (Value.ref x5 == Value.ref x14) = false)
    (ks5_14 : PySem.W.subIn K (.ref x5) (.ref x14) = some false)
    (kn5_15 : (Value.ref x5 == Value.ref x15) = false)
    (ks5_15 : PySem.W.subIn K (.ref x5) (.ref x15) = some false)
    (kn5_16 : (Value.ref x5 == Value.ref x16) = false)
    (ks5_16 : PySem.W.subIn K (.ref x5) (.ref x16) = some false)
    (kn5_17 : (Value.ref x5 == Value.ref x17) = false)
    (ks5_17 : PySem.W.subIn K (.ref x5) (.ref x17) = some false)
    (kn5_18 : (Value.ref x5 == Value.ref x18) = false)
    (ks5_18 : PySem.W.subIn K (.ref x5) (.ref x18) = some false)
    (kn5_19 : (Value.ref x5 == Value.ref x19) = false)
    (ks5_19 : PySem.W.subIn K (.ref x5) (.ref x19) = some false)
    (xg5 : PySem.W.findIn K (.ref x5) "__getattribute__" = some (some (.builtin "BaseException.__getattribute__")))
    (xk5 : PySem.W.findIn K (.ref x5) "__getattr__" = some none)
    (xd5 : PySem.W.hasDictIn K x5 = true)
    (xa5 : PySem.W.findIn K (.ref x5) "__class__" = some (some (.builtin "object.__class__")))
    (xm5 : PySem.W.mroIn K x5 (.type "object") = some true)
    (ys5 : PySem.W.subIn K (.ref x5) (.ref CT) = some true)
    (kn9_0 : (Value.ref x9 == Value.ref x0) = false)
    (ks9_0 : PySem.W.subIn K (.ref x9) (.ref x0) = some false)
    (kn9_1 : (Value.ref x9 == Value.ref x1) = false)
    (ks9_1 : PySem.W.subIn K (.ref x9) (.ref x1) = some false)
    (kn9_2 : (Value.ref x9 == Value.ref x2) = false)
    (ks9_2 : PySem.W.subIn K (.ref x9) (.ref x2) = some false)
    (kn9_3 : (Value.ref x9 == Value.ref x3) = false)
    (ks9_3 : PySem.W.subIn K (.ref x9) (.ref x3) = some false)
    (kn9_4 : (Value.ref x9 == Value.ref x4) = false)
    (ks9_4 : PySem.W.subIn K (.ref x9) (.ref x4) = some false)
    (kn9_5 : (Value.ref x9 == Value.ref x5) = false)
    (ks9_5 : PySem.W.subIn K (.ref x9) (.ref x5) = some false)
    (kn9_6 : (Value.ref x9 == Value.ref x6) = false)
    (ks9_6 : PySem.W.subIn K (.ref x9) (.ref x6) = some false)
    (kn9_7 : (Value.ref x9 == Value.ref x7) = false)
    (ks9_7 : PySem.W.subIn K (.ref x9) (.ref x7) = some false)
    (kn9_8 : (Value.ref x9 == Value.ref x8) = false)
    (ks9_8 : PySem.W.subIn K (.ref x9) (.ref x8) = some false)
    (kn9_10 : (Value.ref x9 == Value.ref x10) = false)
    (ks9_10 : PySem.W.subIn K (.ref x9) (.ref x10) = some false)
    (kn9_11 : (Value.ref x9 == Value.ref x11) = false)
    (ks9_11 : PySem.W.subIn K (.ref x9) (.ref x11) = some false)
    (kn9_12 : (Value.ref x9 == Value.ref x12) = false)
    (ks9_12 : PySem.W.subIn K (.ref x9) (.ref x12) = some false)
    (kn9_13 : (Value.ref x9 == Value.ref x13) = false)
    (ks9_13 : PySem.W.subIn K (.ref x9) (.ref x13) = some false)
    (kn9_14 : (Value.ref x9 == Value.ref x14) = false)
    (ks9_14 : PySem.W.subIn K (.ref x9) (.ref x14) = some false)
    (kn9_15 : (Value.ref x9 == Value.ref x15) = false)
    (ks9_15 : PySem.W.subIn K (.ref x9) (.ref x15) = some false)
    (kn9_16 : (Value.ref x9 == Value.ref x16) = false)
    (ks9_16 : PySem.W.subIn K (.ref x9) (.ref x16) = some false)
    (kn9_17 : (Value.ref x9 == Value.ref x17) = false)
    (ks9_17 : PySem.W.subIn K (.ref x9) (.ref x17) = some false)
    (kn9_18 : (Value.ref x9 == Value.ref x18) = false)
    (ks9_18 : PySem.W.subIn K (.ref x9) (.ref x18) = some false)
    (kn9_19 : (Value.ref x9 == Value.ref x19) = false)
    (ks9_19 : PySem.W.subIn K (.ref x9) (.ref x19) = some false)
    (xg9 : PySem.W.findIn K (.ref x9) "__getattribute__" = some (some (.builtin "BaseException.__getattribute__")))
    (xk9 : PySem.W.findIn K (.ref x9) "__getattr__" = some none)
    (xd9 : PySem.W.hasDictIn K x9 = true)
    (xa9 : PySem.W.findIn K (.ref x9) "__class__" = some (some (.builtin "object.__class__")))
    (xm9 : PySem.W.mroIn K x9 (.type "object") = some true)
    (ys9 : PySem.W.subIn K (.ref x9) (.ref CT) = some true)
    (xs0 : PySem.W.subIn K (.ref x0) (.type "BaseException") = some true)
    (xs2 : PySem.W.subIn K (.ref x2) (.type "BaseException") = some true)
    (xs3 : PySem.W.subIn K (.ref x3) (.type "BaseException") = some true)
    (xs4 : PySem.W.subIn K (.ref x4) (.type "BaseException") = some true)
    (xs5 : PySem.W.subIn K (.ref x5) (.type "BaseException") = some true)
    (xs9 : PySem.W.subIn K (.ref x9) (.type "BaseException") = some true)
    (xq0 : PySem.W.excIn K x0 [.type "ValueError", .type "Exception", .type "BaseException", .type "object"] "ValueError.__new__" = true)
    (xkp0 : PySem.W.keepIn K (.ref x0) = true)
    (xq2 : PySem.W.excIn K x2 [.type "ValueError", .type "Exception", .type "BaseException", .type "object"] "ValueError.__new__" = true)
    (xkp2 : PySem.W.keepIn K (.ref x2) = true)
    (xq3 : PySem.W.excIn K x3 [.type "ValueError", .type "Exception", .type "BaseException", .type "object"] "ValueError.__new__" = true)
    (xkp3 : PySem.W.keepIn K (.ref x3) = true)
    (xq4 : PySem.W.excIn K x4 [.type "ValueError", .type "Exception", .type "BaseException", .type "object"] "ValueError.__new__" = true)
    (xkp4 : PySem.W.keepIn K (.ref x4) = true)
    (xf0_position : PySem.W.findIn K (.ref x0) "position" = some none)
    (xf0_name : PySem.W.findIn K (.ref x0) "name" = some none)
    (xf0_size : PySem.W.findIn K (.ref x0) "size" = some none)
    (xf0_row : PySem.W.findIn K (.ref x0) "row" = some none)
    (xf5_position : PySem.W.findIn K (.ref x5) "position" = some none)
    (xf5_name : PySem.W.findIn K (.ref x5) "name" = some none)
    (xf5_size : PySem.W.findIn K (.ref x5) "size" = some none)
    (xf5_row : PySem.W.findIn K (.ref x5) "row" = some none)
    (xf9_position : PySem.W.findIn K (.ref x9) "position" = some none)
    (xf9_name : PySem.W.findIn K (.ref x9) "name" = some none)
    (xf9_size : PySem.W.findIn K (.ref x9) "size" = some none)
    (xf9_row : PySem.W.findIn K (.ref x9) "row" = some none)
    (z_super : PySem.W.nsIn K mainGlobals "super" = some none)
    (tany : PySem.W.nsIn K cStatics "thirdparty.any" = some none)
    (ttop : (l.prog.main.scope.names.lookup ("super" : Str)).isSome = false)
    (ti5 : PySem.W.findIn K (.ref x5) "__init__" = some (some (.ref tf5)))
    (tt5 : PySem.W.typeIn K (.ref tf5) = some (.type "function"))
    (tl5 : K.lookup tf5 = some ⟨to5, td5, .func (PySem.W.ksFn "__init__" "TooLarge.__init__" (defArgs s_TLInit) (defBody s_TLInit) (defScope s_TLInit) .none tkV5 tdc5 tpm5 tan5 (.ref tcd5) tct5 tcc5), tsl5⟩)
    (tci5 : PySem.W.codeIn K (.ref tcd5) "TooLarge.__init__" = true)
    (tco5 : K.lookup tcd5 = some ⟨tcl5, tcdd5, .fields tcv5, tcs5⟩)
    (tcf5 : tcv5[2]? = some (.str tfile5 tft5))
    (tpf5 : ((l.prog.main.file : Str) == tfile5) = true)
    (tce5 : K.lookup tcc5 = some ⟨tccl5, tccd5, .cell (some (.ref x5)), tccs5⟩)
    (tlk5 : K.lookup x5 = some (excClassObj tnm5 tq5 x5 tN5 tbs5 tbm5 true tsn5 tsub5 tab5 tcol5 tdd5 tk0_5 tk1_5 tk2_5 tk3_5 tk5_5 "ValueError.__new__"))
    (tre5 : PySem.HandSPX.refsVE tbm5 = true)
    (tsa5 : PySem.W.findIn K (.ref x5) "__setattr__" = some (some (.builtin "object.__setattr__")))
    (tkp5 : PySem.W.keepIn K (.ref x5) = true)
    (tmr5 : PySem.W.mroIn K x5 (.ref x5) = some true)
    (tks5 : PySem.W.ks_superIn K x5 x5 "__init__" = some (some (.builtin "ValueError.__init__")))
    (tva5 : PySem.W.subIn K (.ref x5) (.type "ValueError") = some true)
    (ti9 : PySem.W.findIn K (.ref x9) "__init__" = some (some (.ref tf9)))
    (tt9 : PySem.W.typeIn K (.ref tf9) = some (.type "function"))
    (tl9 : K.lookup tf9 = some ⟨to9, td9, .func (PySem.W.ksFn "__init__" "InvalidStep.__init__" (defArgs s_ISInit) (defBody s_ISInit) (defScope s_ISInit) .none tkV9 tdc9 tpm9 tan9 (.ref tcd9) tct9 tcc9), tsl9⟩)
    (tci9 : PySem.W.codeIn K (.ref tcd9) "InvalidStep.__init__" = true)
    (tco9 : K.lookup tcd9 = some ⟨tcl9, tcdd9, .fields tcv9, tcs9⟩)
    (tcf9 : tcv9[2]? = some (.str tfile9 tft9))
    (tpf9 : ((l.prog.main.file : Str) == tfile9) = true)
    (tce9 : K.lookup tcc9 = some ⟨tccl9, tccd9, .cell (some (.ref x9)), tccs9⟩)
    (tlk9 : K.lookup x9 = some (excClassObj tnm9 tq9 x9 tN9 tbs9 tbm9 true tsn9 tsub9 tab9 tcol9 tdd9 tk0_9 tk1_9 tk2_9 tk3_9 tk5_9 "ValueError.__new__"))
    (tre9 : PySem.HandSPX.refsVE tbm9 = true)
    (tsa9 : PySem.W.findIn K (.ref x9) "__setattr__" = some (some (.builtin "object.__setattr__")))
    (tkp9 : PySem.W.keepIn K (.ref x9) = true)
    (tmr9 : PySem.W.mroIn K x9 (.ref x9) = some true)
    (tks9 : PySem.W.ks_superIn K x9 x9 "__init__" = some (some (.builtin "ValueError.__init__")))
    (tva9 : PySem.W.subIn K (.ref x9) (.type "ValueError") = some true)
    (aC : PySem.W.nsIn K mainGlobals "Pool" = some (some (.ref Cp)))
    (ma0 : PySem.W.findIn K (.ref Cp) "__init__" = some (some (.ref m0)))
    (mi0 : PySem.W.isFn K (.ref m0) = true)
    (ml0 : K.lookup m0 = some ⟨moc0, mod0, .func (PySem.W.fnOf "__init__" "Pool.__init__" (defArgs s_PInit) (defBody s_PInit) (defScope s_PInit) .none mkV0 mdc0 mpm0 man0 mcd0 mct0), msl0⟩)
    (mc0 : PySem.W.codeIn K mcd0 "Pool.__init__" = true)
    (mk0 : PySem.W.keepIn K (.ref m0) = true)
    (ma1 : PySem.W.findIn K (.ref Cp) "pair" = some (some (.ref m1)))
    (mi1 : PySem.W.isFn K (.ref m1) = true)
    (ml1 : K.lookup m1 = some ⟨moc1, mod1, .func (PySem.W.fnOf "pair" "Pool.pair" (defArgs s_PPair) (defBody s_PPair) (defScope s_PPair) .none mkV1 mdc1 mpm1 man1 mcd1 mct1), msl1⟩)
    (mc1 : PySem.W.codeIn K mcd1 "Pool.pair" = true)
    (mk1 : PySem.W.keepIn K (.ref m1) = true)
    (ma2 : PySem.W.findIn K (.ref Cp) "number_of" = some (some (.ref m2)))
    (mi2 : PySem.W.isFn K (.ref m2) = true)
    (ml2 : K.lookup m2 = some ⟨moc2, mod2, .func (PySem.W.fnOf "number_of" "Pool.number_of" (defArgs s_PNum) (defBody s_PNum) (defScope s_PNum) .none mkV2 mdc2 mpm2 man2 mcd2 mct2), msl2⟩)
    (mc2 : PySem.W.codeIn K mcd2 "Pool.number_of" = true)
    (mk2 : PySem.W.keepIn K (.ref m2) = true)
    (cpg : PySem.W.plainGet K Cp Str.empty = true)
    (chd : PySem.W.hasDictIn K Cp = true)
    (cpo : PySem.W.plainOver K Cp = true)
    (csa : PySem.W.findIn K (.ref Cp) "__setattr__" = some (some (.builtin "object.__setattr__")))
    (cmk : PySem.W.makesIn K Cp = true)
    (ckc : PySem.W.keepIn K (.ref Cp) = true)
    (cn0 : PySem.W.findIn K (.ref Cp) "numbers" = some none)
    (cn1 : PySem.W.findIn K (.ref Cp) "pairs" = some none)
    (cn2 : PySem.W.findIn K (.ref Cp) "sizes" = some none)
    (cn3 : PySem.W.findIn K (.ref Cp) "terms" = some none)
    (hdA0 : PySem.W.hasDictIn K x2 = true)
    (hdA1 : PySem.W.hasDictIn K x3 = true)
    (hdA2 : PySem.W.hasDictIn K x4 = true)
    (sbA0_0 : PySem.W.subIn K (.ref x2) (.ref x2) = some true)
    (sbA0_1 : PySem.W.subIn K (.ref x2) (.ref x3) = some false)
    (sbA0_2 : PySem.W.subIn K (.ref x2) (.ref x4) = some false)
    (sbA1_0 : PySem.W.subIn K (.ref x3) (.ref x2) = some false)
    (sbA1_1 : PySem.W.subIn K (.ref x3) (.ref x3) = some true)
    (sbA1_2 : PySem.W.subIn K (.ref x3) (.ref x4) = some false)
    (sbA2_0 : PySem.W.subIn K (.ref x4) (.ref x2) = some false)
    (sbA2_1 : PySem.W.subIn K (.ref x4) (.ref x3) = some false)
    (sbA2_2 : PySem.W.subIn K (.ref x4) (.ref x4) = some true) (tT_L : h.get? Pt = some { cls := .none, data := .fields #[] }) :
    LamX.LawAtS l w K CX0 80 63 "_law_script" mg fa h := by
  have e := hfa.symm.trans (PySem.W.mg_of X G a32)
  cases e
  have F0 := fun_mk (st := s_is_pair) l0 c0 k0
  have d_is_pair : D K mg "is_pair" s_is_pair ["part"] _ _ := ⟨F0, F0.binds (ps := ["part"]) fun _ _ _ _ _ _ us hl => match us, hl with | [_], _ => rfl, PySem.W.mg_of X G a0⟩
  have F1 := fun_mk (st := s_is_term) l1 c1 k1
  have d_is_term : D K mg "is_term" s_is_term ["term"] _ _ := ⟨F1, F1.binds (ps := ["term"]) fun _ _ _ _ _ _ us hl => match us, hl with | [_], _ => rfl, PySem.W.mg_of X G a1⟩
  have F2 := fun_mk (st := s_check_term) l2 c2 k2
  have d_check_term : D K mg "check_term" s_check_term ["term"] _ _ := ⟨F2, F2.binds (ps := ["term"]) fun _ _ _ _ _ _ us hl => match us, hl with | [_], _ => rfl, PySem.W.mg_of X G a2⟩
  have F3 := fun_mk (st := s_check_path) l3 c3 k3
  have d_check_path : D K mg "check_path" s_check_path ["path"] _ _ := ⟨F3, F3.binds (ps := ["path"]) fun _ _ _ _ _ _ us hl => match us, hl with | [_], _ => rfl, PySem.W.mg_of X G a3⟩
  have F4 := fun_mk (st := s_numbers_along) l4 c4 k4
  have d_numbers_along : D K mg "numbers_along" s_numbers_along ["pool", "number", "path"] _ _ := ⟨F4, F4.binds (ps := ["pool", "number", "path"]) fun _ _ _ _ _ _ us hl => match us, hl with | [_, _, _], _ => rfl, PySem.W.mg_of X G a4⟩
  have F5 := fun_mk (st := s_expanded) l5 c5 k5
  have d_expanded : D K mg "expanded" s_expanded ["pool", "number"] _ _ := ⟨F5, F5.binds (ps := ["pool", "number"]) fun _ _ _ _ _ _ us hl => match us, hl with | [_, _], _ => rfl, PySem.W.mg_of X G a5⟩
  have F6 := fun_mk (st := s_contracted) l6 c6 k6
  have d_contracted : D K mg "contracted" s_contracted ["pool", "number"] _ _ := ⟨F6, F6.binds (ps := ["pool", "number"]) fun _ _ _ _ _ _ us hl => match us, hl with | [_, _], _ => rfl, PySem.W.mg_of X G a6⟩
  have F7 := fun_mk (st := s_rewritten) l7 c7 k7
  have d_rewritten : D K mg "rewritten" s_rewritten ["pool", "number", "expanding"] _ _ := ⟨F7, F7.binds (ps := ["pool", "number", "expanding"]) fun _ _ _ _ _ _ us hl => match us, hl with | [_, _, _], _ => rfl, PySem.W.mg_of X G a7⟩
  have F8 := fun_mk (st := s_rewritten_at) l8 c8 k8
  have d_rewritten_at : D K mg "rewritten_at" s_rewritten_at ["pool", "number", "path", "expanding"] _ _ := ⟨F8, F8.binds (ps := ["pool", "number", "path", "expanding"]) fun _ _ _ _ _ _ us hl => match us, hl with | [_, _, _, _], _ => rfl, PySem.W.mg_of X G a8⟩
  have F9 := fun_mk (st := s_apply_steps) l9 c9 k9
  have d_apply_steps : D K mg "apply_steps" s_apply_steps ["term", "steps"] _ _ := ⟨F9, F9.binds (ps := ["term", "steps"]) fun _ _ _ _ _ _ us hl => match us, hl with | [_, _], _ => rfl, PySem.W.mg_of X G a9⟩
  have F10 := fun_mk (st := s__law_draws) l10 c10 k10
  have d__law_draws : D K mg "_law_draws" s__law_draws ["_law_script"] _ _ := ⟨F10, F10.binds (ps := ["_law_script"]) fun _ _ _ _ _ _ us hl => match us, hl with | [_], _ => rfl, PySem.W.mg_of X G a10⟩
  have F11 := fun_mk (st := s__law_draw) l11 c11 k11
  have d__law_draw : D K mg "_law_draw" s__law_draw ["_law_rng", "_law_amount"] _ _ := ⟨F11, F11.binds (ps := ["_law_rng", "_law_amount"]) fun _ _ _ _ _ _ us hl => match us, hl with | [_, _], _ => rfl, PySem.W.mg_of X G a11⟩
  have F12 := fun_mk (st := s__law_pick) l12 c12 k12
  have d__law_pick : D K mg "_law_pick" s__law_pick ["_law_rng", "_law_terms"] _ _ := ⟨F12, F12.binds (ps := ["_law_rng", "_law_terms"]) fun _ _ _ _ _ _ us hl => match us, hl with | [_, _], _ => rfl, PySem.W.mg_of X G a12⟩
  have F13 := fun_mk (st := s__law_same) l13 c13 k13
  have d__law_same : D K mg "_law_same" s__law_same ["_law_result", "_law_expected_here"] _ _ := ⟨F13, F13.binds (ps := ["_law_result", "_law_expected_here"]) fun _ _ _ _ _ _ us hl => match us, hl with | [_, _], _ => rfl, PySem.W.mg_of X G a13⟩
  have F14 := fun_mk (st := s__law_error_name) l14 c14 k14
  have d__law_error_name : D K mg "_law_error_name" s__law_error_name ["_law_e"] _ _ := ⟨F14, F14.binds (ps := ["_law_e"]) fun _ _ _ _ _ _ us hl => match us, hl with | [_], _ => rfl, PySem.W.mg_of X G a14⟩
  have F15 := fun_mk (st := s__law_error_field) l15 c15 k15
  have d__law_error_field : D K mg "_law_error_field" s__law_error_field ["_law_e", "_law_word"] _ _ := ⟨F15, F15.binds (ps := ["_law_e", "_law_word"]) fun _ _ _ _ _ _ us hl => match us, hl with | [_, _], _ => rfl, PySem.W.mg_of X G a15⟩
  have F16 := fun_mk (st := s__law_term) l16 c16 k16
  have d__law_term : D K mg "_law_term" s__law_term ["_law_rng", "_law_many", "_law_cap"] _ _ := ⟨F16, F16.binds (ps := ["_law_rng", "_law_many", "_law_cap"]) fun _ _ _ _ _ _ us hl => match us, hl with | [_, _, _], _ => rfl, PySem.W.mg_of X G a16⟩
  have F17 := fun_mk (st := s__law_comb) l17 c17 k17
  have d__law_comb : D K mg "_law_comb" s__law_comb ["_law_many", "_law_onleft"] _ _ := ⟨F17, F17.binds (ps := ["_law_many", "_law_onleft"]) fun _ _ _ _ _ _ us hl => match us, hl with | [_, _], _ => rfl, PySem.W.mg_of X G a17⟩
  have F18 := fun_mk (st := s__law_any_term) l18 c18 k18
  have d__law_any_term : D K mg "_law_any_term" s__law_any_term ["_law_rng", "_law_top"] _ _ := ⟨F18, F18.binds (ps := ["_law_rng", "_law_top"]) fun _ _ _ _ _ _ us hl => match us, hl with | [_, _], _ => rfl, PySem.W.mg_of X G a18⟩
  have F19 := fun_mk (st := s__law_size) l19 c19 k19
  have d__law_size : D K mg "_law_size" s__law_size ["_law_term_here"] _ _ := ⟨F19, F19.binds (ps := ["_law_term_here"]) fun _ _ _ _ _ _ us hl => match us, hl with | [_], _ => rfl, PySem.W.mg_of X G a19⟩
  have F20 := fun_mk (st := s__law_paths) l20 c20 k20
  have d__law_paths : D K mg "_law_paths" s__law_paths ["_law_term_here", "_law_spot"] _ _ := ⟨F20, F20.binds (ps := ["_law_term_here", "_law_spot"]) fun _ _ _ _ _ _ us hl => match us, hl with | [_, _], _ => rfl, PySem.W.mg_of X G a20⟩
  have F21 := fun_mk (st := s__law_subterm) l21 c21 k21
  have d__law_subterm : D K mg "_law_subterm" s__law_subterm ["_law_term_here", "_law_spot"] _ _ := ⟨F21, F21.binds (ps := ["_law_term_here", "_law_spot"]) fun _ _ _ _ _ _ us hl => match us, hl with | [_, _], _ => rfl, PySem.W.mg_of X G a21⟩
  have F22 := fun_mk (st := s__law_replace) l22 c22 k22
  have d__law_replace : D K mg "_law_replace" s__law_replace ["_law_term_here", "_law_spot", "_law_new"] _ _ := ⟨F22, F22.binds (ps := ["_law_term_here", "_law_spot", "_law_new"]) fun _ _ _ _ _ _ us hl => match us, hl with | [_, _, _], _ => rfl, PySem.W.mg_of X G a22⟩
  have F23 := fun_mk (st := s__law_expanded) l23 c23 k23
  have d__law_expanded : D K mg "_law_expanded" s__law_expanded ["_law_some"] _ _ := ⟨F23, F23.binds (ps := ["_law_some"]) fun _ _ _ _ _ _ us hl => match us, hl with | [_], _ => rfl, PySem.W.mg_of X G a23⟩
  have F24 := fun_mk (st := s__law_contracted) l24 c24 k24
  have d__law_contracted : D K mg "_law_contracted" s__law_contracted ["_law_some"] _ _ := ⟨F24, F24.binds (ps := ["_law_some"]) fun _ _ _ _ _ _ us hl => match us, hl with | [_], _ => rfl, PySem.W.mg_of X G a24⟩
  have F25 := fun_mk (st := s__law_rewrite) l25 c25 k25
  have d__law_rewrite : D K mg "_law_rewrite" s__law_rewrite ["_law_term_here", "_law_spot", "_law_onward"] _ _ := ⟨F25, F25.binds (ps := ["_law_term_here", "_law_spot", "_law_onward"]) fun _ _ _ _ _ _ us hl => match us, hl with | [_, _, _], _ => rfl, PySem.W.mg_of X G a25⟩
  have F26 := fun_mk (st := s__law_steps) l26 c26 k26
  have d__law_steps : D K mg "_law_steps" s__law_steps ["_law_term_here"] _ _ := ⟨F26, F26.binds (ps := ["_law_term_here"]) fun _ _ _ _ _ _ us hl => match us, hl with | [_], _ => rfl, PySem.W.mg_of X G a26⟩
  have F27 := fun_mk (st := s__law_any_path) l27 c27 k27
  have d__law_any_path : D K mg "_law_any_path" s__law_any_path ["_law_rng", "_law_term_here"] _ _ := ⟨F27, F27.binds (ps := ["_law_rng", "_law_term_here"]) fun _ _ _ _ _ _ us hl => match us, hl with | [_, _], _ => rfl, PySem.W.mg_of X G a27⟩
  have F28 := fun_mk (st := s__law_invalid_path) l28 c28 k28
  have d__law_invalid_path : D K mg "_law_invalid_path" s__law_invalid_path ["_law_rng"] _ _ := ⟨F28, F28.binds (ps := ["_law_rng"]) fun _ _ _ _ _ _ us hl => match us, hl with | [_], _ => rfl, PySem.W.mg_of X G a28⟩
  have F29 := fun_mk (st := s__law_expected) l29 c29 k29
  have d__law_expected : D K mg "_law_expected" s__law_expected ["_law_term_here", "_law_rows"] _ _ := ⟨F29, F29.binds (ps := ["_law_term_here", "_law_rows"]) fun _ _ _ _ _ _ us hl => match us, hl with | [_, _], _ => rfl, PySem.W.mg_of X G a29⟩
  have F30 := fun_mk (st := s__law_pair) l30 c30 k30
  have d__law_pair : D K mg "_law_pair" s__law_pair ["_law_rng", "_law_term_here"] _ _ := ⟨F30, F30.binds (ps := ["_law_rng", "_law_term_here"]) fun _ _ _ _ _ _ us hl => match us, hl with | [_, _], _ => rfl, PySem.W.mg_of X G a30⟩
  have F31 := fun_mk (st := s__law_try) l31 c31 k31
  have d__law_try : D K mg "_law_try" s__law_try ["_law_ask"] _ _ := ⟨F31, F31.binds (ps := ["_law_ask"]) fun _ _ _ _ _ _ us hl => match us, hl with | [_], _ => rfl, PySem.W.mg_of X G a31⟩
  have B : Blt mg := ⟨PySem.W.mg_none_of X G z_len, PySem.W.mg_none_of X G z_list, PySem.W.mg_none_of X G z_tuple, PySem.W.mg_none_of X G z_dict, PySem.W.mg_none_of X G z_bool, PySem.W.mg_none_of X G z_isinstance, PySem.W.mg_none_of X G z_max, PySem.W.mg_none_of X G z_min, PySem.W.mg_none_of X G z_range, PySem.W.mg_none_of X G z_all, PySem.W.mg_none_of X G z_sorted, PySem.W.mg_none_of X G z_enumerate, PySem.W.mg_none_of X G z_sum, PySem.W.mg_none_of X G z_str, PySem.W.mg_none_of X G z_int⟩
  have M : Errs mg (fun i => [x0, x1, x2, x3, x4, x5, x6, x7, x8, x9, x10, x11, x12, x13, x14, x15, x16, x17, x18, x19].getD i 0) := fun i hi => by
    match i, hi with
    | 0, _ => exact PySem.W.mg_of X G ax0
    | 1, _ => exact PySem.W.mg_of X G ax1
    | 2, _ => exact PySem.W.mg_of X G ax2
    | 3, _ => exact PySem.W.mg_of X G ax3
    | 4, _ => exact PySem.W.mg_of X G ax4
    | 5, _ => exact PySem.W.mg_of X G ax5
    | 6, _ => exact PySem.W.mg_of X G ax6
    | 7, _ => exact PySem.W.mg_of X G ax7
    | 8, _ => exact PySem.W.mg_of X G ax8
    | 9, _ => exact PySem.W.mg_of X G ax9
    | 10, _ => exact PySem.W.mg_of X G ax10
    | 11, _ => exact PySem.W.mg_of X G ax11
    | 12, _ => exact PySem.W.mg_of X G ax12
    | 13, _ => exact PySem.W.mg_of X G ax13
    | 14, _ => exact PySem.W.mg_of X G ax14
    | 15, _ => exact PySem.W.mg_of X G ax15
    | 16, _ => exact PySem.W.mg_of X G ax16
    | 17, _ => exact PySem.W.mg_of X G ax17
    | 18, _ => exact PySem.W.mg_of X G ax18
    | 19, _ => exact PySem.W.mg_of X G ax19
    | (k + 20), hi => exact absurd hi (by omega)
  have hI0 : Isw K (fun i => [x0, x1, x2, x3, x4, x5, x6, x7, x8, x9, x10, x11, x12, x13, x14, x15, x16, x17, x18, x19].getD i 0) x0 0 := ⟨by decide, fun i hi => by
    match i, hi with
    | 0, _ => exact if_pos (beq_self_eq_true _)
    | 1, _ => exact kit_own kn0_1 ki1 ky1 ks0_1
    | 2, _ => exact kit_own kn0_2 ki2 ky2 ks0_2
    | 3, _ => exact kit_own kn0_3 ki3 ky3 ks0_3
    | 4, _ => exact kit_own kn0_4 ki4 ky4 ks0_4
    | 5, _ => exact kit_own kn0_5 ki5 ky5 ks0_5
    | 6, _ => exact kit_own kn0_6 ki6 ky6 ks0_6
    | 7, _ => exact kit_own kn0_7 ki7 ky7 ks0_7
    | 8, _ => exact kit_own kn0_8 ki8 ky8 ks0_8
    | 9, _ => exact kit_own kn0_9 ki9 ky9 ks0_9
    | 10, _ => exact kit_own kn0_10 ki10 ky10 ks0_10
    | 11, _ => exact kit_own kn0_11 ki11 ky11 ks0_11
    | 12, _ => exact kit_own kn0_12 ki12 ky12 ks0_12
    | 13, _ => exact kit_own kn0_13 ki13 ky13 ks0_13
    | 14, _ => exact kit_own kn0_14 ki14 ky14 ks0_14
    | 15, _ => exact kit_own kn0_15 ki15 ky15 ks0_15
    | 16, _ => exact kit_own kn0_16 ki16 ky16 ks0_16
    | 17, _ => exact kit_own kn0_17 ki17 ky17 ks0_17
    | 18, _ => exact kit_own kn0_18 ki18 ky18 ks0_18
    | 19, _ => exact kit_own kn0_19 ki19 ky19 ks0_19
    | (k + 20), hi => exact absurd hi (by omega)⟩
  have hI5 : Isw K (fun i => [x0, x1, x2, x3, x4, x5, x6, x7, x8, x9, x10, x11, x12, x13, x14, x15, x16, x17, x18, x19].getD i 0) x5 5 := ⟨by decide, fun i hi => by
    match i, hi with
    | 0, _ => exact kit_own kn5_0 ki0 ky0 ks5_0
    | 1, _ => exact kit_own kn5_1 ki1 ky1 ks5_1
    | 2, _ => exact kit_own kn5_2 ki2 ky2 ks5_2
    | 3, _ => exact kit_own kn5_3 ki3 ky3 ks5_3
    | 4, _ => exact kit_own kn5_4 ki4 ky4 ks5_4
    | 5, _ => exact if_pos (beq_self_eq_true _)
    | 6, _ => exact kit_own kn5_6 ki6 ky6 ks5_6
    | 7, _ => exact kit_own kn5_7 ki7 ky7 ks5_7
    | 8, _ => exact kit_own kn5_8 ki8 ky8 ks5_8
    | 9, _ => exact kit_own kn5_9 ki9 ky9 ks5_9
    | 10, _ => exact kit_own kn5_10 ki10 ky10 ks5_10
    | 11, _ => exact kit_own kn5_11 ki11 ky11 ks5_11
    | 12, _ => exact kit_own kn5_12 ki12 ky12 ks5_12
    | 13, _ => exact kit_own kn5_13 ki13 ky13 ks5_13
    | 14, _ => exact kit_own kn5_14 ki14 ky14 ks5_14
    | 15, _ => exact kit_own kn5_15 ki15 ky15 ks5_15
    | 16, _ => exact kit_own kn5_16 ki16 ky16 ks5_16
    | 17, _ => exact kit_own kn5_17 ki17 ky17 ks5_17
    | 18, _ => exact kit_own kn5_18 ki18 ky18 ks5_18
    | 19, _ => exact kit_own kn5_19 ki19 ky19 ks5_19
    | (k + 20), hi => exact absurd hi (by omega)⟩
  have hI9 : Isw K (fun i => [x0, x1, x2, x3, x4, x5, x6, x7, x8, x9, x10, x11, x12, x13, x14, x15, x16, x17, x18, x19].getD i 0) x9 9 := ⟨by decide, fun i hi => by
    match i, hi with
    | 0, _ => exact kit_own kn9_0 ki0 ky0 ks9_0
    | 1, _ => exact kit_own kn9_1 ki1 ky1 ks9_1
    | 2, _ => exact kit_own kn9_2 ki2 ky2 ks9_2
    | 3, _ => exact kit_own kn9_3 ki3 ky3 ks9_3
    | 4, _ => exact kit_own kn9_4 ki4 ky4 ks9_4
    | 5, _ => exact kit_own kn9_5 ki5 ky5 ks9_5
    | 6, _ => exact kit_own kn9_6 ki6 ky6 ks9_6
    | 7, _ => exact kit_own kn9_7 ki7 ky7 ks9_7
    | 8, _ => exact kit_own kn9_8 ki8 ky8 ks9_8
    | 9, _ => exact if_pos (beq_self_eq_true _)
    | 10, _ => exact kit_own kn9_10 ki10 ky10 ks9_10
    | 11, _ => exact kit_own kn9_11 ki11 ky11 ks9_11
    | 12, _ => exact kit_own kn9_12 ki12 ky12 ks9_12
    | 13, _ => exact kit_own kn9_13 ki13 ky13 ks9_13
    | 14, _ => exact kit_own kn9_14 ki14 ky14 ks9_14
    | 15, _ => exact kit_own kn9_15 ki15 ky15 ks9_15
    | 16, _ => exact kit_own kn9_16 ki16 ky16 ks9_16
    | 17, _ => exact kit_own kn9_17 ki17 ky17 ks9_17
    | 18, _ => exact kit_own kn9_18 ki18 ky18 ks9_18
    | 19, _ => exact kit_own kn9_19 ki19 ky19 ks9_19
    | (k + 20), hi => exact absurd hi (by omega)⟩
  have EC0 : ErrC K mg "InvalidTerm" x0 := ⟨xq0, PySem.W.mg_of X G ax0, xkp0, xs0, ky0⟩
  have EC2 : ErrC K mg "InvalidPath" x2 := ⟨xq2, PySem.W.mg_of X G ax2, xkp2, xs2, ky2⟩
  have EC3 : ErrC K mg "PathNotFound" x3 := ⟨xq3, PySem.W.mg_of X G ax3, xkp3, xs3, ky3⟩
  have EC4 : ErrC K mg "NotRewritable" x4 := ⟨xq4, PySem.W.mg_of X G ax4, xkp4, xs4, ky4⟩
  have hwd : ∀ (D : Addr) (nm : Str), (if D = x0 then some (en 0) else if D = x5 then some (en 5) else if D = x9 then some (en 9) else none) = some nm → ∃ j, Isw K (fun i => [x0, x1, x2, x3, x4, x5, x6, x7, x8, x9, x10, x11, x12, x13, x14, x15, x16, x17, x18, x19].getD i 0) D j ∧ nm = en j := by
    intro D nm z
    by_cases e0 : D = x0
    · rw [if_pos e0] at z
      exact ⟨0, e0 ▸ hI0, (Option.some.inj z).symm⟩
    rw [if_neg e0] at z
    by_cases e5 : D = x5
    · rw [if_pos e5] at z
      exact ⟨5, e5 ▸ hI5, (Option.some.inj z).symm⟩
    rw [if_neg e5] at z
    by_cases e9 : D = x9
    · rw [if_pos e9] at z
      exact ⟨9, e9 ▸ hI9, (Option.some.inj z).symm⟩
    rw [if_neg e9] at z
    cases z
  have ww0 : (if x0 = x0 then some (en 0) else if x0 = x5 then some (en 5) else if x0 = x9 then some (en 9) else none) = some (en 0) := by
    exact if_pos rfl
  have ww5 : (if x5 = x0 then some (en 0) else if x5 = x5 then some (en 5) else if x5 = x9 then some (en 9) else none) = some (en 5) := by
    rw [if_neg (fun z => by rw [z, beq_self_eq_true] at kn5_0; cases kn5_0)]
    exact if_pos rfl
  have ww9 : (if x9 = x0 then some (en 0) else if x9 = x5 then some (en 5) else if x9 = x9 then some (en 9) else none) = some (en 9) := by
    rw [if_neg (fun z => by rw [z, beq_self_eq_true] at kn9_0; cases kn9_0)]
    rw [if_neg (fun z => by rw [z, beq_self_eq_true] at kn9_5; cases kn9_5)]
    exact if_pos rfl
  have xc0 : ExcC K x0 := ⟨xg0, xk0, xs0, xd0, xa0, xn, xt, xm0⟩
  have xe0 : PySem.W.exmOne K (.ref x0) (.ref CT) = some true := PySem.W.exm_ref ye yd yt ys0
  have xc5 : ExcC K x5 := ⟨xg5, xk5, xs5, xd5, xa5, xn, xt, xm5⟩
  have xe5 : PySem.W.exmOne K (.ref x5) (.ref CT) = some true := PySem.W.exm_ref ye yd yt ys5
  have xc9 : ExcC K x9 := ⟨xg9, xk9, xs9, xd9, xa9, xn, xt, xm9⟩
  have xe9 : PySem.W.exmOne K (.ref x9) (.ref CT) = some true := PySem.W.exm_ref ye yd yt ys9
  have hxf : ∀ (D : Addr) (nm : Str), (if D = x0 then some (en 0) else if D = x5 then some (en 5) else if D = x9 then some (en 9) else none) = some nm → XfC K D ∧ PySem.W.findIn K (.ref D) "position" = some none ∧ PySem.W.findIn K (.ref D) "name" = some none ∧ PySem.W.findIn K (.ref D) "size" = some none ∧ PySem.W.findIn K (.ref D) "row" = some none := by
    intro D nm z
    by_cases e0 : D = x0
    · subst e0
      exact ⟨⟨xg0, xk0, xs0, xd0⟩, xf0_position, xf0_name, xf0_size, xf0_row⟩
    rw [if_neg e0] at z
    by_cases e5 : D = x5
    · subst e5
      exact ⟨⟨xg5, xk5, xs5, xd5⟩, xf5_position, xf5_name, xf5_size, xf5_row⟩
    rw [if_neg e5] at z
    by_cases e9 : D = x9
    · subst e9
      exact ⟨⟨xg9, xk9, xs9, xd9⟩, xf9_position, xf9_name, xf9_size, xf9_row⟩
    rw [if_neg e9] at z
    cases z
  have hdom : ∀ (D : Addr) (nm : Str), (if D = x0 then some (en 0) else if D = x5 then some (en 5) else if D = x9 then some (en 9) else none) = some nm → D = x0 ∨ D = x5 ∨ D = x9 := by
    intro D nm z
    by_cases e0 : D = x0
    · exact .inl e0
    rw [if_neg e0] at z
    by_cases e5 : D = x5
    · exact .inr (.inl e5)
    rw [if_neg e5] at z
    by_cases e9 : D = x9
    · exact .inr (.inr (e9))
    rw [if_neg e9] at z
    cases z
  have hne0_5 : x0 ≠ x5 := fun z => by
    rw [z, beq_self_eq_true] at kn0_5
    cases kn0_5
  have hne0_9 : x0 ≠ x9 := fun z => by
    rw [z, beq_self_eq_true] at kn0_9
    cases kn0_9
  have hne5_0 : x5 ≠ x0 := fun z => by
    rw [z, beq_self_eq_true] at kn5_0
    cases kn5_0
  have hne5_9 : x5 ≠ x9 := fun z => by
    rw [z, beq_self_eq_true] at kn5_9
    cases kn5_9
  have hne9_0 : x9 ≠ x0 := fun z => by
    rw [z, beq_self_eq_true] at kn9_0
    cases kn9_0
  have hne9_5 : x9 ≠ x5 := fun z => by
    rw [z, beq_self_eq_true] at kn9_5
    cases kn9_5
  have FL5 : FunS l.prog K mg "TooLarge" "TooLarge.__init__" s_TLInit ["self", "size"] x5 tf5 _ := ⟨⟨_, _, _, _, _, _, _, _, _, _, _, _, _, _, _, _, _, _, _, _, rfl, tl5, tci5, tco5, tcf5, tpf5, tce5⟩, ttop, ⟨⟨_, _, _, _, _, _, _, _, _, _, _, _, _, _, _, tlk5, tre5⟩, tsa5, xs5, ky5, tkp5⟩, tmr5, PySem.W.mg_none_of X G z_super, tany, tks5, tva5, ti5, tt5, Binds.all fun us hl => match us, hl with | [_, _], _ => rfl, PySem.W.mg_of X G ax5⟩
  have FL9 : FunS l.prog K mg "InvalidStep" "InvalidStep.__init__" s_ISInit ["self", "position"] x9 tf9 _ := ⟨⟨_, _, _, _, _, _, _, _, _, _, _, _, _, _, _, _, _, _, _, _, rfl, tl9, tci9, tco9, tcf9, tpf9, tce9⟩, ttop, ⟨⟨_, _, _, _, _, _, _, _, _, _, _, _, _, _, _, tlk9, tre9⟩, tsa9, xs9, ky9, tkp9⟩, tmr9, PySem.W.mg_none_of X G z_super, tany, tks9, tva9, ti9, tt9, Binds.all fun us hl => match us, hl with | [_, _], _ => rfl, PySem.W.mg_of X G ax9⟩
  have MF0 := fun_mk (st := s_PInit) ml0 mc0 mk0
  have mb0 := MF0.binds (ps := ["self"]) fun _ _ _ _ _ _ us hl => match us, hl with | [_], _ => rfl
  have MF1 := fun_mk (st := s_PPair) ml1 mc1 mk1
  have mb1 := MF1.binds (ps := ["self", "left", "right"]) fun _ _ _ _ _ _ us hl => match us, hl with | [_, _, _], _ => rfl
  have MF2 := fun_mk (st := s_PNum) ml2 mc2 mk2
  have mb2 := MF2.binds (ps := ["self", "term"]) fun _ _ _ _ _ _ us hl => match us, hl with | [_, _], _ => rfl
  have T : PoolT K mg Cp := ⟨⟨cpg, chd, cpo, csa⟩, cn0, cn1, cn2, cn3, PySem.W.mg_of X G aC⟩
  have mP1 : PySem.W.exmAny K (.ref x2) [.ref x2, .ref x3, .ref x4] = some true := (exmAny_mk (PySem.W.exm_ref xs2 hdA0 ky2 sbA0_0) (exmAny_mk (PySem.W.exm_ref xs3 hdA1 ky3 sbA0_1) (exmAny_mk (PySem.W.exm_ref xs4 hdA2 ky4 sbA0_2) rfl)))
  have mN1 : PySem.W.exmAny K (.ref x3) [.ref x2, .ref x3, .ref x4] = some true := (exmAny_mk (PySem.W.exm_ref xs2 hdA0 ky2 sbA1_0) (exmAny_mk (PySem.W.exm_ref xs3 hdA1 ky3 sbA1_1) (exmAny_mk (PySem.W.exm_ref xs4 hdA2 ky4 sbA1_2) rfl)))
  have mR1 : PySem.W.exmAny K (.ref x4) [.ref x2, .ref x3, .ref x4] = some true := (exmAny_mk (PySem.W.exm_ref xs2 hdA0 ky2 sbA2_0) (exmAny_mk (PySem.W.exm_ref xs3 hdA1 ky3 sbA2_1) (exmAny_mk (PySem.W.exm_ref xs4 hdA2 ky4 sbA2_2) rfl)))
  refine ⟨PySem.W.fnOf "law" "law" (defArgs s_law) (defBody s_law) (defScope s_law) .none kV32 dc32 pm32 an32 (.ref cL) ct32, [(cL, Pt)], spLawT K Pt, ?_, ?_, ?_, fun s v => .of_eq rfl, fun H a ns hl hb hH hS => ⟨a, ns, rfl, hS, hH _ (List.mem_singleton.mpr rfl), fun _ => rfl⟩, fun base _ _ hTB => ?_⟩
  · intro p hp
    rw [List.mem_singleton.mp hp]
    exact tT_L
  · intro p hp
    rw [List.mem_singleton.mp hp]
    exact nP
  · intro p hp
    rw [List.mem_singleton.mp hp]
    exact PySem.W.codeHd_of_K X (codeHd_mk lC lP11 v18 v7 v9 v10 vne)
  · exact ok_law (word := (fun D => if D = x0 then some (en 0) else if D = x5 then some (en 5) else if D = x9 then some (en 9) else none)) l32 c32 (hTB _ (List.mem_singleton.mpr rfl)) B ⟨⟨_, PySem.W.mg_of X G q_MAX_SIZE⟩, ⟨_, PySem.W.mg_of X G q_MAX_DEPTH⟩⟩ hwd ww0 ww5 ww9 rfl hxf M xc0 xc5 xc9 xe0 xe5 xe9 EC0 EC2 EC3 EC4 FL5 xf5_size FL9 xf9_position mP1 mN1 mR1 (PySem.W.mg_of X G aT) ⟨_, PySem.W.mg_of X G q_GENERATOR⟩ (PySem.W.mg_of X G q_MAX_PATH) (PySem.W.mg_of X G q_MAX_STEP_SIZE) (PySem.W.mg_of X G q_MAX_POOL) T ⟨cmk, ma0, mi0, ckc⟩ MF0 mb0 MF1 mb1 ⟨ma1, mi1, mk1⟩ MF2 mb2 ⟨ma2, mi2, mk2⟩ kb_app d_apply_steps d__law_draws d__law_draw d__law_pick d__law_same d__law_error_name d__law_error_field d__law_try d__law_term d__law_comb d__law_any_term d__law_size d__law_paths d__law_subterm d__law_replace d__law_expanded d__law_contracted d__law_rewrite d__law_steps d__law_any_path d__law_invalid_path d__law_expected d__law_pair d_is_pair d_is_term d_check_term d_check_path d_numbers_along d_expanded d_contracted d_rewritten d_rewritten_at
theorem walk {l : PySem.W.OpenLaw} {q : Program} {loose : List Str} {XP : (Str → Option Value) → Heap → Prop} {YP : World → Heap → Prop} {d : DefRec} {K : Params → PySem.W.Frag} (hn : l.most = some 63) (hdf : d.params.defaults = [])
    (hY : ∀ (w : World) (h : Heap), YP w h → (K w.params).In h)
    (F : ∀ (w : World) (mg : Str → Option Value) (fa : Addr) (h : Heap), YP w h → (K w.params).In h → h.Ns mainGlobals mg → mg d.name = some (.ref fa) → LamX.LawAtS l w (K w.params) CX0 80 63 "_law_script" mg fa h) :
    PySem.W.WalkO q loose XP YP l.row.toRowW d [] (fun f vs => PySem.call f vs) :=
  LamX.walk_ofTs (n := 63) (k := 80) (x := "_law_script") (CX := fun _ => CX0) hn (by decide) hdf ⟨rfl, by decide, by decide⟩ hY F fun _ _ _ _ _ z => z
/-! ### the head by kernel runs, the empty tables with it -/
def kplus (K : Params → PySem.W.Frag) (ts : List Addr) : Params → PySem.W.Frag := fun P => K P ++ ts.map fun a => (a, PySem.W.tabObj #[])
theorem kp_in_of {K : Params → PySem.W.Frag} {ts as : List Addr} {e : ∀ P, as = (kplus K ts P).map (·.1)} {w : World} {h : Heap} (Y : (PySem.W.kHook (kplus K ts) as e).says w h) : (K w.params).In h := fun a o ha => (PySem.W.kIn_of Y) a o (by
  unfold kplus
  rw [List.lookup_append, ha]
  rfl)
theorem kp_tabs_of {K : Params → PySem.W.Frag} {ts as : List Addr} {e : ∀ P, as = (kplus K ts P).map (·.1)} {w : World} {h : Heap} (Y : (PySem.W.kHook (kplus K ts) as e).says w h) {p : Addr} (n : (K w.params).lookup p = none) (m : p ∈ ts) : h.get? p = some (PySem.W.tabObj #[]) := (PySem.W.kIn_of Y) p _ (by
  unfold kplus
  rw [List.lookup_append, n, Option.none_or]
  clear Y n e
  induction ts with
  | nil => cases m
  | cons b r ih =>
    rw [List.map_cons, List.lookup_cons]
    by_cases z : p = b
    · rw [z, beq_self_eq_true]
    · rw [beq_false_of_ne z]
      exact ih (by cases m with | head => exact absurd rfl z | tail _ m => exact m))
theorem glueL {α β : Type} {f : α → β} (N : Nat) : ∀ (k : Nat) (A : List α) (v : List β), A.length ≤ k * N → v.length ≤ k * N → (∀ j, j < k → ((A.drop (j * N)).take N).map f = (v.drop (j * N)).take N) → A.map f = v
  | 0, A, v, hA, hv, _ => by
    rw [Nat.zero_mul] at hA hv
    rw [List.length_eq_zero_iff.mp (Nat.le_zero.mp hA), List.length_eq_zero_iff.mp (Nat.le_zero.mp hv)]
    rfl
  | k + 1, A, v, hA, hv, h => by
    have h0 := h 0 (by omega)
    rw [Nat.zero_mul, List.drop_zero, List.drop_zero] at h0
    rw [Nat.succ_mul] at hA hv
    have ih := glueL N k (A.drop N) (v.drop N) (by rw [List.length_drop]; omega) (by rw [List.length_drop]; omega) fun j hj => by
      have z := h (j + 1) (by omega)
      rw [Nat.succ_mul, Nat.add_comm] at z
      rw [List.drop_drop, List.drop_drop]
      exact z
    rw [← List.take_append_drop N A, List.map_append, h0, ih, List.take_append_drop]
theorem glueO {σ α β γ δ : Type} {x : Option σ} {f : σ → α} {g : σ → β} {h : σ → γ → δ} {A : List γ} {a : α} {b : β} {v : List δ} (N k : Nat) (hA : A.length ≤ k * N) (hv : v.length ≤ k * N) (h0 : x.map (fun s => (f s, g s)) = some (a, b)) (hs : ∀ j, j < k → x.map (fun s => ((A.drop (j * N)).take N).map (h s)) = some ((v.drop (j * N)).take N)) : x.map (fun s => (f s, g s, A.map (h s))) = some (a, b, v) := by
  cases x with
  | none => cases h0
  | some s =>
    have e0 := Option.some.inj h0
    simp only [Prod.mk.injEq] at e0
    have e := glueL N k A v hA hv (f := h s) fun j hj => Option.some.inj (hs j hj)
    show some (f s, g s, A.map (h s)) = _
    rw [e0.1, e0.2, e]
end U
open PySem PySem.W PyProof.Rows
section
local macro_rules | `(tactic| o_head ($f $K $as $e $ts)) => `(tactic| (have _ : PySem.W.OpenRow → Params → PySem.W.Frag := fun _ => $K; have _ : List Addr := $as ++ $ts; assumption))
local macro_rules | `(tactic| o_head ($f $K $as $e)) => `(tactic| (have _ : PySem.W.OpenRow → Params → PySem.W.Frag := fun _ => $K; have _ : List Addr := $as; assumption))
set_option maxRecDepth 100000 in
set_option maxHeartbeats 0 in
theorem U.pre (h : (PySem.W.OpenLaw.row PySem.Challenge.rw_uponboth_k10_lists_of_steps).Holds) : True := by
  have _ : (PySem.W.OpenLaw.row PySem.Challenge.rw_uponboth_k10_lists_of_steps).Holds := by k_head
  trivial
end
set_option maxRecDepth 100000
set_option maxHeartbeats 0
namespace U
open PySem PySem.W PySem.Calls PyProof.Rows
abbrev zzhR : OpenRow := OpenLaw.row PySem.Challenge.rw_uponboth_k10_lists_of_steps
abbrev zzhq : Program := view zzhR.prog [65]
def zzhns : List PySem.Str := (["__name__", "TermError", "InvalidText", "TooLarge", "InvalidStep", "DuplicateName", "UnknownName", "InvalidCommand", "InvalidSnapshot", "InvalidTerm", "InvalidPath", "PathNotFound", "NotRewritable", "InvalidSize", "InvalidIndex", "InvalidWord", "InvalidElement", "InvalidModel", "NestingTooDeep", "InvalidLabel", "LimitReached", "EmptyHistory", "GENERATOR", "Pool", "MAX_SIZE", "MAX_DEPTH", "is_term", "is_pair", "check_term", "MAX_PATH"] : List PySem.Str) ++ (["MAX_STEP_SIZE", "MAX_POOL", "check_path", "numbers_along", "rewritten_at", "rewritten", "expanded", "contracted", "apply_steps", "_law_draws", "_law_draw", "_law_pick", "_law_same", "_law_error_name", "_law_error_field", "_law_try", "_law_term", "_law_comb", "_law_any_term", "_law_size", "_law_paths", "_law_subterm", "_law_replace", "_law_expanded", "_law_contracted", "_law_rewrite", "_law_steps", "_law_any_path", "_law_invalid_path", "_law_expected"] : List PySem.Str) ++ (["_law_pair"] : List PySem.Str)
def zzhas : List Addr := ([2, 3, 15, 22, 23, 24, 25, 28, 31, 36, 37, 39, 40, 42, 43, 44, 45, 46, 49, 52, 57, 58, 60, 61, 63, 64, 65, 66, 67, 70, 73, 78, 79, 81, 82, 84, 85, 86, 87, 88] : List Addr) ++ ([91, 94, 99, 100, 102, 103, 105, 106, 107, 108, 109, 112, 115, 120, 121, 123, 124, 126, 127, 128, 129, 130, 133, 136, 141, 142, 144, 145, 147, 148, 149, 150, 151, 154, 157, 162, 163, 165, 166, 168] : List Addr) ++ ([169, 170, 171, 172, 175, 182, 183, 184, 187, 194, 195, 196, 199, 206, 207, 208, 211, 218, 219, 220, 223, 230, 231, 232, 235, 242, 243, 244, 247, 254, 255, 256, 259, 266, 267, 268, 271, 278, 279, 280] : List Addr) ++ ([283, 290, 291, 292, 295, 302, 303, 304, 307, 314, 315, 316, 319, 326, 327, 328, 338, 340, 341, 343, 344, 345, 347, 348, 350, 351, 352, 354, 355, 357, 358, 359, 361, 362, 364, 365, 366, 367, 368, 369] : List Addr) ++ ([370, 373, 375, 376, 378, 379, 380, 382, 383, 385, 386, 387, 389, 390, 392, 393, 394, 396, 397, 399, 400, 401, 403, 404, 406, 407, 408, 410, 411, 413, 414, 415, 417, 418, 420, 421, 422, 424, 425, 427] : List Addr) ++ ([428, 429, 431, 432, 434, 435, 436, 438, 439, 441, 442, 443, 445, 446, 448, 449, 450, 452, 453, 455, 456, 457, 459, 460, 462, 463, 464, 467, 468, 469, 472, 473, 474, 476, 477, 479, 480, 481, 483, 484] : List Addr) ++ ([486, 487, 488, 490, 491, 493, 494, 495, 497, 498, 500, 501, 502, 504, 505, 507, 508, 509, 511, 512, 514, 515, 516, 518, 519, 521, 522, 523, 525, 526, 528, 529, 530, 532, 533, 535, 536, 537, 539, 540] : List Addr) ++ ([542, 543, 544, 546, 547, 549, 550, 551, 553, 554, 556, 557, 558, 560, 561, 563, 564, 565, 567, 568, 570, 571, 572, 574, 575, 577, 578, 579, 582, 583, 584, 586, 587, 589, 590, 591, 593, 594, 596, 597] : List Addr)
def zzhts : List Addr := [592]
abbrev zzhX : Shared → Bool := fun s => xlAt zzhq [] s && recOk zzhR.toRowW.records s
noncomputable abbrev zzhE (w : World) (os : OsState) := HandSHeadRun.endF (HandSHeadRun.stepQ (HandSHeadRun.denQ HandSHeadRun.tabQ) zzhR.prog w) 9000 zzhR.prog w os
def zzhall : List Addr := zzhas ++ zzhts
noncomputable def zzhv (w : World) : List (Option Obj) := (kplus U.pre.heap_1 zzhts w.params).map fun p => some p.2
theorem zzhas_eq (P : Params) : zzhall = (kplus U.pre.heap_1 zzhts P).map (·.1) := by kernel_rfl
def zzS_zzhrun0 (w : World) (os : OsState) : Prop := (zzhE w os).map (fun s => (HandSHeadRun.looksF zzhR.prog (boot_heap w.params) s.abs, HandSHeadRun.seenQ zzhq zzhns (importedModules zzhR.prog.main.body) zzhX s.abs)) = some (true, openGood zzhq zzhns)
theorem zzhrun0_false (w : World) (os : OsState) : zzS_zzhrun0 (w.withFollow "special-get-raises" false) os := by
  delta zzS_zzhrun0
  kernel_rfl
theorem zzhrun0_true (w : World) (os : OsState) : zzS_zzhrun0 (w.withFollow "special-get-raises" true) os := by
  delta zzS_zzhrun0
  kernel_rfl
theorem zzhrun0 (w : World) (os : OsState) : (zzhE w os).map (fun s => (HandSHeadRun.looksF zzhR.prog (boot_heap w.params) s.abs, HandSHeadRun.seenQ zzhq zzhns (importedModules zzhR.prog.main.body) zzhX s.abs)) = some (true, openGood zzhq zzhns) := PySem.W.byRow2 "special-get-raises" (P := fun w => zzS_zzhrun0 w os) (fun w => zzhrun0_false w os) (fun w => zzhrun0_true w os) w
def zzS_zzhrun1 (w : World) (os : OsState) : Prop := (zzhE w os).map (fun s => ((zzhall.drop (0 * 180)).take 180).map (HandSHeadRun.getT s)) = some (((zzhv w).drop (0 * 180)).take 180)
theorem zzhrun1_false (w : World) (os : OsState) : zzS_zzhrun1 (w.withFollow "special-get-raises" false) os := by
  delta zzS_zzhrun1
  kernel_rfl
theorem zzhrun1_true (w : World) (os : OsState) : zzS_zzhrun1 (w.withFollow "special-get-raises" true) os := by
  delta zzS_zzhrun1
  kernel_rfl
theorem zzhrun1 (w : World) (os : OsState) : (zzhE w os).map (fun s => ((zzhall.drop (0 * 180)).take 180).map (HandSHeadRun.getT s)) = some (((zzhv w).drop (0 * 180)).take 180) := PySem.W.byRow2 "special-get-raises" (P := fun w => zzS_zzhrun1 w os) (fun w => zzhrun1_false w os) (fun w => zzhrun1_true w os) w
def zzS_zzhrun2 (w : World) (os : OsState) : Prop := (zzhE w os).map (fun s => ((zzhall.drop (1 * 180)).take 180).map (HandSHeadRun.getT s)) = some (((zzhv w).drop (1 * 180)).take 180)
theorem zzhrun2_false (w : World) (os : OsState) : zzS_zzhrun2 (w.withFollow "special-get-raises" false) os := by
  delta zzS_zzhrun2
  kernel_rfl
theorem zzhrun2_true (w : World) (os : OsState) : zzS_zzhrun2 (w.withFollow "special-get-raises" true) os := by
  delta zzS_zzhrun2
  kernel_rfl
theorem zzhrun2 (w : World) (os : OsState) : (zzhE w os).map (fun s => ((zzhall.drop (1 * 180)).take 180).map (HandSHeadRun.getT s)) = some (((zzhv w).drop (1 * 180)).take 180) := PySem.W.byRow2 "special-get-raises" (P := fun w => zzS_zzhrun2 w os) (fun w => zzhrun2_false w os) (fun w => zzhrun2_true w os) w
theorem zzhrun (w : World) : HandSHeadRun.RunEq zzhR zzhq (PySem.W.kHook (kplus U.pre.heap_1 zzhts) zzhall zzhas_eq) (fun s => zzhall.map (HandSHeadRun.getT s)) 9000 zzhns w := by
  intro os
  refine glueO (v := zzhv w) 180 2 (by decide +kernel) ?_ (zzhrun0 w os) ?_
  · have z : (zzhv w).length = zzhall.length := by
      unfold zzhv
      rw [List.length_map, zzhas_eq w.params, List.length_map]
    rw [z]
    decide +kernel
  · intro j hj
    have z : j = 0 ∨ j = 1 := by omega
    rcases z with rfl | rfl
    · exact zzhrun1 w os
    · exact zzhrun2 w os
end U

open PySem PySem.W PyProof.Rows
set_option maxRecDepth 100000 in
set_option maxHeartbeats 0 in
theorem PySem.Challenge.cw_uponboth_k10_lists_of_steps_holds : PySem.Challenge.rw_uponboth_k10_lists_of_steps.Holds := by
  w_on; o_law
  refine HandSHeadRun.head_any (r := U.zzhR) (q := U.zzhq) (H := PySem.W.kHook (U.kplus U.pre.heap_1 U.zzhts) U.zzhall U.zzhas_eq) (ob := fun s => U.zzhall.map (HandSHeadRun.getT s)) (M := 9000) (loose := U.zzhns) (d := HandSHeadRun.topDef U.zzhR.prog 65) (kwd := []) (fun s => List.map_congr_left fun a _ => HandSHeadRun.getT_eq s a) (by kernel_rfl) (fun s => by kernel_rfl) U.zzhrun (by kernel_rfl) (by kernel_rfl) (by kernel_rfl) (by rfl) (by first | assumption | decide +kernel) (by decide +kernel) ⟨rfl, rfl, rfl, rfl, rfl, by decide +kernel⟩ ?hw ?hc
  case hw => w_witness2
  k_fill
  refine U.walk (l := PySem.Challenge.rw_uponboth_k10_lists_of_steps) rfl (by kernel_rfl) (fun w h Y => U.kp_in_of Y) ?F
  case F =>
    intro w mg fa h Y KX G hmg0
    have hmg : mg ("law" : PySem.Str) = some (.ref fa) := by
      have e : (HandSHeadRun.topDef U.zzhR.prog 65).name = ("law" : PySem.Str) := by kernel_rfl
      rw [← e]
      exact hmg0
    refine' U.all_mk KX G hmg ?a0 ?l0 ?c0 ?k0 ?a1 ?l1 ?c1 ?k1 ?a2 ?l2 ?c2 ?k2 ?a3 ?l3 ?c3 ?k3 ?a4 ?l4 ?c4 ?k4 ?a5 ?l5 ?c5 ?k5 ?a6 ?l6 ?c6 ?k6 ?a7 ?l7 ?c7 ?k7 ?a8 ?l8 ?c8 ?k8 ?a9 ?l9 ?c9 ?k9 ?a10 ?l10 ?c10 ?k10 ?a11 ?l11 ?c11 ?k11 ?a12 ?l12 ?c12 ?k12 ?a13 ?l13 ?c13 ?k13 ?a14 ?l14 ?c14 ?k14 ?a15 ?l15 ?c15 ?k15 ?a16 ?l16 ?c16 ?k16 ?a17 ?l17 ?c17 ?k17 ?a18 ?l18 ?c18 ?k18 ?a19 ?l19 ?c19 ?k19 ?a20 ?l20 ?c20 ?k20 ?a21 ?l21 ?c21 ?k21 ?a22 ?l22 ?c22 ?k22 ?a23 ?l23 ?c23 ?k23 ?a24 ?l24 ?c24 ?k24 ?a25 ?l25 ?c25 ?k25 ?a26 ?l26 ?c26 ?k26 ?a27 ?l27 ?c27 ?k27 ?a28 ?l28 ?c28 ?k28 ?a29 ?l29 ?c29 ?k29 ?a30 ?l30 ?c30 ?k30 ?a31 ?l31 ?c31 ?k31 ?a32 ?l32 ?c32 ?k32 ?z_len ?z_list ?z_tuple ?z_dict ?z_bool ?z_isinstance ?z_max ?z_min ?z_range ?z_all ?z_sorted ?z_enumerate ?z_sum ?z_str ?z_int ?q_MAX_SIZE ?q_MAX_DEPTH ?q_GENERATOR ?q_MAX_PATH ?q_MAX_STEP_SIZE ?q_MAX_POOL ?lC ?lP11 ?nP ?v18 ?v7 ?v9 ?v10 ?vne ?aT ?ax0 ?ax1 ?ax2 ?ax3 ?ax4 ?ax5 ?ax6 ?ax7 ?ax8 ?ax9 ?ax10 ?ax11 ?ax12 ?ax13 ?ax14 ?ax15 ?ax16 ?ax17 ?ax18 ?ax19 ?ki0 ?ky0 ?ki1 ?ky1 ?ki2 ?ky2 ?ki3 ?ky3 ?ki4 ?ky4 ?ki5 ?ky5 ?ki6 ?ky6 ?ki7 ?ky7 ?ki8 ?ky8 ?ki9 ?ky9 ?ki10 ?ky10 ?ki11 ?ky11 ?ki12 ?ky12 ?ki13 ?ky13 ?ki14 ?ky14 ?ki15 ?ky15 ?ki16 ?ky16 ?ki17 ?ky17 ?ki18 ?ky18 ?ki19 ?ky19 ?xn ?xt ?ye ?yd ?yt ?kn0_1 ?ks0_1 ?kn0_2 ?ks0_2 ?kn0_3 ?ks0_3 ?kn0_4 ?ks0_4 ?kn0_5 ?ks0_5 ?kn0_6 ?ks0_6 ?kn0_7 ?ks0_7 ?kn0_8 ?ks0_8 ?kn0_9 ?ks0_9 ?kn0_10 ?ks0_10 ?kn0_11 ?ks0_11 ?kn0_12 ?ks0_12 ?kn0_13 ?ks0_13 ?kn0_14 ?ks0_14 ?kn0_15 ?ks0_15 ?kn0_16 ?ks0_16 ?kn0_17 ?ks0_17 ?kn0_18 ?ks0_18 ?kn0_19 ?ks0_19 ?xg0 ?xk0 ?xd0 ?xa0 ?xm0 ?ys0 ?kn5_0 ?ks5_0 ?kn5_1 ?ks5_1 ?kn5_2 ?ks5_2 ?kn5_3 ?ks5_3 ?kn5_4 ?ks5_4 ?kn5_6 ?ks5_6 ?kn5_7 ?ks5_7 ?kn5_8 ?ks5_8 ?kn5_9 ?ks5_9 ?kn5_10 ?ks5_10 ?kn5_11 ?ks5_11 ?kn5_12 ?ks5_12 ?kn5_13 ?ks5_13 ?kn5_14 ?ks5_14 ?kn5_15 ?ks5_15 ?kn5_16 ?ks5_16 ?kn5_17 ?ks5_17 ?kn5_18 ?ks5_18 ?kn5_19 ?ks5_19 ?xg5 ?xk5 ?xd5 ?xa5 ?xm5 ?ys5 ?kn9_0 ?ks9_0 ?kn9_1 ?ks9_1 ?kn9_2 ?ks9_2 ?kn9_3 ?ks9_3 ?kn9_4 ?ks9_4 ?kn9_5 ?ks9_5 ?kn9_6 ?ks9_6 ?kn9_7 ?ks9_7 ?kn9_8 ?ks9_8 ?kn9_10 ?ks9_10 ?kn9_11 ?ks9_11 ?kn9_12 ?ks9_12 ?kn9_13 ?ks9_13 ?kn9_14 ?ks9_14 ?kn9_15 ?ks9_15 ?kn9_16 ?ks9_16 ?kn9_17 ?ks9_17 ?kn9_18 ?ks9_18 ?kn9_19 ?ks9_19 ?xg9 ?xk9 ?xd9 ?xa9 ?xm9 ?ys9 ?xs0 ?xs2 ?xs3 ?xs4 ?xs5 ?xs9 ?xq0 ?xkp0 ?xq2 ?xkp2 ?xq3 ?xkp3 ?xq4 ?xkp4 ?xf0_position ?xf0_name ?xf0_size ?xf0_row ?xf5_position ?xf5_name ?xf5_size ?xf5_row ?xf9_position ?xf9_name ?xf9_size ?xf9_row ?z_super ?tany ?ttop ?ti5 ?tt5 ?tl5 ?tci5 ?tco5 ?tcf5 ?tpf5 ?tce5 ?tlk5 ?tre5 ?tsa5 ?tkp5 ?tmr5 ?tks5 ?tva5 ?ti9 ?tt9 ?tl9 ?tci9 ?tco9 ?tcf9 ?tpf9 ?tce9 ?tlk9 ?tre9 ?tsa9 ?tkp9 ?tmr9 ?tks9 ?tva9 ?aC ?ma0 ?mi0 ?ml0 ?mc0 ?mk0 ?ma1 ?mi1 ?ml1 ?mc1 ?mk1 ?ma2 ?mi2 ?ml2 ?mc2 ?mk2 ?cpg ?chd ?cpo ?csa ?cmk ?ckc ?cn0 ?cn1 ?cn2 ?cn3 ?hdA0 ?hdA1 ?hdA2 ?sbA0_0 ?sbA0_1 ?sbA0_2 ?sbA1_0 ?sbA1_1 ?sbA1_2 ?sbA2_0 ?sbA2_1 ?sbA2_2 ?tT_L
    (case a0 => k_is)
    (case l0 => k_is)
    (case c0 => k_is)
    (case k0 => k_is)
    (case a1 => k_is)
    (case l1 => k_is)
    (case c1 => k_is)
    (case k1 => k_is)
    (case a2 => k_is)
    (case l2 => k_is)
    (case c2 => k_is)
    (case k2 => k_is)
    (case a3 => k_is)
    (case l3 => k_is)
    (case c3 => k_is)
    (case k3 => k_is)
    (case a4 => k_is)
    (case l4 => k_is)
    (case c4 => k_is)
    (case k4 => k_is)
    (case a5 => k_is)
    (case l5 => k_is)
    (case c5 => k_is)
    (case k5 => k_is)
    (case a6 => k_is)
    (case l6 => k_is)
    (case c6 => k_is)
    (case k6 => k_is)
    (case a7 => k_is)
    (case l7 => k_is)
    (case c7 => k_is)
    (case k7 => k_is)
    (case a8 => k_is)
    (case l8 => k_is)
    (case c8 => k_is)
    (case k8 => k_is)
    (case a9 => k_is)
    (case l9 => k_is)
    (case c9 => k_is)
    (case k9 => k_is)
    (case a10 => k_is)
    (case l10 => k_is)
    (case c10 => k_is)
    (case k10 => k_is)
    (case a11 => k_is)
    (case l11 => k_is)
    (case c11 => k_is)
    (case k11 => k_is)
    (case a12 => k_is)
    (case l12 => k_is)
    (case c12 => k_is)
    (case k12 => k_is)
    (case a13 => k_is)
    (case l13 => k_is)
    (case c13 => k_is)
    (case k13 => k_is)
    (case a14 => k_is)
    (case l14 => k_is)
    (case c14 => k_is)
    (case k14 => k_is)
    (case a15 => k_is)
    (case l15 => k_is)
    (case c15 => k_is)
    (case k15 => k_is)
    (case a16 => k_is)
    (case l16 => k_is)
    (case c16 => k_is)
    (case k16 => k_is)
    (case a17 => k_is)
    (case l17 => k_is)
    (case c17 => k_is)
    (case k17 => k_is)
    (case a18 => k_is)
    (case l18 => k_is)
    (case c18 => k_is)
    (case k18 => k_is)
    (case a19 => k_is)
    (case l19 => k_is)
    (case c19 => k_is)
    (case k19 => k_is)
    (case a20 => k_is)
    (case l20 => k_is)
    (case c20 => k_is)
    (case k20 => k_is)
    (case a21 => k_is)
    (case l21 => k_is)
    (case c21 => k_is)
    (case k21 => k_is)
    (case a22 => k_is)
    (case l22 => k_is)
    (case c22 => k_is)
    (case k22 => k_is)
    (case a23 => k_is)
    (case l23 => k_is)
    (case c23 => k_is)
    (case k23 => k_is)
    (case a24 => k_is)
    (case l24 => k_is)
    (case c24 => k_is)
    (case k24 => k_is)
    (case a25 => k_is)
    (case l25 => k_is)
    (case c25 => k_is)
    (case k25 => k_is)
    (case a26 => k_is)
    (case l26 => k_is)
    (case c26 => k_is)
    (case k26 => k_is)
    (case a27 => k_is)
    (case l27 => k_is)
    (case c27 => k_is)
    (case k27 => k_is)
    (case a28 => k_is)
    (case l28 => k_is)
    (case c28 => k_is)
    (case k28 => k_is)
    (case a29 => k_is)
    (case l29 => k_is)
    (case c29 => k_is)
    (case k29 => k_is)
    (case a30 => k_is)
    (case l30 => k_is)
    (case c30 => k_is)
    (case k30 => k_is)
    (case a31 => k_is)
    (case l31 => k_is)
    (case c31 => k_is)
    (case k31 => k_is)
    (case a32 => k_is)
    (case l32 => k_is)
    (case c32 => k_is)
    (case k32 => k_is)
    (case z_len => k_is)
    (case z_list => k_is)
    (case z_tuple => k_is)
    (case z_dict => k_is)
    (case z_bool => k_is)
    (case z_isinstance => k_is)
    (case z_max => k_is)
    (case z_min => k_is)
    (case z_range => k_is)
    (case z_all => k_is)
    (case z_sorted => k_is)
    (case z_enumerate => k_is)
    (case z_sum => k_is)
    (case z_str => k_is)
    (case z_int => k_is)
    (case q_MAX_SIZE => k_is)
    (case q_MAX_DEPTH => k_is)
    (case q_GENERATOR => k_is)
    (case q_MAX_PATH => k_is)
    (case q_MAX_STEP_SIZE => k_is)
    (case q_MAX_POOL => k_is)
    (case lC => k_is)
    (case lP11 => rfl)
    (case nP => (first | rfl | with_unfolding_all rfl | decide +revert))
    (case v18 => rfl)
    (case v7 => rfl)
    (case v9 => rfl)
    (case v10 => rfl)
    (case vne => rfl)
    (case aT => k_is)
    (case ax0 => k_is)
    (case ax1 => k_is)
    (case ax2 => k_is)
    (case ax3 => k_is)
    (case ax4 => k_is)
    (case ax5 => k_is)
    (case ax6 => k_is)
    (case ax7 => k_is)
    (case ax8 => k_is)
    (case ax9 => k_is)
    (case ax10 => k_is)
    (case ax11 => k_is)
    (case ax12 => k_is)
    (case ax13 => k_is)
    (case ax14 => k_is)
    (case ax15 => k_is)
    (case ax16 => k_is)
    (case ax17 => k_is)
    (case ax18 => k_is)
    (case ax19 => k_is)
    (case ki0 => k_is)
    (case ky0 => k_is)
    (case ki1 => k_is)
    (case ky1 => k_is)
    (case ki2 => k_is)
    (case ky2 => k_is)
    (case ki3 => k_is)
    (case ky3 => k_is)
    (case ki4 => k_is)
    (case ky4 => k_is)
    (case ki5 => k_is)
    (case ky5 => k_is)
    (case ki6 => k_is)
    (case ky6 => k_is)
    (case ki7 => k_is)
    (case ky7 => k_is)
    (case ki8 => k_is)
    (case ky8 => k_is)
    (case ki9 => k_is)
    (case ky9 => k_is)
    (case ki10 => k_is)
    (case ky10 => k_is)
    (case ki11 => k_is)
    (case ky11 => k_is)
    (case ki12 => k_is)
    (case ky12 => k_is)
    (case ki13 => k_is)
    (case ky13 => k_is)
    (case ki14 => k_is)
    (case ky14 => k_is)
    (case ki15 => k_is)
    (case ky15 => k_is)
    (case ki16 => k_is)
    (case ky16 => k_is)
    (case ki17 => k_is)
    (case ky17 => k_is)
    (case ki18 => k_is)
    (case ky18 => k_is)
    (case ki19 => k_is)
    (case ky19 => k_is)
    (case xn => k_is)
    (case xt => k_is)
    (case ye => k_is)
    (case yd => k_is)
    (case yt => k_is)
    (case kn0_1 => rfl)
    (case ks0_1 => k_is)
    (case kn0_2 => rfl)
    (case ks0_2 => k_is)
    (case kn0_3 => rfl)
    (case ks0_3 => k_is)
    (case kn0_4 => rfl)
    (case ks0_4 => k_is)
    (case kn0_5 => rfl)
    (case ks0_5 => k_is)
    (case kn0_6 => rfl)
    (case ks0_6 => k_is)
    (case kn0_7 => rfl)
    (case ks0_7 => k_is)
    (case kn0_8 => rfl)
    (case ks0_8 => k_is)
    (case kn0_9 => rfl)
    (case ks0_9 => k_is)
    (case kn0_10 => rfl)
    (case ks0_10 => k_is)
    (case kn0_11 => rfl)
    (case ks0_11 => k_is)
    (case kn0_12 => rfl)
    (case ks0_12 => k_is)
    (case kn0_13 => rfl)
    (case ks0_13 => k_is)
    (case kn0_14 => rfl)
    (case ks0_14 => k_is)
    (case kn0_15 => rfl)
    (case ks0_15 => k_is)
    (case kn0_16 => rfl)
    (case ks0_16 => k_is)
    (case kn0_17 => rfl)
    (case ks0_17 => k_is)
    (case kn0_18 => rfl)
    (case ks0_18 => k_is)
    (case kn0_19 => rfl)
    (case ks0_19 => k_is)
    (case xg0 => k_is)
    (case xk0 => k_is)
    (case xd0 => k_is)
    (case xa0 => k_is)
    (case xm0 => k_is)
    (case ys0 => k_is)
    (case kn5_0 => rfl)
    (case ks5_0 => k_is)
    (case kn5_1 => rfl)
    (case ks5_1 => k_is)
    (case kn5_2 => rfl)
    (case ks5_2 => k_is)
    (case kn5_3 => rfl)
    (case ks5_3 => k_is)
    (case kn5_4 => rfl)
    (case ks5_4 => k_is)
    (case kn5_6 => rfl)
    (case ks5_6 => k_is)
    (case kn5_7 => rfl)
    (case ks5_7 => k_is)
    (case kn5_8 => rfl)
    (case ks5_8 => k_is)
    (case kn5_9 => rfl)
    (case ks5_9 => k_is)
    (case kn5_10 => rfl)
    (case ks5_10 => k_is)
    (case kn5_11 => rfl)
    (case ks5_11 => k_is)
    (case kn5_12 => rfl)
    (case ks5_12 => k_is)
    (case kn5_13 => rfl)
    (case ks5_13 => k_is)
    (case kn5_14 => rfl)
    (case ks5_14 => k_is)
    (case kn5_15 => rfl)
    (case ks5_15 => k_is)
    (case kn5_16 => rfl)
    (case ks5_16 => k_is)
    (case kn5_17 => rfl)
    (case ks5_17 => k_is)
    (case kn5_18 => rfl)
    (case ks5_18 => k_is)
    (case kn5_19 => rfl)
    (case ks5_19 => k_is)
    (case xg5 => k_is)
    (case xk5 => k_is)
    (case xd5 => k_is)
    (case xa5 => k_is)
    (case xm5 => k_is)
    (case ys5 => k_is)
    (case kn9_0 => rfl)
    (case ks9_0 => k_is)
    (case kn9_1 => rfl)
    (case ks9_1 => k_is)
    (case kn9_2 => rfl)
    (case ks9_2 => k_is)
    (case kn9_3 => rfl)
    (case ks9_3 => k_is)
    (case kn9_4 => rfl)
    (case ks9_4 => k_is)
    (case kn9_5 => rfl)
    (case ks9_5 => k_is)
    (case kn9_6 => rfl)
    (case ks9_6 => k_is)
    (case kn9_7 => rfl)
    (case ks9_7 => k_is)
    (case kn9_8 => rfl)
    (case ks9_8 => k_is)
    (case kn9_10 => rfl)
    (case ks9_10 => k_is)
    (case kn9_11 => rfl)
    (case ks9_11 => k_is)
    (case kn9_12 => rfl)
    (case ks9_12 => k_is)
    (case kn9_13 => rfl)
    (case ks9_13 => k_is)
    (case kn9_14 => rfl)
    (case ks9_14 => k_is)
    (case kn9_15 => rfl)
    (case ks9_15 => k_is)
    (case kn9_16 => rfl)
    (case ks9_16 => k_is)
    (case kn9_17 => rfl)
    (case ks9_17 => k_is)
    (case kn9_18 => rfl)
    (case ks9_18 => k_is)
    (case kn9_19 => rfl)
    (case ks9_19 => k_is)
    (case xg9 => k_is)
    (case xk9 => k_is)
    (case xd9 => k_is)
    (case xa9 => k_is)
    (case xm9 => k_is)
    (case ys9 => k_is)
    (case xs0 => k_is)
    (case xs2 => k_is)
    (case xs3 => k_is)
    (case xs4 => k_is)
    (case xs5 => k_is)
    (case xs9 => k_is)
    (case xq0 => k_exc)
    (case xkp0 => k_is)
    (case xq2 => k_exc)
    (case xkp2 => k_is)
    (case xq3 => k_exc)
    (case xkp3 => k_is)
    (case xq4 => k_exc)
    (case xkp4 => k_is)
    (case xf0_position => k_is)
    (case xf0_name => k_is)
    (case xf0_size => k_is)
    (case xf0_row => k_is)
    (case xf5_position => k_is)
    (case xf5_name => k_is)
    (case xf5_size => k_is)
    (case xf5_row => k_is)
    (case xf9_position => k_is)
    (case xf9_name => k_is)
    (case xf9_size => k_is)
    (case xf9_row => k_is)
    (case z_super => k_is)
    (case tany => k_is)
    (case ttop => (first | rfl | decide +kernel))
    (case ti5 => k_is)
    (case tt5 => k_is)
    (case tl5 => k_is)
    (case tci5 => k_is)
    (case tco5 => k_is)
    (case tcf5 => rfl)
    (case tpf5 => (first | rfl | decide +kernel))
    (case tce5 => k_is)
    (case tlk5 => k_is)
    (case tre5 => rfl)
    (case tsa5 => k_is)
    (case tkp5 => k_is)
    (case tmr5 => k_is)
    (case tks5 => ks_is)
    (case tva5 => k_is)
    (case ti9 => k_is)
    (case tt9 => k_is)
    (case tl9 => k_is)
    (case tci9 => k_is)
    (case tco9 => k_is)
    (case tcf9 => rfl)
    (case tpf9 => (first | rfl | decide +kernel))
    (case tce9 => k_is)
    (case tlk9 => k_is)
    (case tre9 => rfl)
    (case tsa9 => k_is)
    (case tkp9 => k_is)
    (case tmr9 => k_is)
    (case tks9 => ks_is)
    (case tva9 => k_is)
    (case aC => k_is)
    (case ma0 => k_is)
    (case mi0 => k_is)
    (case ml0 => k_is)
    (case mc0 => k_is)
    (case mk0 => k_is)
    (case ma1 => k_is)
    (case mi1 => k_is)
    (case ml1 => k_is)
    (case mc1 => k_is)
    (case mk1 => k_is)
    (case ma2 => k_is)
    (case mi2 => k_is)
    (case ml2 => k_is)
    (case mc2 => k_is)
    (case mk2 => k_is)
    (case cpg => k_is)
    (case chd => k_is)
    (case cpo => k_is)
    (case csa => k_is)
    (case cmk => k_is)
    (case ckc => k_is)
    (case cn0 => k_is)
    (case cn1 => k_is)
    (case cn2 => k_is)
    (case cn3 => k_is)
    (case hdA0 => k_is)
    (case hdA1 => k_is)
    (case hdA2 => k_is)
    (case sbA0_0 => k_is)
    (case sbA0_1 => k_is)
    (case sbA0_2 => k_is)
    (case sbA1_0 => k_is)
    (case sbA1_1 => k_is)
    (case sbA1_2 => k_is)
    (case sbA2_0 => k_is)
    (case sbA2_1 => k_is)
    (case sbA2_2 => k_is)
    (case tT_L => exact U.kp_tabs_of Y (by first | rfl | with_unfolding_all rfl | decide +revert) (by decide))
