import PyProof.Rows.All
import Wide.All
import OpenK.AllK
import Wide.FinOn
import HandS.Base
import HandS.Call
import HandS.List
import HandS.Comp
import HandS.Ends
import HandS.Words
import HandS.WordsList
import HandS.IsInst
import HandS.Codes
import HandS.ForMost
import HandS.ForExc
import HandS.FStr
import HandS.Style
import HandS.Hot
import HandS.HotCalls
import HandS.Lambda
import HandS.ExcIs
import HandS.Rev
import HandS.More
import HandS.StrMore
import PyProof.StrBlock2
import PyProof.FactsAll.list_3
import HandS.TupAny
import HandS.TupMul
import HandS.Defaults
import KE.KRevSl
import KE.KDflt
import KE.GoesMore
import HandS.Dict
import HandS.More
import HandS.Rev
import KE.KDictLaws
import HandS.Style
import KE.GoesMore
import HandS.ExcOwn
import HandS.ExcInit
import HandS.ExcField
import KE.KExcSuper
import KE.KExcIs
import KE.RegKSuper
import HandS.SuiteRaise
import HandS.RaiseFrom
import HandS.TryOnly
import HandS.TryMany
import HandS.ExcInitHot
import HandS.CallSlots
import HandS.Walk
import HandS.Conv
import HandS.TupLe
import PySem.Challenge.RW_uponboth_k32_certificate_checks
set_option Elab.async false
set_option linter.all false
set_option maxRecDepth 100000
set_option maxHeartbeats 4000000
namespace U
open PySem L2
/-! ### what stands behind the top: a def by its name; the built-in names -/
structure D (K : PySem.W.Frag) (mg : Str → Option Value) (x : Str) (st : Stmt) (ps : List Str) (f : Addr) (fd : FuncData) : Prop where
  F : Fun K x x st f fd
  b : Binds K fd ps []
  m : mg x = some (.ref f)

/-! ### trees -/
inductive Tree where
  | L
  | N (l r : Tree)
namespace Tree
def sz : Tree → Nat
  | L => 1
  | N l r => sz l + sz r
def dp : Tree → Nat
  | L => 0
  | N l r => max (dp l) (dp r) + 1
def d : Tree → PyData
  | L => .tuple []
  | N l r => .tuple [d l, d r]
theorem sz_pos : ∀ t : Tree, 0 < t.sz
  | L => Nat.zero_lt_one
  | N l r => by
    have h := sz_pos l
    show 0 < l.sz + r.sz
    omega
theorem d_lay : ∀ t : Tree, t.d.canLay0 = true
  | L => rfl
  | N l r => by
    show ((PyData.canLay0 l.d) && ((PyData.canLay0 r.d) && true)) = true
    rw [d_lay l, d_lay r]
    rfl
theorem d_depth : ∀ t : Tree, t.d.depth = t.dp + 1
  | L => rfl
  | N l r => by
    show max l.d.depth (max r.d.depth 0) + 1 = max l.dp r.dp + 1 + 1
    rw [d_depth l, d_depth r]
    omega
theorem shaped {t : Tree} (h : t.dp ≤ 63) : SeqAt.shaped t.d = true := by
  unfold SeqAt.shaped
  rw [d_lay, d_depth, decide_eq_true (by omega)]
  rfl
def isL : Tree → Bool
  | L => true
  | N _ _ => false
theorem eqvL (t : Tree) : PyData.eqv t.d (.tuple []) = t.isL := by cases t <;> rfl
end Tree
abbrev TA (K : PySem.W.Frag) (H : Hp) (v : V) (t : Tree) : Prop := Dp K H v t.d
theorem shapedE : SeqAt.shaped (.tuple []) = true := by decide +kernel

/-! ### heaps: what is a tuple stays one -/
def Tp (H H' : Hp) : Prop := ∀ b xs, Rd H b (.tup xs) → Rd H' b (.tup xs)
theorem Tp.refl (H : Hp) : Tp H H := fun _ _ h => h
theorem Tp.trans {H H1 H2 : Hp} (a : Tp H H1) (b : Tp H1 H2) : Tp H H2 := fun c o h => b c o (a c o h)
theorem Tp.same {H H' : Hp} (e : Same H H') : Tp H H' := fun b xs h => by
  rcases h with h | ⟨o, h⟩
  · exact .inl (e _ _ h)
  · exact .inr ⟨o, e _ _ h⟩
def But (r : Addr) (H H' : Hp) : Prop := ∀ b o, b ≠ r → H b = some o → H' b = some o
theorem But.trans {r : Addr} {H H1 H2 : Hp} (a : But r H H1) (b : But r H1 H2) : But r H H2 := fun c o n h => b c o n (a c o n h)
theorem But.same {r : Addr} {H H' : Hp} (e : Same H H') : But r H H' := fun b o _ h => e b o h
theorem But.set {r : Addr} {H : Hp} {o : HO} : But r H (upd H r o) := fun b z n h => by rw [upd_ne n]; exact h
theorem Tp.but {r : Addr} {H H' : Hp} {ys : List V} (hr : H r = some (.lst ys)) (e : But r H H') : Tp H H' := fun b xs h => by
  rcases h with h | ⟨o, h⟩
  · exact .inl (e _ _ (ne_of h hr (by intro z; cases z)) h)
  · exact .inr ⟨o, e _ _ (ne_of h hr (by intro z; cases z)) h⟩
theorem Same.new {H : Hp} {p : Addr} (h : H p = none) (o : HO) : Same H (upd H p o) := fun b u q => by rw [upd_ne (ne_of_none q h)]; exact q
theorem Tp.sqT {K : PySem.W.Frag} {H H' : Hp} {a : Addr} {xs : List V} (e : Tp H H') (h : SqT K H a xs) : SqT K H' a xs := by
  rcases h with h | h
  · exact .inl (e _ _ h)
  · exact .inr h
theorem SqT.here {K : PySem.W.Frag} {H : Hp} {a : Addr} {xs : List V} (h : H a = some (.tup xs)) : SqT K H a xs := .inl (.inl h)
theorem SqL.here {K : PySem.W.Frag} {H : Hp} {a : Addr} {xs : List V} (h : H a = some (.lst xs)) : SqL K H a xs := .inl (.inl h)

section
variable {K : PySem.W.Frag} {H H' : Hp}
theorem ta_leaf {a : Addr} (h : SqT K H a []) : TA K H (.ref a) .L := Dp.tup h .nil
theorem ta_node {a : Addr} {x y : V} {l r : Tree} (h : SqT K H a [x, y]) (hl : TA K H x l) (hr : TA K H y r) : TA K H (.ref a) (.N l r) := Dp.tup h (.cons hl (.cons hr .nil))
theorem ta_invL {v : V} (h : TA K H v .L) : ∃ a, v = .ref a ∧ SqT K H a [] := by
  cases h with
  | tup hs ha =>
    cases ha
    exact ⟨_, rfl, hs⟩
theorem ta_invN {v : V} {l r : Tree} (h : TA K H v (.N l r)) : ∃ a x y, v = .ref a ∧ SqT K H a [x, y] ∧ TA K H x l ∧ TA K H y r := by
  cases h with
  | tup hs ha =>
    cases ha with
    | cons h1 h2 =>
      cases h2 with
      | cons h3 h4 =>
        cases h4
        exact ⟨_, _, _, rfl, hs, h1, h3⟩
theorem ta_inv : ∀ {v : V} {t : Tree}, TA K H v t → ∃ a xs, v = .ref a ∧ SqT K H a xs
  | _, .L, h => by
    obtain ⟨a, e, q⟩ := ta_invL h
    exact ⟨a, _, e, q⟩
  | _, .N _ _, h => by
    obtain ⟨a, x, y, e, q, _⟩ := ta_invN h
    exact ⟨a, _, e, q⟩
theorem ta_mono (e : Tp H H') : ∀ {t : Tree} {v : V}, TA K H v t → TA K H' v t
  | .L, v, h => by
    obtain ⟨a, rfl, q⟩ := ta_invL h
    exact ta_leaf (e.sqT q)
  | .N l r, v, h => by
    obtain ⟨a, x, y, rfl, q, h1, h2⟩ := ta_invN h
    exact ta_node (e.sqT q) (ta_mono e h1) (ta_mono e h2)
mutual
theorem dp_same (e : Same H H') : ∀ (d : PyData) {v : V}, Dp K H v d → Dp K H' v d
  | .none, _, h => by
    cases h
    exact .non
  | .bool b, _, h => by
    cases h
    exact .bl b
  | .int i, _, h => by
    cases h
    exact .int i
  | .str x, _, h => by
    cases h
    exact .str x
  | .list ds, _, h => by
    cases h with
    | lst hs ha => exact .lst (e.seq hs) (dp_sameAll e ds ha)
  | .tuple ds, _, h => by
    cases h with
    | tup hs ha => exact .tup ((Tp.same e).sqT hs) (dp_sameAll e ds ha)
  | .dict _, _, h => by cases h
theorem dp_sameAll (e : Same H H') : ∀ (ds : List PyData) {vs : List V}, DpAll K H vs ds → DpAll K H' vs ds
  | [], _, h => by
    cases h
    exact .nil
  | d :: ds, _, h => by
    cases h with
    | cons h1 h2 => exact .cons (dp_same e d h1) (dp_sameAll e ds h2)
end
end
theorem one_le : 1 ≤ sizeLine := by decide
theorem two_le : 2 ≤ sizeLine := by decide
theorem zero_le' : 0 ≤ sizeLine := by decide
theorem four_le : 4 ≤ sizeLine := by decide
theorem ite_eq {b c : Bool} {A B : Prop} (e : b = c) (h : if c = true then A else B) : if b = true then A else B := e ▸ h
theorem ite_yes {b : Bool} {A B : Prop} (e : b = true) (h : A) : if b = true then A else B := by rw [if_pos e]; exact h
theorem ite_no {b : Bool} {A B : Prop} (e : b = false) (h : B) : if b = true then A else B := by rw [e]; exact iteF h
theorem tyx_tup {K : PySem.W.Frag} {H : Hp} {a : Addr} {xs : List V} (h : SqT K H a xs) : TyX K H (.ref a) (.type "tuple") := by
  rcases h with (h | ⟨o, h⟩) | ⟨o, its, n, h, c, _⟩
  · exact .base (.tup h)
  · exact .fTuple h
  · exact .kTuple h c
theorem tyx_lst {K : PySem.W.Frag} {H : Hp} {a : Addr} {xs : List V} (h : SqL K H a xs) : TyX K H (.ref a) (.type "list") := by
  rcases h with (h | ⟨o, h⟩) | ⟨o, its, n, h, c, _⟩
  · exact .base (.lst h)
  · exact .base (.frz h)
  · exact .kList h c
def Tree.nodes : Tree → Nat
  | .L => 1
  | .N l r => l.nodes + r.nodes + 1
/-! ### enumerate(a text): each sign in a new pair -/
def ItES (z : Str) : It :=
  ⟨fun j _ => j < z.cps.size, fun j G v G' => ∃ q c, v = .ref q ∧ G q = none ∧ G' = upd G q (.tup [.int (j : Nat), .str ⟨#[c]⟩]) ∧ z.cps[j]? = some c, fun j _ => z.cps.size ≤ j⟩
theorem draws_text {Pr : Program} {wo : World} {Ar : Around} (calm : Ar.handled = none) (it : Addr) (z : Str) (tk : Tok) :
    PySem.Draws Pr wo Ar it [it] z.cps.size (fun j v => ∃ c u, z.cps[j]? = some c ∧ v = .str ⟨#[c]⟩ u) (fun j g => g.IsStrIter it (PySem.strIterType z) z tk j) := by
  unfold PySem.strIterType
  cases z.cps.all (· < 128)
  · exact PySem.Draws.strWide calm it z tk
  · exact PySem.Draws.strAscii calm it z tk
theorem turn_ES {Pr : Program} {wo : World} {Kf : PySem.W.Frag} {ts : List Expr} {nn : Nat} {tp : Pos} (en it : Addr) (z : Str) (tk : Tok) :
    Turn Pr wo Kf (.Tuple ts nn tp) (ItES z) [en, it] en (fun j g => (∃ old, PySem.IsEnum g en it ((j : Nat) : Int) old) ∧ g.IsStrIter it (PySem.strIterType z) z tk j ∧ en ≠ it ∧ j ≤ z.cps.size) where
  mem := List.mem_cons_self
  obj := fun j g st b hb => by
    obtain ⟨⟨old, h1⟩, ⟨ob, h2, h3, h4⟩, _⟩ := st
    rcases List.mem_cons.mp hb with rfl | hb
    · exact ⟨_, h1, fun v q => nomatch q⟩
    · cases List.mem_singleton.mp hb
      refine ⟨ob, h2, fun v q => ?_⟩
      rw [h4] at q
      cases q
  keep := fun j g g' st kk => by
    obtain ⟨⟨old, h1⟩, ⟨ob, h2, h3⟩, h5⟩ := st
    exact ⟨⟨old, kk en List.mem_cons_self _ h1⟩, ⟨ob, kk it (List.mem_cons_of_mem _ List.mem_cons_self) _ h2, h3⟩, h5⟩
  item := by
    intro X e1 e2 e3 calm j pins s σ G Ex inv fp st lt
    cases e1
    cases e2
    cases e3
    obtain ⟨⟨old, h1⟩, h2, ne, le⟩ := st
    have l1 : en < s.heap.objs.size := Heap.lt_size h1
    have l2 : it < s.heap.objs.size := by
      obtain ⟨_, y, _⟩ := h2
      exact Heap.lt_size y
    refine PySem.wpAny_pyNext_enum_itemD (draws_text (show X.A.in1.handled = none from inv.ok.hd calm) it z tk) h1 h2 lt ne (fun y => ne (List.mem_singleton.mp y)) fun u g' t2 hu out h2' hT sz kp => ?_
    obtain ⟨c, u', hc, rfl⟩ := hu
    refine ⟨_, rfl, PySem.wpAny_letOwnedTupleGo_enum (s := { s with heap := g', toks := t2 + 1 }) out fun g'' h1' sb => ?_⟩
    have hT' : g''.get? s.heap.objs.size = some { cls := .type "tuple", data := .seq #[.int j t2, .str ⟨#[c]⟩ u'] } := (sb.2 _ (Nat.ne_of_gt l1)).trans hT
    have made : ObjOk X.prog X.w (upd G s.heap.objs.size (.tup [.int (j : Nat), .str ⟨#[c]⟩])) g'' s.heap.objs.size (.tup [.int (j : Nat), .str ⟨#[c]⟩]) :=
      ⟨two_le, [.int j t2, .str ⟨#[c]⟩ u'], .cons ⟨_, rfl⟩ (.cons ⟨_, rfl⟩ .nil), ⟨_, hT', rfl, _, rfl⟩⟩
    have inv' : Inv X pins σ (upd G s.heap.objs.size (.tup [.int (j : Nat), .str ⟨#[c]⟩])) { s with heap := g'', toks := t2 + 1 } := by
      refine Inv.turnedNew (ch := [en, it]) inv (fun b ob nb y => ?_) fp (Nat.le_refl _) made
      have n1 : b ≠ en := fun y => nb (by rw [y]; exact List.mem_cons_self)
      have n2 : b ≠ it := fun y => nb (by rw [y]; exact List.mem_cons_of_mem _ List.mem_cons_self)
      exact (sb.2 b n1).trans (kp b ob n1 n2 y)
    refine ⟨.ref s.heap.objs.size, _, inv', rfl, ⟨_, c, rfl, inv.hok.fresh (Nat.le_refl _), rfl, hc⟩, ⟨⟨.str ⟨#[c]⟩ u', ?_⟩, ?_, ne, lt⟩, fun b hb => ?_⟩
    · rw [show (((j + 1 : Nat) : Nat) : Int) = (j : Int) + 1 by omega]
      exact h1'
    · obtain ⟨ob, y1, y2⟩ := h2'
      exact ⟨ob, (sb.2 it (Ne.symm ne)).trans y1, y2⟩
    · have lb : b < s.heap.objs.size := by
        rcases List.mem_cons.mp hb with rfl | hb
        · exact l1
        · cases List.mem_singleton.mp hb
          exact l2
      rw [upd_ne (Nat.ne_of_lt lb)]
      exact (fp b hb).1
  done := by
    intro X e1 e2 e3 calm j pins s σ G Ex inv fp st ge
    cases e1
    cases e2
    cases e3
    obtain ⟨⟨old, h1⟩, h2, ne, le⟩ := st
    have ej : j = z.cps.size := Nat.le_antisymm le ge
    subst ej
    obtain ⟨f0, f1, f2, f3, f4, f5⟩ := fp it (List.mem_cons_of_mem _ List.mem_cons_self)
    exact PySem.wpAny_pyNext_enum_endD (draws_text (show X.A.in1.handled = none from inv.ok.hd calm) it z tk) h1 h2 fun g' eb => ⟨rfl, inv.turned (t' := s.toks) (fun b o nb y => eb b o nb y) f0 f1 f3 f4 f5⟩
  self := fun Ar j s Q Ex st y => by
    obtain ⟨⟨_, h1⟩, _⟩ := st
    exact PySem.wpAny_pyIter_enum h1 y
def iES (ta : L2.TA) : TI := fun σ G R => ta σ G fun vs G1 => ∃ z : Str, vs = [.str z] ∧ R (ItES z) G1
theorem pi_ES {X : Cx} {ex : Expr} {ta : L2.TA} {p pos tp : Pos} {ts : List Expr} {nn : Nat} (gl : Gl X "enumerate") (mm : X.mg "enumerate" = none) (ha : PA X [ex] ta) (hs : starEach [ex] X.env = [(false, eval ex X.env)] := by rfl) :
    PI X (.Tuple ts nn tp) (.Call (.Name "enumerate" p) [ex] [] pos) (iES ta) := by
  refine ⟨fun pins s σ G R inv y => ?_⟩
  refine PyProof.Rows.Call_ (ld_blt inv gl mm PyProof.Rows.boot_enumerate (PyProof.Rows.callWith_type1 (thn (ha.run pos pins s σ G _ inv y) fun us s1 ⟨vs, G1, inv1, r1, q1⟩ => ?_) hs rfl))
  obtain ⟨z, rfl, q⟩ := q1
  cases r1 with
  | cons r rr =>
    cases rr
    obtain ⟨tk, rfl⟩ := r
    refine PySem.call_enumerate_str fun g' h1 h2 sz kp => PySem.wpAny_pyIter_enum h1 ?_
    refine ⟨s1.heap.objs.size + 1, [s1.heap.objs.size + 1, s1.heap.objs.size], _, _, G1, rfl, inv1.kept (t' := s1.toks) kp, turn_ES (s1.heap.objs.size + 1) s1.heap.objs.size z tk, ⟨⟨.none, h1⟩, h2, Nat.succ_ne_self _, Nat.zero_le _⟩, fun b hb => ?_, q⟩
    have ge : s1.heap.objs.size ≤ b := by
      rcases List.mem_cons.mp hb with rfl | hb
      · exact Nat.le_succ _
      · cases List.mem_singleton.mp hb
        exact Nat.le_refl _
    exact inv1.fpOk ge (inv1.hok.fresh ge)
theorem for_ES {z : Str} {g : TG} {tb : TS} {D : Ends} {σ : L2.St} {G : Hp} (Pv : Nat → L2.St → Hp → Prop) (h0 : Pv 0 σ G)
    (hs : ∀ j c σ G, z.cps[j]? = some c → Pv j σ G → ∀ q, G q = none → g (.ref q) σ (upd G q (.tup [.int (j : Nat), .str ⟨#[c]⟩])) fun σ2 G2 => tb { D with nx := Pv (j + 1), ct := Pv (j + 1), bk := D.nx } σ2 G2) (hd : ∀ σ G, Pv z.cps.size σ G → D.nx σ G) :
    ∃ Wd : Nat → Nat → L2.St → Hp → Prop, (∃ m, Wd 0 m σ G) ∧ ∀ j m σ G, Wd j m σ G →
      ((ItES z).stop j G ∧ D.nx σ G) ∨ ((ItES z).go j G ∧ ∃ Nn : L2.St → Hp → Prop, (∀ σ' G', Nn σ' G' → ∃ m', m' < m ∧ Wd (j + 1) m' σ' G') ∧ ∀ v G', (ItES z).yld j G v G' → g v σ G' fun σ2 G2 => tb { D with nx := Nn, ct := Nn, bk := D.nx } σ2 G2) := by
  refine ⟨fun j m σ G => m = z.cps.size - j ∧ j ≤ z.cps.size ∧ Pv j σ G, ⟨_, rfl, Nat.zero_le _, h0⟩, ?_⟩
  rintro j m σ G ⟨rfl, le, pv⟩
  rcases Nat.lt_or_ge j z.cps.size with lt | ge
  · refine .inr ⟨lt, Pv (j + 1), fun σ' G' y => ⟨z.cps.size - (j + 1), by omega, rfl, lt, y⟩, fun v G' y => ?_⟩
    obtain ⟨q, c, rfl, nq, rfl, hc⟩ := y
    exact hs j c σ G hc pv q nq
  · have ej : j = z.cps.size := Nat.le_antisymm le ge
    subst ej
    exact .inl ⟨Nat.le_refl _, hd σ G pv⟩
/-! ### raising while an exception is handled that has a context itself (raise .. from None keeps it) -/
namespace HotY
open PySem.Spec PyProof.Rows
theorem bne_ref {a b : Addr} (h : a ≠ b) : ¬ ((Value.ref a == Value.ref b) = true) := fun z => h (by simpa using z)
/-- what a context may be: None, or an exception that p tells of and whose own is None -/
def Ctx2 (p : Addr → Obj → Prop) (c : Option Value) : Prop := c = some .none ∨ ∃ (y : Addr) (oy : Obj) (vy : Array Value), c = some (.ref y) ∧ p y oy ∧ oy.data = .fields vy ∧ vy[2]? = some .none
theorem Ctx2.imp {p q : Addr → Obj → Prop} {c : Option Value} (h : Ctx2 p c) (k : ∀ y oy, p y oy → (∃ vy : Array Value, oy.data = .fields vy) → q y oy) : Ctx2 q c :=
  Or.imp id (fun ⟨y, oy, vy, e, hp, d, n⟩ => ⟨y, oy, vy, e, k y oy hp ⟨vy, d⟩, d, n⟩) h
def HotAt (A : Around) (x1 : Addr) (h : Heap) : Prop := A.handled = some (.ref x1) ∧ ∃ (o : Obj) (vs : Array Value), h.get? x1 = some o ∧ o.data = .fields vs ∧ Ctx2 (fun y oy => h.get? y = some oy) vs[2]?
section
variable {prog : Program} {w : World} {A : Around} {E : Value → Shared → Prop} {s : Shared}
theorem unchained2 {x1 y a : Addr} {o1 oy : Obj} {vs1 vy : Array Value} {Q : Value → Shared → Prop} (h1 : s.heap.get? x1 = some o1) (d1 : o1.data = .fields vs1) (c1 : vs1[2]? = some (.ref y)) (hy : s.heap.get? y = some oy) (dy : oy.data = .fields vy) (cy : vy[2]? = some .none) (ya : y ≠ a) (yx : y ≠ x1) (q : Q .none s) :
    wpAny (model prog w) A (holding [Value.ref a] (runValue (.builtin "proto.unchain" ⟨[.ref a, .ref x1, .ref x1, .bool false], []⟩))) Q E s := by
  refine wpAny_holding (wpAny_runValue (codeAny_builtin HotX.entry_unchain ?_))
  show wpAny _ _ (field (.ref x1) 2 >>= _) _ _ s
  refine wpAny_bind (wpAny_field h1 d1 c1 ?_)
  rw [if_neg (show ¬ ((Value.ref y == Value.none) = true) from Bool.false_ne_true), if_neg (bne_ref ya), if_neg (bne_ref yx)]
  dsimp only
  rw [if_neg Bool.false_ne_true]
  refine wpAny_bind (wpAny_pure ?_)
  refine wpAny_pure ⟨by first | rfl | kernel_rfl | decide +kernel, codeAny_builtin HotX.entry_unchain ?_⟩
  show wpAny _ _ (field (.ref y) 2 >>= _) _ _ s
  refine wpAny_bind (wpAny_field hy dy cy ?_)
  rw [if_pos (show (Value.none == Value.none) = true from rfl)]
  first
  | exact wpAny_bind (wpAny_pure (wpAny_pure q))
  | exact wpAny_pure q
/-- the new one is not in the chain: it stands above what stood -/
theorem raiseNew_hot {α : Type} {a x1 : Addr} {old : Heap} {oe : Obj} {vs : Array Value} {Q : α → Shared → Prop} (hot : HotAt A x1 old) (up : ∀ b o, old.get? b = some o → s.heap.get? b = some o) (fr : old.get? a = none) (ha : s.heap.get? a = some oe) (da : oe.data = .fields vs) (hi : 2 < vs.size)
    (hE : E (.ref a) { s with heap := s.heap.update a (Obj.mapFields (·.setIfInBounds 2 (.ref x1))) }) : wpAny (model prog w) A (raiseNew (.ref a) : Sem α) Q E s := by
  obtain ⟨hh, o1, vs1, h1, d1, c1⟩ := hot
  have nx : x1 ≠ a := fun z => by rw [← z, h1] at fr; cases fr
  rcases c1 with c1 | ⟨y, oy, vy, c1, hy, dy, cy⟩
  · exact HotX.raiseNew_hot ⟨hh, o1, vs1, up _ _ h1, d1, c1⟩ nx ha da hi hE
  · have ny : y ≠ a := fun z => by rw [← z, hy] at fr; cases fr
    have yx : y ≠ x1 := fun z => by
      rw [z, h1] at hy
      cases hy
      rw [d1] at dy
      cases dy
      rw [c1] at cy
      cases cy
    unfold raiseNew
    refine wpAny_bind (wpAny_handled ?_)
    rw [hh]
    have hb : (Value.ref x1 != Value.ref a) = true := HotX.ref_bne nx
    first
    | (show wpAny _ _ (if (Value.ref x1 != Value.ref a) = true then _ else _) _ _ _
       rw [if_pos hb]
       first
       | exact wpAny_bind (unchained2 (up _ _ h1) d1 c1 (up _ _ hy) dy cy ny yx (wpAny_bind (HotX.chained ha da hi (wpAny_throw hE))))
       | exact wpAny_bind (wpAny_bind (unchained2 (up _ _ h1) d1 c1 (up _ _ hy) dy cy ny yx (HotX.chained ha da hi (wpAny_throw hE)))))
    | (refine wpAny_bind ?_
       show wpAny _ _ (if (Value.ref x1 != Value.ref a) = true then _ else _) _ _ _
       rw [if_pos hb]
       exact wpAny_bind (unchained2 (up _ _ h1) d1 c1 (up _ _ hy) dy cy ny yx (HotX.chained ha da hi (wpAny_throw hE))))
end
end HotY
/-! ### iterators at their end while an exception is handled -/
section
variable {Pr : Program} {wo : World} {Ar : Around} {Ex : Value → Shared → Prop} {st : Shared}
open HotY
/-- a StopIteration, made and raised there: all that stood stands -/
theorem stop_hot {α : Type} {xh : Addr} {Qa : α → Shared → Prop} (hot : HotAt Ar xh st.heap) (k : ∀ g (a : Addr), (∀ b o, st.heap.get? b = some o → g.get? b = some o) → (∃ o, g.get? a = some o ∧ o.cls = .type "StopIteration") → Ex (.ref a) { st with heap := g }) :
    wpAny (model Pr wo) Ar (newExc (.type "StopIteration") [] >>= fun e => (raiseNew e : Sem α)) Qa Ex st := by
  have fr : st.heap.get? (st.heap.objs.size + 1) = Option.none := by
    cases q : st.heap.get? (st.heap.objs.size + 1) with
    | none => rfl
    | some o =>
      have z : st.heap.objs.size + 1 < st.heap.objs.size := Heap.lt_size q
      exact absurd z (by omega)
  simp only [newExc, newTuple]
  refine wpAny_bind (wpAny_bind (wpAny_newObj_type (wpAny_bind (m := firstArgMember _ _) (wpAny_of_eq (a := Value.none) (by first | rfl | (simp only [firstArgMember]; rfl)) (wpAny_newObj_type ?_ (by size_fits)))) (by size_fits)))
  refine raiseNew_hot (x1 := xh) hot (fun b o y => Heap.get?_push_of_some _ (Heap.get?_push_of_some _ y)) (by rw [Heap.size_push]; exact fr) (Heap.get?_push_size _ rfl) rfl (by first | (simp; done) | (simp; omega)) ?_
  refine k _ _ (fun b o y => ?_) ⟨_, Heap.get?_update_self _ (Heap.get?_push_size _ rfl) rfl, rfl⟩
  rw [Heap.get?_update_other _ _ (Nat.ne_of_gt (Heap.lt_size (Heap.get?_push_of_some _ y)))]
  exact Heap.get?_push_of_some _ (Heap.get?_push_of_some _ y)
theorem list_end_hot {ite lis xh : Addr} {j : Nat} {its : Array Value} {Qn : Option Value → Shared → Prop} (hot : HotAt Ar xh st.heap) (nxi : xh ≠ ite) (hi : st.heap.IsListIter ite lis j) (hL : st.heap.IsList lis its) (out : its[j]? = none)
    (k : ∀ g, Heap.ExtBut ite st.heap g → Qn none { st with heap := g }) : wpAny (model Pr wo) Ar (pyNext (.ref ite)) Qn Ex st := by
  obtain ⟨oi, h1, h2, h3⟩ := id hi
  obtain ⟨ol, h4, _, nl, h5⟩ := hL
  obtain ⟨hh, oe, ve, e1, e2, e3⟩ := hot
  unfold pyNext
  refine wpAny_bind (wpAny_attempt (wpAny_callSpecial?_slot (name := Str.ofString "__next__") hi.typeIs PySem.slot_listiter_next (wpAny_call_entry PySem.slot_listiter_next hi.typeIs PySem.entry_listiter_next ?_ (PySem.args_listiter_next _))))
  show wpAny _ _ (field (.ref ite) 0 >>= _) _ _ st
  refine wpAny_bind (wpAny_field h1 h3 (x := .ref lis) rfl ?_)
  show wpAny _ _ (if (Value.ref lis == Value.none) = true then _ else _) _ _ st
  rw [if_neg (show ¬ ((Value.ref lis == Value.none) = true) from Bool.false_ne_true)]
  show wpAny _ _ (field (.ref ite) 1 >>= _) _ _ st
  refine wpAny_bind (wpAny_field h1 h3 (x := .int j 0) rfl ?_)
  show wpAny _ _ (seqItems? (.ref lis) >>= _) _ _ st
  refine wpAny_bind (wpAny_seqItems h4 h5 ?_)
  simp only [Int.toNat_natCast, out]
  refine wpAny_bind (wpAny_rule (wpAny_bind (wpAny_setField h1 h3 (by simp) ?_)))
  have hot' : HotAt Ar.in1 xh (st.heap.update ite (Obj.mapFields (·.setIfInBounds 0 Value.none))) := ⟨hh, oe, ve, by rw [Heap.get?_update_other _ _ nxi.symm]; exact e1, e2, e3.elim .inl fun ⟨y, oy, vy, y1, y2, y3, y4⟩ => .inr ⟨y, oy, vy, y1, by
    have ny : ite ≠ y := fun z => by
      rw [← z, h1] at y2
      cases y2
      rw [h3] at y3
      cases y3
      cases y4
    show (st.heap.update ite (Obj.mapFields (·.setIfInBounds 0 Value.none))).get? y = some oy
    rw [Heap.get?_update_other _ _ ny]
    exact y2, y3, y4⟩⟩
  refine stop_hot hot' fun g a kp ha => ?_
  obtain ⟨oa, y1, y2⟩ := ha
  refine wpAny_bind (wpAny_isInstance (T := "StopIteration") (b := true) ⟨oa, y1, y2⟩ PySem.isSubtype_stop (wpAny_pure (k _ fun b o nb y => kp b o ?_)))
  rw [Heap.get?_update_other _ _ (Ne.symm nb)]
  exact y
theorem tuple_end_hot {ite tup xh : Addr} {j : Nat} {its : Array Value} {Qn : Option Value → Shared → Prop} (hot : HotAt Ar xh st.heap) (nxi : xh ≠ ite) (hi : PyProof.Rows.IsTupIter st.heap ite tup j) (hT : PyProof.Rows.IsTup st.heap tup its) (out : its[j]? = none)
    (k : ∀ g, Heap.ExtBut ite st.heap g → Qn none { st with heap := g }) : wpAny (model Pr wo) Ar (pyNext (.ref ite)) Qn Ex st := by
  obtain ⟨oi, h1, h2, h3⟩ := id hi
  obtain ⟨ol, h4, _, nl, h5⟩ := hT
  obtain ⟨hh, oe, ve, e1, e2, e3⟩ := hot
  unfold pyNext
  refine wpAny_bind (wpAny_attempt (wpAny_callSpecial?_slot (name := Str.ofString "__next__") hi.typeIs PySem.F.slot_tuple_iterator_next (wpAny_call_entry PySem.F.slot_tuple_iterator_next hi.typeIs PySem.F.entry_tuple_iterator_next ?_ (PySem.F.args_tuple_iterator_next_1 _))))
  show wpAny _ _ (field (.ref ite) 0 >>= _) _ _ st
  refine wpAny_bind (wpAny_field h1 h3 (x := .ref tup) rfl ?_)
  show wpAny _ _ (if (Value.ref tup == Value.none) = true then _ else _) _ _ st
  rw [if_neg (show ¬ ((Value.ref tup == Value.none) = true) from Bool.false_ne_true)]
  show wpAny _ _ (field (.ref ite) 1 >>= _) _ _ st
  refine wpAny_bind (wpAny_field h1 h3 (x := .int j 0) rfl ?_)
  show wpAny _ _ (seqItems? (.ref tup) >>= _) _ _ st
  refine wpAny_bind (wpAny_seqItems h4 h5 ?_)
  simp only [Int.toNat_natCast, out]
  refine wpAny_bind (wpAny_rule (wpAny_bind (wpAny_setField h1 h3 (by simp) ?_)))
  have hot' : HotAt Ar.in1 xh (st.heap.update ite (Obj.mapFields (·.setIfInBounds 0 Value.none))) := ⟨hh, oe, ve, by rw [Heap.get?_update_other _ _ nxi.symm]; exact e1, e2, e3.elim .inl fun ⟨y, oy, vy, y1, y2, y3, y4⟩ => .inr ⟨y, oy, vy, y1, by
    have ny : ite ≠ y := fun z => by
      rw [← z, h1] at y2
      cases y2
      rw [h3] at y3
      cases y3
      cases y4
    show (st.heap.update ite (Obj.mapFields (·.setIfInBounds 0 Value.none))).get? y = some oy
    rw [Heap.get?_update_other _ _ ny]
    exact y2, y3, y4⟩⟩
  refine stop_hot hot' fun g a kp ha => ?_
  obtain ⟨oa, y1, y2⟩ := ha
  refine wpAny_bind (wpAny_isInstance (T := "StopIteration") (b := true) ⟨oa, y1, y2⟩ PySem.isSubtype_stop (wpAny_pure (k _ fun b o nb y => kp b o ?_)))
  rw [Heap.get?_update_other _ _ (Ne.symm nb)]
  exact y
/-- a, b = a tuple, there -/
theorem unpack_hot {tup xh : Addr} {its : Array Value} {Ql : List Value → Shared → Prop} (hot : HotAt Ar xh st.heap) (hT : PyProof.Rows.IsTup st.heap tup its)
    (k : ∀ g, Heap.ExtBut st.heap.objs.size st.heap g → Ql its.toList { st with heap := g }) : wpAny (model Pr wo) Ar (unpackItems (.ref tup) its.size none) Ql Ex st := by
  have nt : tup ≠ st.heap.objs.size := by
    obtain ⟨o, y, _⟩ := hT
    exact Nat.ne_of_lt (Heap.lt_size y)
  obtain ⟨hh, oe, ve, e1, e2, e3⟩ := hot
  have nx : xh ≠ st.heap.objs.size := Nat.ne_of_lt (Heap.lt_size e1)
  unfold unpackItems
  refine wpAny_bind ?_
  unfold notIterableAtAll
  refine wpAny_bind (wpAny_specialOf hT.typeIs PyProof.Rows.slot_tuple_iter.lookup (wpAny_pure ?_))
  simp only [Bool.false_eq_true, if_false]
  refine wpAny_bind (wpAny_holding (PyProof.Rows.iter_tuple hT (wpAny_bind (wpAny_holding (PyProof.Rows.draw_tuple nt its.size 0 _ _ ⟨_, Heap.get?_push_size _ rfl, rfl, rfl⟩ (hT.push _) (by omega) fun g1 hi1 sb1 => ?_)))))
  rw [show List.take its.size (List.drop 0 its.toList) = its.toList by rw [List.drop_zero]; exact List.take_of_length_le (by simp), if_neg (by simp)]
  have hT1 : PyProof.Rows.IsTup g1 tup its := (hT.push _).extBut sb1.extBut nt
  have hot1 : HotAt Ar xh g1 := ⟨hh, oe, ve, sb1.extBut _ _ nx (Heap.get?_push_of_some _ e1), e2, e3.imp fun y oy y2 _ => sb1.extBut _ _ (Nat.ne_of_lt (Heap.lt_size y2)) (Heap.get?_push_of_some _ y2)⟩
  refine wpAny_bind (wpAny_holding (tuple_end_hot (st := { st with heap := g1 }) hot1 nx hi1 hT1 (by simp) fun g2 eb2 => ?_))
  simp only [Option.isSome_none, Bool.false_eq_true, if_false]
  exact wpAny_pure (k g2 fun b o nb y => eb2 b o nb (sb1.extBut b o nb (Heap.get?_push_of_some _ y)))
end
/-! ### a context in which an exception is handled that stood when it began -/
structure HotB (X : Cx) (xh : Addr) (oh : Obj) : Prop where
  hnd : X.A.handled = some (.ref xh)
  obj : X.s_0.heap.get? xh = some oh
  dat : ∃ vs : Array Value, oh.data = .fields vs ∧ HotY.Ctx2 (fun y oy => X.s_0.heap.get? y = some oy ∧ X.H_0 y = Option.none ∧ y ∉ X.fs ∧ y ∉ X.ex) vs[2]?
  unt : X.H_0 xh = none
  nfs : xh ∉ X.fs
  nex : xh ∉ X.ex
section
variable {X : Cx} {pins : List (Addr × Obj)} {σ : L2.St} {H : Hp} {s : Shared} {xh : Addr} {oh : Obj}
theorem HotB.get (h : HotB X xh oh) (I : Inv X pins σ H s) : s.heap.get? xh = some oh := I.base.keep xh oh h.obj h.unt h.nfs h.nex
theorem HotB.hot (h : HotB X xh oh) (I : Inv X pins σ H s) : HotY.HotAt X.A xh s.heap := by
  obtain ⟨vs, d1, d2⟩ := h.dat
  exact ⟨h.hnd, oh, vs, h.get I, d1, d2.imp fun y oy k _ => I.base.keep y oy k.1 k.2.1 k.2.2.1 k.2.2.2⟩
theorem HotB.none (h : HotB X xh oh) (I : Inv X pins σ H s) : H xh = Option.none := I.base.free xh oh h.obj h.unt h.nex
theorem HotB.nloc (h : HotB X xh oh) (I : Inv X pins σ H s) : xh ≠ X.env.locals := fun z => by
  obtain ⟨m, ⟨o, es, ep, e1, e2, _⟩, _⟩ := I.loc
  obtain ⟨vs, d1, _⟩ := h.dat
  have g := h.get I
  rw [z, e1] at g
  cases g
  rw [d1] at e2
  cases e2
theorem nloc_of {y : Addr} {oy : Obj} (I : Inv X pins σ H s) (g : s.heap.get? y = some oy) (hd : ∃ vy : Array Value, oy.data = .fields vy) : y ≠ X.env.locals := fun z => by
  obtain ⟨m, ⟨o, es, ep, e1, e2, _⟩, _⟩ := I.loc
  obtain ⟨vs, d1⟩ := hd
  rw [z, e1] at g
  cases g
  rw [d1] at e2
  cases e2
theorem big_of {p : Addr → Obj → Prop} {vs : Array Value} (c : HotY.Ctx2 p vs[2]?) : 2 < vs.size := by
  rcases c with c | ⟨y, oy, vy, c, _⟩
  · exact (Array.getElem?_eq_some_iff.mp c).1
  · exact (Array.getElem?_eq_some_iff.mp c).1
theorem HotB.blk (h : HotB X xh oh) (I : Inv X pins σ H s) (scope : Scope) (ce : Env) {fp : List Addr} (hf : ∀ (b : Addr) (o : Obj) (vs : Array Value), s.heap.get? b = some o → o.data = .fields vs → 2 < vs.size → b ∉ fp) : HotB (X.blk s H scope ce fp) xh oh := by
  obtain ⟨vs, d1, d2⟩ := h.dat
  refine ⟨h.hnd, h.get I, ⟨vs, d1, ?_⟩, h.none I, fun z => (List.mem_cons.mp (I.stkSub xh z)).elim (h.nloc I) h.nfs, hf xh oh vs (h.get I) d1 (big_of d2)⟩
  rcases d2 with d2 | ⟨y, oy, vy, c, ⟨k1, k2, k3, k4⟩, dy, cy⟩
  · exact .inl d2
  · have gy := I.base.keep y oy k1 k2 k3 k4
    exact .inr ⟨y, oy, vy, c, ⟨gy, I.base.free y oy k1 k2 k4, fun z => (List.mem_cons.mp (I.stkSub y z)).elim (nloc_of I gy ⟨vy, dy⟩) k3, hf y oy vy gy dy (Array.getElem?_eq_some_iff.mp cy).1⟩, dy, cy⟩
/-- (a, b) = a tuple, there -/
theorem pg_tupB {es : List Expr} {k : Nat} {t : TGs} {n : Nat} {pos : Pos} (hb : HotB X xh oh) (h : PGs X es t)
    (hn : (assignEach es X.env).length = n := by rfl) (hst : (assignEach es X.env).findIdx? (·.1) = Option.none := by rfl) : PG X (.Tuple es k pos) (gTup X.K n t) := by
  refine ⟨fun pins s σ H v u Q I r y => ?_⟩
  obtain ⟨a, xs, rfl, hq, hl, y⟩ := y
  cases r
  obtain ⟨its, rv, hT, hz⟩ := I.tuple hq
  have e1 : (assignEach es X.env).length = its.toArray.size := by
    rw [List.size_toArray, hn, ← hl, rv.length]
  rw [PyProof.Rows.assign_Tuple]
  refine wpAny_bind (wpAny_standAt ?_)
  unfold unpack
  rw [e1, hst]
  refine wpAny_bind (wpAny_holding (unpack_hot (hb.hot I) hT fun g eb => ?_))
  have I1 : Inv X pins σ H { s with heap := g } := I.kept (t' := s.toks) fun b o e => eb b o (Nat.ne_of_lt (Heap.lt_size e)) e
  exact h.run pins _ σ H xs _ Q I1 (by simpa using rv) y
/-- [elt for tg in a list if ..], there -/
def tLcB (K : PySem.W.Frag) (tl : TE) (g : TG) (tt : TT) (te : TE) (vs : List Nat) : TE := fun σ H Q => tl σ H fun x H1 => ∃ a xs, x = .ref a ∧ SqL K H1 a xs ∧ ∀ D, H1 D = Option.none → ∃ Pv : Nat → Hp → Prop, Pv 0 (upd H1 D (.lst [])) ∧ (∀ i G, i ≤ xs.length → Pv i G → SqL K G a xs) ∧
  (∀ i v G, xs[i]? = some v → Pv i G → g v (wipe σ vs) G fun σ2 G2 => wipe σ2 vs = wipe σ vs ∧ tt σ2 G2 fun b G3 => if b = true then te σ2 G3 fun y G4 => ∃ acc, G4 D = some (.lst acc) ∧ acc.length < sizeLine ∧ Pv (i + 1) (upd G4 D (.lst (acc ++ [y]))) else Pv (i + 1) G3) ∧ ∀ G, Pv xs.length G → Q (.ref D) G
theorem pe_lcB {elt tg iter : Expr} {ifs : List Expr} {scope : Scope} {own : List (Str × Nat)} {pos : Pos} {tl : TE} {g : TG} {tt : TT} {te : TE} (hb : HotB X xh oh) (hN : X.N.Nodup) (hi : PE X iter tl) (ok : BlkOk X.N X.env.scope scope own)
    (hg : ∀ (s : Shared) (H : Hp) (C : Addr) (cl : List (Str × Addr)) (fp : List Addr), HotB (X.blk s H scope (compEnvC scope cl C X.env) fp) xh oh → PG (X.blk s H scope (compEnvC scope cl C X.env) fp) tg g)
    (ht : ∀ (s : Shared) (H : Hp) (C : Addr) (cl : List (Str × Addr)) (fp : List Addr), PTs (X.blk s H scope (compEnvC scope cl C X.env) fp) ifs tt)
    (he : ∀ (s : Shared) (H : Hp) (C : Addr) (cl : List (Str × Addr)) (fp : List Addr), PE (X.blk s H scope (compEnvC scope cl C X.env) fp) elt te) (hs : ∀ x, foldedSetIterable iter X.env x = pure x := by intro _; rfl) :
    PE X (.ListComp elt [⟨tg, iter, ifs, 0⟩] scope pos) (tLcB X.K tl g tt te (own.map (·.2))) := by
  refine ⟨fun pins s σ H Q I h => ?_⟩
  rw [eval_ListComp]
  have hfree : ∀ y ∈ scope.names, y.2 = .free → ∃ c, X.env.cells.lookup y.1 = some c := fun y hy e => (ok.free y hy e).elim (fun k => I.ok.has _ (.inl k)) (fun k => I.ok.has _ (.inr k))
  refine wpAny_comprehension_free (use := Option.none) rfl hs (closure_ok hfree) ok.kind (fun y hy e => by rw [ok.uniq y hy, e]) (thn (hi.run pins s σ H _ I h) fun xv s1 ⟨x, H1, I1, r1, a, xs, ex, hL, k⟩ => ?_)
  subst ex
  cases r1
  obtain ⟨its, rv, hl, hz⟩ := I1.list hL
  refine PySem.wpAny_pyIter_list hl.isList ?_
  -- the iterator's object, the new list, the block's frame
  have I2 : Inv X pins σ H1 { s1 with heap := s1.heap.push { cls := .type "list_iterator", data := .fields #[.ref a, .int 0 0] } } := I1.kept (t' := s1.toks) fun b o e => Heap.get?_push_of_some _ e
  have hit2 : ({ s1 with heap := s1.heap.push { cls := .type "list_iterator", data := .fields #[.ref a, .int 0 0] } } : Shared).heap.IsListIter s1.heap.objs.size a 0 := ⟨_, Heap.get?_push_size _ rfl, rfl, rfl⟩
  have it0 : H1 s1.heap.objs.size = Option.none := I1.hok.fresh (Nat.le_refl _)
  have fit : FpOk X pins H1 s1.heap.objs.size := I1.fpOk (Nat.le_refl _) it0
  have nxi : xh ≠ s1.heap.objs.size := Nat.ne_of_lt (Heap.lt_size (hb.get I1))
  have ltit : s1.heap.objs.size < ({ s1 with heap := s1.heap.push { cls := .type "list_iterator", data := .fields #[.ref a, .int 0 0] } } : Shared).heap.objs.size := by
    show _ < (s1.heap.push _).objs.size
    rw [Heap.size_push]
    exact Nat.lt_succ_self _
  generalize ({ s1 with heap := s1.heap.push { cls := .type "list_iterator", data := .fields #[.ref a, .int 0 0] } } : Shared) = s2 at *
  generalize s1.heap.objs.size = it at *
  refine wpAny_newObj_type (newEnv_comp ?_) (by show 0 ≤ sizeLine; decide)
  obtain ⟨Pv, p0, pl, pt, pd⟩ := k s2.heap.objs.size (I2.hok.fresh (Nat.le_refl _))
  have I3 : Inv X pins σ (upd H1 s2.heap.objs.size (.lst [])) { s2 with heap := s2.heap.push { cls := .type "list", data := .seq ([] : List Value).toArray } } :=
    I2.laid (t' := s2.toks) (fun b o e => Heap.get?_push_of_some _ e) (Nat.le_refl _) ⟨Nat.zero_le _, [], 0, .nil, Heap.get?_push_size _ rfl⟩
  have hit3 : ({ s2 with heap := s2.heap.push { cls := .type "list", data := .seq ([] : List Value).toArray } } : Shared).heap.IsListIter it a 0 := by
    obtain ⟨o, y1, y2⟩ := hit2
    exact ⟨o, Heap.get?_push_of_some _ y1, y2⟩
  have lt3 : it < ({ s2 with heap := s2.heap.push { cls := .type "list", data := .seq ([] : List Value).toArray } } : Shared).heap.objs.size := by
    show _ < (s2.heap.push _).objs.size
    rw [Heap.size_push]
    exact Nat.lt_succ_of_lt ltit
  have fit3 : FpOk X pins (upd H1 s2.heap.objs.size (.lst [])) it := ⟨by rw [upd_ne (Nat.ne_of_lt ltit)]; exact it0, fit.2⟩
  generalize hDD : s2.heap.objs.size = D at *
  generalize ({ s2 with heap := s2.heap.push { cls := .type "list", data := .seq ([] : List Value).toArray } } : Shared) = s3 at *
  generalize upd H1 D (.lst []) = H3 at *
  have I4 := block_start I3 ok hN (fp := [it]) fun b hm => by
    rw [List.mem_singleton.mp hm]
    exact ⟨fit3, lt3⟩
  -- the block's context, by letters
  have hotB := fun ce => hb.blk I3 scope ce (fp := [it]) fun b o vs e1 e2 e3 z => by
    obtain ⟨oi, i1, _, i3⟩ := hit3
    rw [List.mem_singleton.mp z, i1] at e1
    cases e1
    rw [i3] at e2
    cases e2
    exact absurd (show 2 < 2 from e3) (by omega)
  have pg := fun cl => hg s3 H3 s3.heap.objs.size cl [it] (hotB _)
  have pts := fun cl => ht s3 H3 s3.heap.objs.size cl [it]
  have pe := fun cl => he s3 H3 s3.heap.objs.size cl [it]
  have hit4 : ({ s3 with heap := pushCells (s3.heap.push { cls := .type "dict", data := .dict #[] }) scope.names } : Shared).heap.IsListIter it a 0 := by
    obtain ⟨o, y1, y2⟩ := hit3
    exact ⟨o, pushCells_keeps _ _ _ _ (Heap.get?_push_of_some _ y1), y2⟩
  show codeAny _ _ (.compStart (.ListComp elt [⟨tg, iter, ifs, 0⟩] scope pos) 0 (.ref it) (.ref D) (compEnvC scope (cellsFrom (s3.heap.objs.size + 1) scope.names (cloFrom X.env.cells scope.names [])) s3.heap.objs.size X.env)) (compPost (model X.prog X.w) X.A X.xe Option.none (EP X pins σ Q) (.ref D) s3.heap.objs.size) { s3 with heap := pushCells (s3.heap.push { cls := .type "dict", data := .dict #[] }) scope.names }
  specialize pg (cellsFrom (s3.heap.objs.size + 1) scope.names (cloFrom X.env.cells scope.names []))
  specialize pts (cellsFrom (s3.heap.objs.size + 1) scope.names (cloFrom X.env.cells scope.names []))
  specialize pe (cellsFrom (s3.heap.objs.size + 1) scope.names (cloFrom X.env.cells scope.names []))
  have eL : (compEnvC scope (cellsFrom (s3.heap.objs.size + 1) scope.names (cloFrom X.env.cells scope.names [])) s3.heap.objs.size X.env).locals = s3.heap.objs.size := rfl
  generalize compEnvC scope (cellsFrom (s3.heap.objs.size + 1) scope.names (cloFrom X.env.cells scope.names [])) s3.heap.objs.size X.env = ce at *
  generalize ({ s3 with heap := pushCells (s3.heap.push { cls := .type "dict", data := .dict #[] }) scope.names } : Shared) = s4 at *
  have hb4 := hotB ce
  have mem1 : it ∈ [it] := List.mem_singleton.mpr rfl
  have fpk : ∀ {σ' : L2.St} {G : Hp} {s' : Shared}, Inv (X.blk s3 H3 scope ce [it]) [] σ' G s' → G it = Option.none → FpOk (X.blk s3 H3 scope ce [it]) [] G it := fun {σ' G s'} J g0 =>
    ⟨g0, (J.ok.exf it mem1).1, J.ok.exfs it mem1, .inl mem1, fun y c e => (J.ok.exf it mem1).2 y c e, fun p hp => absurd (show p ∈ ([] : List (Addr × Obj)) ++ [] from hp) (by simp)⟩
  have loop : ∀ s4 : Shared, Inv (X.blk s3 H3 scope ce [it]) [] (wipe σ (own.map (·.2))) H3 s4 → s4.heap.IsListIter it a 0 → codeAny (model X.prog X.w) X.A (.compLoop (.ListComp elt [⟨tg, iter, ifs, 0⟩] scope pos) 0 (.ref it) (.ref D) ce) (compPost (model X.prog X.w) X.A X.xe Option.none (EP X pins σ Q) (.ref D) s3.heap.objs.size) s4 := by
    intro s4 I4 hit4
    refine compLoop_any (fun n s' => ∃ j G, n = xs.length - j ∧ j ≤ xs.length ∧ Inv (X.blk s3 H3 scope ce [it]) [] (wipe σ (own.map (·.2))) G s' ∧ s'.heap.IsListIter it a j ∧ G it = Option.none ∧ Pv j G) ?_ _ ⟨0, H3, rfl, Nat.zero_le _, I4, hit4, fit3.1, p0⟩
    rintro n s5 ⟨j, G, rfl, le, I5, hi5, g5, pv⟩
    have hL5 : SqL (X.blk s3 H3 scope ce [it]).K G a xs := pl j G le pv
    obtain ⟨its5, rv5, hl5, hz5⟩ := I5.list hL5
    obtain ⟨f0, f1, f2, f3, f4, f5⟩ := fpk I5 g5
    rcases Nat.lt_or_ge j xs.length with lt | ge
    · obtain ⟨u, hu, ru⟩ := rv5.get (List.getElem?_eq_getElem lt)
      refine PySem.wpAny_pyNext_list_item hi5 hl5.isList (x := u) (by simpa using hu) fun g6 hi6 sb6 => ?_
      have I6 : Inv (X.blk s3 H3 scope ce [it]) [] (wipe σ (own.map (·.2))) G { s5 with heap := g6 } := I5.turned (t' := s5.toks) (fun b o nb e => (sb6.2 b nb).trans e) f0 f1 f3 f4 f5
      obtain ⟨o6, y1, y2, y3⟩ := id hi6
      refine go_of (s := { s5 with heap := g6 }) y1 y2 y3 (by decide) ?_
      have I6p := I6.pinned (fp := [it]) (fun b hm => by rw [List.mem_singleton.mp hm]; exact fpk I6 g5) (fun b hm => by rw [List.mem_singleton.mp hm]; exact ⟨o6, y1, fun v z => by rw [y3] at z; cases z⟩)
      refine thnF (pg.run _ _ _ G _ u _ I6p ru (pt j _ G (List.getElem?_eq_getElem lt) pv)) fun _ s8 ⟨σ8, H8, I8, hw8, q8⟩ => ?_
      refine thnF (pts.run _ s8 σ8 H8 _ I8 q8) fun b s9 ⟨H9, I9, q9⟩ => ?_
      have fin : ∀ {s' : Shared} {G' : Hp}, Inv (X.blk s3 H3 scope ce [it]) ([] ++ pinsAt [it] g6) σ8 G' s' → Pv (j + 1) G' → ∃ m, m < xs.length - j ∧ ∃ j' G', m = xs.length - j' ∧ j' ≤ xs.length ∧ Inv (X.blk s3 H3 scope ce [it]) [] (wipe σ (own.map (·.2))) G' s' ∧ s'.heap.IsListIter it a j' ∧ G' it = Option.none ∧ Pv j' G' := fun {s' G'} J nx => by
        have pin := J.pin (it, o6) (List.mem_append_right _ (List.mem_append_right _ (mem_pinsAt mem1 y1)))
        have hln : (wipe σ (own.map (·.2))).length = σ8.length := by rw [← hw8, wipe_length]
        refine ⟨xs.length - (j + 1), by omega, j + 1, G', rfl, lt, (J.unpinned (pins := [])).weak hln (fun i v e => ?_), ⟨o6, pin.1, y2, y3⟩, pin.2.1, nx⟩
        rw [← hw8] at e
        exact (wipe_some e).1
      cases b with
      | false =>
        simp only [Bool.false_eq_true, if_false] at q9 ⊢
        exact fin I9 q9
      | true =>
        simp only [if_true] at q9 ⊢
        refine thnF (pe.run _ s9 σ8 H9 _ I9 q9) fun z s10 ⟨yv, H10, I10, r10, acc, hD10, hz10, nx⟩ => ?_
        exact app_ok (X := X.blk s3 H3 scope ce [it]) I10 hD10 hz10 r10 fun s11 I11 => fin I11 nx
    · have ej : j = xs.length := Nat.le_antisymm le ge
      subst ej
      refine list_end_hot (hb4.hot I5) nxi hi5 hl5.isList (by have := rv5.length; simp; omega) fun g6 eb => ?_
      have I6 : Inv (X.blk s3 H3 scope ce [it]) [] (wipe σ (own.map (·.2))) G { s5 with heap := g6 } := I5.turned (t' := s5.toks) (fun b o nb e => eb b o nb e) f0 f1 f3 f4 f5
      have I7 : Inv X pins σ G { s5 with heap := g6 } := I3.call' (ch := [it]) I6.os I6.base I6.hok I6.bare fun b hm => by
        rw [List.mem_singleton.mp hm]
        exact ⟨fit3.2.2.2.1, fit3.2.1, fit3.2.2.2.2.1, fit3.2.2.2.2.2⟩
      have nC : G s3.heap.objs.size = Option.none := by
        have z : G ce.locals = Option.none := I6.free
        rw [eL] at z
        exact z
      obtain ⟨m, hn, _⟩ := I6.loc
      have hn : g6.Ns ce.locals m := hn
      rw [eL] at hn
      obtain ⟨k0, k1, k2, k3, k4, k5⟩ := I3.fpOk (Nat.le_refl _) nC
      exact ⟨m, hn, fun g7 sb => ⟨.ref D, G, I7.turned (t' := s5.toks) (fun b o nb e => (sb.2 b nb).trans e) k0 k1 k3 k4 k5, rfl, pd G pv⟩⟩
  refine codeAny_compStart_list (loop s4 I4 hit4) ?_
  exact PySem.wpAny_pyIter_listiter hit4 (loop s4 I4 hit4)
end
open PySem.Spec PyProof.Rows
/-! ### isinstance of the handled exception, wherever it was handed -/
def rIsB (K : PySem.W.Frag) (D xh : Addr) : List V → Hp → VK → Prop := fun vs H Q => ∃ (c : V) (u : Value) (b : Bool), vs = [.ref xh, c] ∧ ClsV c u ∧ PySem.W.kitOne K (.ref D) u = some b ∧ Q (.bl b) H
theorem call_isB {X : Cx} {xh D : Addr} {oh : Obj} (hb : HotB X xh oh) (C : ExcC X.K D) (hc : oh.cls = .ref D) (hd : oh.dict = none) : CallR X (.builtin "isinstance") (rIsB X.K D xh) := by
  intro pins s σ H vs us Q I r y
  obtain ⟨c, u, b, rfl, kc, e, q⟩ := y
  obtain ⟨u1, u2, rfl, r1, r2⟩ := vals2 r
  cases (show u1 = Value.ref xh from r1)
  have e2 := kc.eq r2
  subst e2
  obtain ⟨ws, d1, _⟩ := hb.dat
  have J : PySem.W.InstAt s.heap xh oh D none := by
    have g := hb.get I
    obtain ⟨oc, od, oda, osl⟩ := oh
    dsimp only at hc hd d1
    subst hc hd d1
    exact ⟨g, rfl, rfl, trivial⟩
  exact PySem.W.kia_one (PySem.W.handS_kitx_exc C.hg C.hk C.hs C.hd C.ha C.hn C.ht C.hm) I.kIn J e (fun z => nomatch z) fun tk => ⟨.bl b, H, I.tok tk, rfl, q⟩
/-! ### a def called while an exception is handled, that exception told -/
structure HotP (A : Around) (outer : List Env) (H : Hp) (s : Shared) (xh : Addr) (oh : Obj) : Prop where
  hnd : A.handled = some (.ref xh)
  dat : ∃ vs : Array Value, oh.data = .fields vs ∧ HotY.Ctx2 (fun y oy => L2H.PinOk outer H s (y, oy)) vs[2]?
  pin : L2H.PinOk outer H s (xh, oh)
theorem HotP.b {CX : CXT} {P : Program} {w : World} {K : PySem.W.Frag} {mg : Str → Option Value} {base : Heap} {N : List Str} {qual : Str} {scope : Scope} {f : Addr} {cd : Value} {A : Around} {outer : List Env} {s : Shared} {H : Hp} {E : XK} {xh : Addr} {oh : Obj} (h : HotP A outer H s xh oh) :
    HotB (L2H.cxH CX P w K mg base N qual scope f cd A outer s H E (xh, oh)) xh oh := ⟨h.hnd, h.pin.get, h.dat.imp fun vs d => ⟨d.1, d.2.imp fun y oy k _ => ⟨k.get, k.free, k.nofs, fun z => nomatch (show y ∈ ([] : List Addr) from z)⟩⟩, h.pin.free, h.pin.nofs, fun z => nomatch (show xh ∈ ([] : List Addr) from z)⟩
/-- its promise: sp with the exception told -/
def FnB (P : Program) (w : World) (K : PySem.W.Frag) (mg : Str → Option Value) (base : Heap) (k : Nat) (f : Addr) (fd : FuncData) (ps : List Str) (sp : Addr → Value → Option Addr → Sp) : Prop :=
  ∀ (A : Around) (outer : List Env) (s : Shared) (H : Hp) (args : Args) (us : List Value) (vs : List V) (Q : VK) (xh : Addr) (oh : Obj), L2H.RoomH k A → HotP A outer H s xh oh → Env0 P w K mg base A outer s H → BindsTo s fd args (ps.zip us) → Vals vs us → vs.length = ps.length → sp xh oh.cls oh.dict vs H Q E0 →
    codeAny (model P w) A (.call (.ref f) args) (CR CX0 outer P w H s Q E0) s
theorem Fun.okB {P : Program} {w : World} {K : PySem.W.Frag} {mg : Str → Option Value} {base : Heap} {x qual : Str} {st : Stmt} {f : Addr} {fd : FuncData} {N ps : List Str} {k : Nat} {sp : Addr → Value → Option Addr → Sp} (F : L2.Fun K x qual st f fd) (S : FnScope N ps (defScope st))
    (body : ∀ (cdv : Value) (A : Around) (outer : List Env) (s : Shared) (H : Hp) (vs : List V) (Q : VK) (xh : Addr) (oh : Obj), L2H.RoomH k (A.deeper (PyProof.Rows.envOfC qual (defScope st) s.heap.objs.size f cdv)) → HotB (L2H.cxH CX0 P w K mg base N qual (defScope st) f cdv A outer s H E0 (xh, oh)).nox xh oh → sp xh oh.cls oh.dict vs H Q E0 →
      ∃ t, PSs (L2H.cxH CX0 P w K mg base N qual (defScope st) f cdv A outer s H E0 (xh, oh)).nox (defBody st) t ∧ t { nx := fun _ H' => Q .non H', rt := Q } (L2.start N vs) H) : FnB P w K mg base (k + 1) f fd ps sp := by
  obtain ⟨oc, od, kV, doc, pm, an, cdv, ct, osl, rfl, lk, hcd⟩ := F.ex
  intro A outer s H args us vs Q xh oh hr hp e0 hb r hl hsp
  have KX : K.In s.heap := e0.mod.kin.keeps fun b o e => (e0.bs b o e).1
  have hkind : ∀ y ∈ ps.zip us, (defScope st).names.lookup y.1 = some .local ∨ ((defScope st).names.lookup y.1 = some .cell ∧ ((cellsFrom (s.heap.objs.size + 1) (defScope st).names []).lookup y.1).isSome = true) := by
    rintro ⟨n, v⟩ hy
    exact (S.par n (List.of_mem_zip hy).1).imp id fun q => ⟨q, PySem.W.cellsFrom_some _ _ _ (.inl q)⟩
  refine codeAny_call_function hr.depth (KX _ _ lk) rfl S.co S.gen rfl (PySem.W.codeRec_of KX hcd) (hb _ _ _ _ (wpAny_newFunctionEnv_cells S.kind hkind fun env he s1 y => ?_))
  subst he
  refine ⟨(e0.mod.nolimit.keeps fun b o e => (e0.bs b o e).1).keeps y.toInCall.keep, codeAny_func ?_⟩
  have hB := hp.b (CX := CX0) (P := P) (w := w) (K := K) (mg := mg) (base := base) (N := N) (qual := qual) (scope := defScope st) (f := f) (cd := cdv) (E := E0)
  obtain ⟨t, ht, hq⟩ := body cdv A outer s H vs Q xh oh (hr.deeper _) ⟨hB.hnd, hB.obj, hB.dat, hB.unt, hB.nfs, hB.nex⟩ hsp
  have I : Inv (L2H.cxH CX0 P w K mg base N qual (defScope st) f cdv A outer s H E0 (xh, oh)) [] (L2.start N vs) H s1 := L2H.inv_startH S hp.pin e0 hl r y
  refine wpAny_mono (ht.run [] s1 (L2.start N vs) H _ (I.wish _) hq) (fun fl s' z => ?_) fun _ _ z => z.elim
  have z' : SP (L2H.cxH CX0 P w K mg base N qual (defScope st) f cdv A outer s H E0 (xh, oh)) [] { nx := fun _ H' => Q .non H', rt := Q } fl s' := z.unwish
  cases fl with
  | ret u =>
    obtain ⟨v, σ', H', J, rv, q⟩ := z'
    exact ⟨v, H', J.os, J.bare, J.base, J.hok, rv, q⟩
  | next =>
    obtain ⟨σ', H', J, q⟩ := z'
    exact ⟨V.non, H', J.os, J.bare, J.base, J.hok, rfl, q⟩
  | brk => exact z'.elim fun _ y => y.elim fun _ y => y.2.elim
  | cont => exact z'.elim fun _ y => y.elim fun _ y => y.2.elim
/-! ### calls of such defs, out of the suite or out of another such def -/
structure HotG (X : Cx) (xh : Addr) (oh : Obj) : Prop where
  hnd : X.A.handled = some (.ref xh)
  dat : ∃ vs : Array Value, oh.data = .fields vs ∧ HotY.Ctx2 (fun y oy => ∀ {pins : List (Addr × Obj)} {σ : L2.St} {H : Hp} {s : Shared}, Inv X pins σ H s → s.heap.get? y = some oy ∧ H y = none ∧ y ≠ X.env.locals ∧ y ∉ X.fs) vs[2]?
  at_ : ∀ {pins : List (Addr × Obj)} {σ : L2.St} {H : Hp} {s : Shared}, Inv X pins σ H s → s.heap.get? xh = some oh ∧ H xh = none ∧ xh ≠ X.env.locals ∧ xh ∉ X.fs
theorem HotB.g {X : Cx} {xh : Addr} {oh : Obj} (h : HotB X xh oh) : HotG X xh oh := ⟨h.hnd, h.dat.imp fun vs d => ⟨d.1, d.2.imp fun y oy k e => fun {pins σ H s} I => ⟨I.base.keep y oy k.1 k.2.1 k.2.2.1 k.2.2.2, I.base.free y oy k.1 k.2.1 k.2.2.2, nloc_of I (I.base.keep y oy k.1 k.2.1 k.2.2.1 k.2.2.2) e, k.2.2.1⟩⟩, fun I => ⟨h.get I, h.none I, h.nloc I, h.nfs⟩⟩
theorem hotG_suite {X : Cx} {a : Addr} {oe : Obj} {pn : List (Addr × Obj)} {cls : Value} {d : Option Addr} (hz : L2N.Zn cls d oe) (hf : ∃ vs, oe.data = .fields vs) : HotG (X.suite a ((a, oe) :: pn)) a oe := by
  obtain ⟨vs, e⟩ := hf
  refine ⟨rfl, ⟨vs, e, .inl (hz.2.2 vs e)⟩, fun I => ?_⟩
  obtain ⟨h1, h2, h3, h4, _⟩ := I.pin (a, oe) (List.mem_append_left _ List.mem_cons_self)
  exact ⟨h1, h2, h3, h4⟩
/-- the same where its context stands among the pins -/
theorem hotG_suite2 {X : Cx} {a : Addr} {oe : Obj} {pn : List (Addr × Obj)} (hf : ∃ vs : Array Value, oe.data = .fields vs ∧ HotY.Ctx2 (fun y oy => (y, oy) ∈ pn) vs[2]?) : HotG (X.suite a ((a, oe) :: pn)) a oe := by
  obtain ⟨vs, e, c⟩ := hf
  refine ⟨rfl, ⟨vs, e, c.imp fun y oy m _ => fun {pins σ H s} I => ?_⟩, fun I => ?_⟩
  · obtain ⟨h1, h2, h3, h4, _⟩ := I.pin (y, oy) (List.mem_append_left _ (List.mem_cons_of_mem _ m))
    exact ⟨h1, h2, h3, h4⟩
  · obtain ⟨h1, h2, h3, h4, _⟩ := I.pin (a, oe) (List.mem_append_left _ List.mem_cons_self)
    exact ⟨h1, h2, h3, h4⟩
theorem HotG.p {X : Cx} {xh : Addr} {oh : Obj} (h : HotG X xh oh) {pins : List (Addr × Obj)} {σ : L2.St} {H : Hp} {s : Shared} (I : Inv X pins σ H s) : HotP X.A X.stack H s xh oh := by
  obtain ⟨h1, h2, h3, h4⟩ := h.at_ I
  obtain ⟨vs, d1, d2⟩ := h.dat
  exact ⟨h.hnd, ⟨vs, d1, d2.imp fun y oy k e => by
    obtain ⟨k1, k2, k3, k4⟩ := k I
    obtain ⟨vy, dy⟩ := e
    exact ⟨k1, k2, fun z => (List.mem_cons.mp (I.stkSub y z)).elim k3 k4, fun v z => by rw [dy] at z; cases z⟩⟩, h1, h2, fun z => (List.mem_cons.mp (I.stkSub xh z)).elim h3 h4, fun v z => by rw [d1] at z; cases z⟩
def tCallG (sp : Addr → Value → Option Addr → Sp) (xh : Addr) (cls : Value) (dd : Option Addr) (n : Nat) (t : L2.TA) : TE := fun σ H Q => t σ H fun vs H1 => vs.length = n ∧ sp xh cls dd vs H1 Q E0
theorem pe_callG {X : Cx} {k : Nat} {f : Addr} {fd : FuncData} {ps : List Str} {sp : Addr → Value → Option Addr → Sp} {xh : Addr} {oh : Obj} {x : Str} {p pos : Pos} {e : Expr} {es : List Expr} {t : L2.TA} (G : FnB X.prog X.w X.K X.mg X.base k f fd ps sp) (hr : L2H.RoomH k X.A) (hg : HotG X xh oh) {cls : Value} {dd : Option Addr} (hcl : oh.cls = cls) (hdd : oh.dict = dd) (gl : Gl X x) (hm : X.mg x = some (.ref f)) (hk : PySem.W.keepIn X.K (.ref f) = true) (hb : Binds X.K fd ps [])
    (ha : PA X (e :: es) t) (hdb : (x == ("__debug__" : Str)) = false := by decide) (he : starEach (e :: es) X.env = (false, eval e X.env) :: starEach es X.env := by rfl) (hpl : (backTo pos (starEach es X.env)).any (·.1) = false := by rfl) :
    PE X (.Call (.Name x p) (e :: es) [] pos) (tCallG sp xh cls dd ps.length t) := by
  subst hcl hdd
  refine ⟨fun pins s σ H Q I y => ?_⟩
  refine wpAny_Call_Name_kw (ld_glob I gl hm (PySem.W.callWith_K (h₀ := X.base) I.ok.mod.kin hk (thn (ha.run pos pins s σ H _ I y) fun us s1 ⟨vs, H1, I1, r, q⟩ => ⟨I1.kIn, ?_⟩) he hpl) hdb)
  obtain ⟨hl, q⟩ := q
  have hu : us.length = ps.length := by rw [← r.length, hl]
  have hbb : BindsTo s1 fd ⟨us, []⟩ (ps.zip us) := by
    have z := hb s1 us I1.kIn (by rw [List.append_nil]; exact hu)
    rw [List.append_nil] at z
    exact z
  refine wpAny_call (codeAny_mono (G X.A X.stack s1 H1 ⟨us, []⟩ us vs Q xh oh hr (hg.p I1) I1.env0 hbb r hl q) fun rs s' hq => ?_)
  cases rs with
  | error e => exact False.elim hq
  | ok fl =>
    cases fl with
    | ret u => exact I1.after hq
    | next => exact False.elim hq
    | brk => exact False.elim hq
    | cont => exact False.elim hq
/-! ### exceptions in flight whose context stands on the ground (raise .. from None leaves the handled one there) -/
namespace L2C
open PySem.Spec PyProof.Rows L2
def Zx (B : Heap) (H : Hp) (cls : Value) (d : Option Addr) : Obj → Prop := fun o => o.cls = cls ∧ o.dict = d ∧ ∀ vs : Array Value, o.data = .fields vs → HotY.Ctx2 (fun y oy => B.get? y = some oy ∧ H y = none) vs[2]?
theorem fld2 {o : Obj} {v : Value} {vs : Array Value} (e : (o.mapFields (·.setIfInBounds 1 v)).data = .fields vs) : ∃ vs0 : Array Value, o.data = .fields vs0 ∧ vs[2]? = vs0[2]? := by
  obtain ⟨c, d, dt, sl⟩ := o
  cases dt with
  | fields vs0 =>
    have e2 : vs0.setIfInBounds 1 v = vs := Data.fields.inj e
    refine ⟨vs0, rfl, ?_⟩
    rw [← e2]
    first
    | exact Array.getElem?_setIfInBounds_ne (by decide)
    | simp [Array.getElem?_setIfInBounds]
  | _ =>
    first
    | exact Data.noConfusion e
    | cases e
theorem Zx.steady {B : Heap} {H : Hp} {cls : Value} {d : Option Addr} : PXN.Steady1 (Zx B H cls d) := fun o v h => ⟨PXN.steady_cls o v h.1, PXN.steady_dict o v h.2.1, fun vs e => by
  obtain ⟨vs0, e0, e2⟩ := fld2 e
  rw [e2]
  exact h.2.2 vs0 e0⟩
theorem zx_ofN {B : Heap} {H : Hp} {cls : Value} {d : Option Addr} {o : Obj} (h : L2N.Zn cls d o) : Zx B H cls d o := ⟨h.1, h.2.1, fun vs e => .inl (h.2.2 vs e)⟩
theorem traced_imp {h B : Heap} {a : Addr} {Z Z' : Obj → Prop} {fl : Value} (z : ∀ o, Z o → Z' o) (x : HandSPX.TracedZ h B a Z fl) : HandSPX.TracedZ h B a Z' fl := by
  obtain ⟨oe, vs, T, oT, ts, he, hz, r⟩ := x
  exact ⟨oe, vs, T, oT, ts, he, z _ hz, r⟩
theorem sky_imp {B : Heap} {l : List Env} {a L : Addr} {Z Z' : Obj → Prop} {h : Heap} (z : ∀ o, Z o → Z' o) (x : Sky B l a Z L h) : Sky B l a Z' L h := by
  rcases x with ⟨x1, x2, x3, oe, vs, x4, x5, x6⟩ | ⟨x1, x2, x3, x4⟩ | ⟨x1, x2, x3, x4⟩
  · exact .inl ⟨x1, x2, x3, oe, vs, x4, z _ x5, x6⟩
  · exact .inr (.inl ⟨x1, x2, x3, traced_imp z x4⟩)
  · exact .inr (.inr ⟨x1, x2, x3, traced_imp z x4⟩)
/-- in the air of X -/
def XE (X : Cx) (W : WX) (u : Value) (s' : Shared) : Prop :=
  ∃ (a : Addr) (B : Heap) (sI : Shared) (pins : List (Addr × Obj)) (σ : L2.St) (H : Hp) (cls : Value) (d : Option Addr),
    u = .ref a ∧ Inv X pins σ H sI ∧ (∀ b o, sI.heap.get? b = some o → b ∉ frs X.stack → B.get? b = some o) ∧ sI.heap.UpToSlots s'.heap ∧ Sky B X.stack a (Zx B H cls d) X.env.locals s'.heap ∧ H a = none ∧ s'.os = sI.os ∧ AllBare s'.gens ∧ W cls d σ H
def Takes (X : Cx) (W : WX) : Prop := ∀ u s', XE X W u s' → X.xe u s'
theorem XE.ofN {X : Cx} {W : WX} {u : Value} {s' : Shared} (x : L2N.XE X W u s') : XE X W u s' := by
  obtain ⟨a, B, sI, pins, σ, H, cls, d, x1, x2, x3, x4, x5, r⟩ := x
  exact ⟨a, B, sI, pins, σ, H, cls, d, x1, x2, x3, x4, sky_imp (fun o => zx_ofN) x5, r⟩
theorem Takes.n {X : Cx} {W : WX} (t : Takes X W) : L2N.Takes X W := fun u s' x => t u s' (XE.ofN x)
/-- behind a call that let one out -/
def CX (P : Program) (w : World) (outer : List Env) (H : Hp) (s : Shared) (E : XK) (u : Value) (s' : Shared) : Prop :=
  ∃ (a : Addr) (B : Heap) (H' : Hp) (cls : Value) (d : Option Addr), u = .ref a ∧ HandSPX.FlyingZ B outer a (Zx B H' cls d) s'.heap ∧ HOk P w H' B ∧ UB (frs outer) H H' s.heap B s'.heap ∧ H' a = none ∧ s'.os = s.os ∧ AllBare s'.gens ∧ E cls d H'
theorem CX.ofN {P : Program} {w : World} {outer : List Env} {H : Hp} {s : Shared} {E : XK} {u : Value} {s' : Shared} (c : L2N.CX P w outer H s E u s') : CX P w outer H s E u s' := by
  obtain ⟨a, B, H', cls, d, e, ⟨f1, f2, f3, f4⟩, r⟩ := c
  exact ⟨a, B, H', cls, d, e, ⟨f1, f2, f3, traced_imp (fun o => zx_ofN) f4⟩, r⟩
/-- what lets out none but such as have no context may stand among those -/
theorem fn_up {P : Program} {w : World} {K : PySem.W.Frag} {mg : Str → Option Value} {base : Heap} {k : Nat} {f : Addr} {fd : FuncData} {ps : List Str} {sp : Sp} (F : FnOk P w K mg base (L2N.CX P w) k f fd ps sp) : FnOk P w K mg base (CX P w) k f fd ps sp :=
  ⟨F.len, fun A outer s H args us vs Q E hr e0 hb r hsp => codeAny_mono (F.run A outer s H args us vs Q E hr e0 hb r hsp) fun rs s' hq => by
    cases rs with
    | error e => exact CX.ofN hq
    | ok fl => cases fl <;> exact hq⟩
section
variable {X : Cx} {pins : List (Addr × Obj)} {σ : L2.St} {H : Hp} {s s' : Shared} {W : WX} {E : XK} {u : Value}
/-- what a call let out is in the caller's air: the ground and the callers' frames, taken for themselves, are a state of ours -/
theorem XE.of_call (I : Inv X pins σ H s) (hW : ∀ cls d H', E cls d H' → W cls d σ H') (c : CX X.prog X.w X.stack H s E u s') : XE X W u s' := by
  obtain ⟨a, B, H', cls, d, rfl, fl, hok, ub, na, os, ag, hE⟩ := c
  have up0 : B.StaysIn s'.heap := fl.1
  obtain ⟨G, yes, no⟩ := restrict s'.heap fun b => (B.get? b).isSome || decide (b ∈ frs X.stack)
  have inB : ∀ b o, B.get? b = some o → G.get? b = some o := fun b o e => (yes b (by rw [e]; rfl)).trans (up0 b o e)
  have inF : ∀ b, b ∈ frs X.stack → G.get? b = s'.heap.get? b := fun b m => yes b (by rw [decide_eq_true m, Bool.or_true])
  have back : ∀ b o, G.get? b = some o → s'.heap.get? b = some o := fun b o e => by
    cases q : ((B.get? b).isSome || decide (b ∈ frs X.stack)) with
    | true => exact (yes b q).symm.trans e
    | false => exact absurd ((no b q).symm.trans e) (by simp)
  have J : Inv X pins σ H' { s with heap := G, gens := s'.gens, drawn := s'.drawn, toks := s'.toks } :=
    I.call (ch := []) ⟨fun b o e n m _ => inB b o (ub.keep b o e n m), fun b o e _ m _ => (ub.slot b o e m).imp fun sl q => (inF b m).trans q, fun b o e n _ => ub.free b o e n, fun b o e _ => by
      by_cases m : b ∈ frs X.stack
      · obtain ⟨sl, q⟩ := ub.slot b o e m
        exact ⟨_, (inF b m).trans q⟩
      · obtain ⟨o', q⟩ := ub.there b o e m
        exact ⟨o', inB b o' q⟩, ub.tups, ub.frzs, ub.tbls⟩ (hok.kept inB) ag fun _ z => nomatch z
  refine ⟨a, B, _, pins, σ, H', cls, d, rfl, J, fun b o e m => ?_, Heap.UpToSlots.of_keeps back, .inr (.inl fl), na, os, ag, hW _ _ _ hE⟩
  cases q : B.get? b with
  | some o' => exact ((up0 b o' q).symm.trans (back b o e)) ▸ rfl
  | none =>
    have z := no b (by rw [q, decide_eq_false m]; rfl)
    exact absurd (z.symm.trans e) (by simp)
/-- it leaves the def -/
theorem XE.leave (hs : X.stack = X.env :: X.outer) (hf : X.env.frame = some X.env.locals) (hex : X.ex = []) {E₁ : Value → Shared → Prop} (x : XE X (fun cls d _ H => E cls d H) u s') :
    wpAny (model X.prog X.w) X.A (leaving X.env u) (fun _ s'' => CX X.prog X.w X.outer X.H_0 X.s_0 E u s'') E₁ s' := by
  obtain ⟨a, B, sI, pins, σ, H, cls, d, rfl, I, nb, up, sky, na, os, ag, w⟩ := x
  have fr : X.A.frames = some (X.env :: X.outer) := by rw [I.ok.frames, hs]
  have noex : ∀ b, b ∉ X.ex := fun b m => by rw [hex] at m; exact nomatch m
  have offs : ∀ b o, X.s_0.heap.get? b = some o → b ∉ X.fs → b ∉ frs X.stack := fun b o e n m => (List.mem_cons.mp (I.stkSub b m)).elim (fun z => by
    have h1 := Heap.lt_size e
    have h2 := I.ok.above
    rw [z] at h1
    exact absurd (Nat.lt_of_lt_of_le h1 h2) (Nat.lt_irrefl _)) n
  have ground := I.inGround nb
  have done : ∀ g, HandSPX.FlyingZ B X.outer a (Zx B H cls d) g → s'.heap.UpToSlots g → CX X.prog X.w X.outer X.H_0 X.s_0 E (.ref a) { s' with heap := g } := fun g fl up' =>
    ⟨a, B, H, cls, d, rfl, fl, ground, ⟨fun b o e n m => nb b o (I.base.keep b o e n m (noex b)) (offs b o e m), fun b o e m => by
      obtain ⟨_, o₀, e₀, nf⟩ := I.ok.funs.mem m
      rw [e] at e₀
      cases e₀
      obtain ⟨_, y1⟩ := I.base.slot b o e (I.ok.frf b m) m (noex b)
      obtain ⟨_, y2⟩ := up b _ y1 nf
      obtain ⟨sl3, y3⟩ := up' b _ y2 nf
      exact ⟨sl3, y3⟩, fun b o e n => I.base.free b o e n (noex b), fun b o e m => (I.base.there b o e (noex b)).imp fun o' y => nb b o' y (offs b o e m), I.base.tups, I.base.frzs, I.base.tbls⟩, na, os.trans I.os, ag, w⟩
  rw [hs] at sky
  rcases sky with ⟨y1, y2, y3, oe, vs, y4, y5, y6, y7⟩ | fl | hd
  · exact PXN.leaving_firstZ Zx.steady fr y3 hf y4 y1 y2 y6 y7 y5 done
  · exact PXN.leaves_onZ Zx.steady fr hf fl done
  · exact HandSPX.leaves_heldZ hf hd done
theorem takes_of (hs : X.stack = X.env :: X.outer) (hf : X.env.frame = some X.env.locals) (hex : X.ex = []) {E₁ : Value → Shared → Prop}
    (hx : X.xe = fun e s' => wpAny (model X.prog X.w) X.A (leaving X.env e) (fun _ s'' => CX X.prog X.w X.outer X.H_0 X.s_0 E e s'') E₁ s') : Takes X (fun cls d _ H => E cls d H) := fun u s' x => by
  rw [hx]
  exact XE.leave hs hf hex x
theorem passes (tk : Takes X (fun cls d _ H => E cls d H)) : Passes (CX X.prog X.w) X E := fun _ _ _ _ _ _ I c => tk _ _ (XE.of_call I (fun _ _ _ h => h) c)
theorem passesN (tk : Takes X (fun cls d _ H => E cls d H)) : Passes (L2N.CX X.prog X.w) X E := fun _ _ _ _ _ _ I c => tk _ _ (XE.of_call I (fun _ _ _ h => h) (CX.ofN c))
end
/-- of a caught one: its context is None or stands among the pins -/
def CtxP (pn : List (Addr × Obj)) (o : Obj) : Prop := ∃ vs : Array Value, o.data = .fields vs ∧ HotY.Ctx2 (fun y oy => (y, oy) ∈ pn) vs[2]?
/-- try: .. except C as e: of a clause that names all that may come -/
theorem ps_try_as {X : Cx} {x n : Str} {c : Value} {i : Nat} {body suite : List Stmt} {b₀ : Stmt} {np pos pos' : Pos} {tb : WX → TS} {ts : Addr → Value → Option Addr → TS} (hs : X.stack = X.env :: X.outer) (hf : X.env.frame = some X.env.locals) (hN : X.N.Nodup) (hi : X.N[i]? = some n) (hln : X.env.kindOf n = some .local) (hc : Names X x c)
    (hb : ∀ (W : WX) (pn : List (Addr × Obj)) (xe : Value → Shared → Prop), Takes (X.tr pn xe) W → PassesOwn (model X.prog X.w) X.A X.env xe → PSs (X.tr pn xe) body (tb W))
    (hsu : ∀ (a : Addr) (oe : Obj) (cls : Value) (d : Option Addr) (pn : List (Addr × Obj)), oe.cls = cls → oe.dict = d → CtxP pn oe → PSs (X.suite a ((a, oe) :: pn)) (b₀ :: suite) (ts a cls d)) :
    PS X (.Try body [.ExceptHandler (some (.Name x np)) (some n) (b₀ :: suite) pos'] [] [] pos) (fun D σ H => tb (wAs X.K c i ts (fun _ _ _ _ => False) D) D σ H) := by
  refine ⟨fun pins s σ H D I h => ?_⟩
  have ok := I.ok
  have fr : X.A.frames = some (X.env :: X.outer) := by rw [ok.frames, hs]
  refine wpAny_Try_except (wpAny_mono ((hb (wAs X.K c i ts (fun _ _ _ _ => False) D) (X.pn ++ pins) (fun e s₁ => wpAny (model X.prog X.w) X.A (noteFrame e X.env) (fun _ s₂ => wpAny (model X.prog X.w) X.A (setFlight e none) (fun _ s₃ => wpAny (model X.prog X.w) X.A (handleBy e X.env [.ExceptHandler (some (.Name x np)) (some n) (b₀ :: suite) pos']) (SP X pins D) X.xe s₃) X.xe s₂) X.xe s₁) (fun u s' xx => ?_) PassesOwn.looking).run [] s σ H D (I.toTry _) h) (fun f s1 hsp => ?_) fun e s1 he => he)
  · obtain ⟨a, B, sI, _, σ', H', cls, d, rfl, JT, nb, up, sky, na, os, ag, b, hm, hyes, hno⟩ := xx
    obtain rfl : b = true := by
      cases b with
      | true => rfl
      | false => exact (hno rfl).elim
    have J : Inv X pins σ' H' sI := JT.ofTry ok
    show wpAny (model X.prog X.w) X.A (noteFrame (.ref a) X.env) _ _ _
    refine L2N.Sky.land Zx.steady fr hf (show Sky B (X.env :: X.outer) a (Zx B H' cls d) X.env.locals s'.heap by rw [← hs]; exact sky) fun g1 fl1 up1 => ?_
    obtain ⟨o1, w1, eo1, z1, d1⟩ := fl1.there
    have offF : ∀ {B2 h2 : Heap} {o2 : Obj} {w2 : Array Value} {a2 : Addr}, h2.FunFrames B2 (X.env :: X.outer) → h2.get? a2 = some o2 → o2.data = .fields w2 → a2 ∉ frs (X.env :: X.outer) := fun ff eq dq hq => by
      obtain ⟨_, o', e', hd'⟩ := ff.mem hq
      rw [eq] at e'
      cases e'
      exact hd' _ dq
    have offL : ∀ {b : Addr}, b ∉ frs (X.env :: X.outer) → b ≠ X.env.locals := fun off z => off (List.mem_filterMap.mpr ⟨X.env, List.mem_cons_self, by rw [hf, z]⟩)
    have offS : ∀ {b : Addr}, b ∉ frs (X.env :: X.outer) → b ∉ X.fs := fun off hq => by
      obtain ⟨e, he, hq⟩ := List.mem_filterMap.mp hq
      exact off (List.mem_filterMap.mpr ⟨e, List.mem_cons_of_mem _ he, hq⟩)
    have off := offF fl1.2.2.1 eo1 d1
    have J1 : Inv X pins σ' H' { s' with heap := g1 } := J.landed nb fl1.1 (up.trans up1) os ag
    have LT : PySem.W.Looks (model X.prog X.w) g1 (typeOf (.ref a)) cls := fun A Q E s k q => wpAny_typeOf_ref (k _ _ eo1) (by rw [z1.1]; exact q)
    refine wpAny_handleBy_cons (codeAny_handlers_test ?_) (by intro q; cases q)
    have test : ∀ {Q : Value → Shared → Prop} {E : Value → Shared → Prop}, Q c { s' with heap := g1 } → wpAny (model X.prog X.w) (X.A.mark (some (.ref a))) (eval (.Name x np) X.env) Q E { s' with heap := g1 } := fun {Q E} q => by
      have S1 := J1.suite eo1 d1 na (offL off) (offS off)
      obtain ⟨hg, hdbg, hm | ⟨hm, hv, hnn⟩⟩ := hc
      · exact ld_glob (X := X.suite a ((a, o1) :: (X.pn ++ pins))) S1 hg hm q hdbg
      · exact ld_blt (X := X.suite a ((a, o1) :: (X.pn ++ pins))) S1 hg hm hv q hnn hdbg
    refine test ((PySem.W.exm_one (M := model X.prog X.w) J1.kIn LT hm).here ?_)
    refine codeAny_handlers_suite_as (HandSPX.lands_againZ fl1 fun g2 fl2 up2 => ?_)
    obtain ⟨o2, w2, eo2, z2, d2⟩ := fl2.there
    have J2 : Inv X pins σ' H' { s' with heap := g2 } := J.landed nb fl2.1 ((up.trans up1).trans up2) os ag
    -- the context joins the pins
    obtain ⟨pl, cx, hpl⟩ : ∃ pl : List (Addr × Obj), HotY.Ctx2 (fun y oy => (y, oy) ∈ pl) w2[2]? ∧ ∀ p ∈ pl, g2.get? p.1 = some p.2 ∧ H' p.1 = none ∧ ∃ vy : Array Value, p.2.data = .fields vy := by
      rcases z2.2.2 w2 d2 with c0 | ⟨y, oy, vy, c0, ⟨by1, hy⟩, dy, cy⟩
      · exact ⟨[], .inl c0, fun _ m => nomatch m⟩
      · refine ⟨[(y, oy)], .inr ⟨y, oy, vy, c0, List.mem_singleton.mpr rfl, dy, cy⟩, fun p m => ?_⟩
        obtain rfl := List.mem_singleton.mp m
        exact ⟨fl2.1 y oy by1, hy, vy, dy⟩
    have J3 : Inv X (pl ++ pins) σ' H' { s' with heap := g2 } := J2.pins_of fun p m => by
      rcases List.mem_append.mp m with m | m
      · obtain ⟨q1, q2, vy, q3⟩ := hpl p m
        have o' := offF (h2 := g2) fl2.2.2.1 q1 q3
        exact ⟨q1, q2, offL o', offS o', fun v z => by rw [q3] at z; cases z⟩
      · exact J2.pin p (List.mem_append_right _ m)
    have S3 := J3.suite eo2 d2 na (offL off) (offS off)
    have wk : ∀ {σ6 : L2.St} {H6 : Hp} {s6 : Shared}, Inv (X.suite a ((a, o2) :: (X.pn ++ (pl ++ pins)))) [] σ6 H6 s6 → Inv X pins σ6 H6 s6 := fun S6 => (S6.unsuite ok).pins_of fun p m => (S6.unsuite ok).pin p (List.mem_append_right _ (List.mem_append_right _ m))
    refine store_ok (X := X.suite a ((a, o2) :: (X.pn ++ (pl ++ pins)))) (v := .ref a) S3 hN hi (.inl hln) rfl (fun s5 S5 => ?_) (.inr hln)
    refine wpAny_mono ((hsu a o2 cls d (X.pn ++ (pl ++ pins)) z2.1 z2.2.1 ⟨w2, d2, cx.imp fun y oy m _ => List.mem_append_right _ (List.mem_append_left _ m)⟩).run [] s5 _ H' _ S5 (hyes rfl a na)) (fun f s6 hq => ?_) fun _ _ z => False.elim z
    cases f with
    | next =>
      obtain ⟨σ6, H6, S6, q6⟩ := hq
      exact gone_ok (wk S6) hN hi hln fun s7 J7 => ⟨_, _, J7, q6⟩
    | brk =>
      obtain ⟨σ6, H6, S6, q6⟩ := hq
      exact gone_ok (wk S6) hN hi hln fun s7 J7 => ⟨_, _, J7, q6⟩
    | cont =>
      obtain ⟨σ6, H6, S6, q6⟩ := hq
      exact gone_ok (wk S6) hN hi hln fun s7 J7 => ⟨_, _, J7, q6⟩
    | ret u =>
      obtain ⟨v6, σ6, H6, S6, r6, q6⟩ := hq
      exact gone_ok (wk S6) hN hi hln fun s7 J7 => ⟨_, _, _, J7, r6, q6⟩
  · cases f with
    | next => exact hsp.elim fun σ6 y => y.elim fun H6 y => wpAny_execs_nil ⟨σ6, H6, y.1.ofTry ok, y.2⟩
    | brk => exact hsp.elim fun σ6 y => y.elim fun H6 y => ⟨σ6, H6, y.1.ofTry ok, y.2⟩
    | cont => exact hsp.elim fun σ6 y => y.elim fun H6 y => ⟨σ6, H6, y.1.ofTry ok, y.2⟩
    | ret u => exact hsp.elim fun v6 y => y.elim fun σ6 y => y.elim fun H6 y => ⟨v6, σ6, H6, y.1.ofTry ok, y.2⟩
end L2C
/-! ### a lambda without parameters handed to a def, its errors told with their context -/
def lamCxN (X : Cx) (A : Around) (outer : List Env) (s : Shared) (H : Hp) (E : XK) (scope : Scope) (f c : Addr) : Cx :=
  (LamX.lamCx X A outer s H E scope f c).wish fun e s' => wpAny (model X.prog X.w) (A.deeper (LamX.lamEnv X scope s.heap.objs.size f c)) (leaving (LamX.lamEnv X scope s.heap.objs.size f c) e) (fun _ s2 => L2C.CX X.prog X.w outer H s E e s2) (fun e2 s2 => L2C.CX X.prog X.w outer H s E e2 s2) s'
theorem pe_actN {X : Cx} {pins : List (Addr × Obj)} {σ : L2.St} {H : Hp} {s : Shared} {CXg : CXT} {Eg : XK} {Ng : List Str} {qg : Str} {sg : Scope} {g f c : Addr} {cdg pm ctv : Value} {params : Arguments} {body : Expr} {scope : Scope} {k i : Nat} {a : Str} {pn : List (Addr × Obj)} {xe : Value → Shared → Prop} {W : WX} {E : L2.St → XK} {tb : XK → TE} {p1 p2 : Pos}
    (I : Inv X pins σ H s) (L : LamX.LamS X.env.scope scope) (hf : s.heap.get? f = some (PySem.W.kla_obj "<lambda>" (X.env.qual ++ "<lambda>") params body scope (cloFrom X.env.cells scope.names []) pm c ctv)) (hfn : H f = none) (hfr : f ∉ frs X.stack)
    (hbind : bindArgs (PySem.W.kla_fn "<lambda>" (X.env.qual ++ "<lambda>") params body scope (cloFrom X.env.cells scope.names []) pm (.ref c) ctv) ⟨[], []⟩ = pure [])
    (tk : L2C.Takes ((cxOf CXg X.prog X.w X.K X.mg X.base Ng qg sg g cdg X.A X.stack s H Eg).tr pn xe) W) (hW : ∀ cls d σ2 H2, E σ2 cls d H2 → W cls d σ2 H2) (hr : Room (k + 1) (X.A.deeper (envOfC qg sg s.heap.objs.size g cdg)))
    (hbody : ∀ (A : Around) (outer : List Env) (s : Shared) (H : Hp) (E : XK), Room k (A.deeper (LamX.lamEnv X scope s.heap.objs.size f c)) → PE (lamCxN X A outer s H E scope f c) body (tb E))
    (hN : Ng[i]? = some a) (hv : Vis sg a) (hd : (a == ("__debug__" : Str)) = false := by decide) (hcd : (a == ("__classdict__" : Str)) = false := by decide) :
    PE ((cxOf CXg X.prog X.w X.K X.mg X.base Ng qg sg g cdg X.A X.stack s H Eg).tr pn xe) (.Call (.Name a p1) [] [] p2) (fun σZ HZ Q => σZ[i]? = some (some (.ref f)) ∧ HZ c = some (LamX.CodeO c (X.env.qual ++ "<lambda>")) ∧ tb (E σZ) σ HZ Q) := by
  refine ⟨fun pz sz σz Hz Q Iz ⟨hs, hc, y⟩ => ?_⟩
  refine wpAny_Call_Name_kw (thn ((pe_var (pos := p1) (i := i) hN hv hd hcd).run pz sz σz Hz (fun v H1 => v = .ref f ∧ H1 = Hz) Iz ⟨.ref f, hs, rfl, rfl⟩) fun u s1 ⟨v, H1, I1, r1, ev, eH⟩ => ?_)
  subst ev eH
  cases (show u = Value.ref f from r1)
  have of1 := I1.base.keep f _ hf hfn hfr (fun z => nomatch (show f ∈ ([] : List Addr) from z))
  refine PySem.W.callWith_F0 ⟨_, _, _, _, of1⟩ ?_
  obtain ⟨⟨oc, vs, t, hoc, hdc, hvc⟩, _, _⟩ := I1.hok c _ hc
  have run : codeAny (model X.prog X.w) (X.A.deeper (envOfC qg sg s.heap.objs.size g cdg)) (.call (.ref f) ⟨[], []⟩) (CR (L2C.CX X.prog X.w) (envOfC qg sg s.heap.objs.size g cdg :: X.stack) X.prog X.w H1 s1 Q (E σz)) s1 := by
    refine PySem.W.kla_callFunE hr.depth of1 rfl L.co L.gen rfl ⟨c, oc, vs, t, rfl, hoc, hdc, hvc⟩ ?_
    rw [hbind]
    refine wpAny_pure (wpAny_newFunctionEnv (fun y hy => (L.own y hy).2) (fun y hy => absurd hy (by simp)) (fun g1 hns hsb => ⟨I1.nolimit.fresh _ hsb, ?_⟩) L.kind)
    have kp : ∀ b o, s1.heap.get? b = some o → g1.get? b = some o := fun b o e => hsb.extBut b o (Nat.ne_of_lt (Heap.lt_size e)) (Heap.get?_push_of_some _ e)
    have J := LamX.lam_start2 (E := E σz) (f := f) (c' := c) (tk := s1.toks + ([] : List (Str × Value)).length) I L I1.env0 hr.hd I1.base hns kp
    refine PySem.W.kla_codeExpr (wpAny_mono ((hbody _ _ s1 H1 (E σz) (hr.deeper _)).run [] _ _ H1 Q (J.wish _) y) (fun v s3 ⟨w3, H3, J3, rv, q⟩ => ⟨w3, H3, J3.os, J3.bare, J3.base, J3.hok, rv, q⟩) fun e s3 z => z)
  refine wpAny_call (codeAny_mono run fun rs s2 hq => ?_)
  cases rs with
  | error e => exact tk e s2 (L2C.XE.of_call I1 (fun cls d H' h => hW cls d σz H' h) hq)
  | ok fl =>
    cases fl with
    | ret u => exact I1.after hq
    | next => exact False.elim hq
    | brk => exact False.elim hq
    | cont => exact False.elim hq
/-- the def that calls what it got; TT: what it makes of the lambda's reading -/
def GivesN (X : Cx) (Ng : List Str) (x : Str) (sg : Scope) (g : Addr) (cdg : Value) (bg : List Stmt) (a q : Str) (TT : (XK → Hp → VK → Prop) → Hp → VK → Prop) : Prop :=
  ∀ (k : Nat) (f c : Addr) (s : Shared) (H : Hp) (Q : VK) (tl : XK → Hp → VK → Prop), Room k (X.A.deeper (envOfC x sg s.heap.objs.size g cdg)) → 40 ≤ k →
    (∀ (W : WX) (pn : List (Addr × Obj)) (xe : Value → Shared → Prop) (E : L2.St → XK) (p1 p2 : Pos), L2C.Takes ((cxOf CX0 X.prog X.w X.K X.mg X.base Ng x sg g cdg X.A X.stack s H E0).tr pn xe) W → (∀ cls d σ2 H2, E σ2 cls d H2 → W cls d σ2 H2) →
      PE ((cxOf CX0 X.prog X.w X.K X.mg X.base Ng x sg g cdg X.A X.stack s H E0).tr pn xe) (.Call (.Name a p1) [] [] p2) (fun σZ HZ Q => σZ[0]? = some (some (.ref f)) ∧ HZ c = some (LamX.CodeO c q) ∧ tl (E σZ) HZ Q)) →
    H c = some (LamX.CodeO c q) → TT tl H Q →
    ∃ t, PSs (cxOf CX0 X.prog X.w X.K X.mg X.base Ng x sg g cdg X.A X.stack s H E0).nox bg t ∧ t { nx := fun _ H' => Q .non H', rt := Q } (L2.start Ng [.ref f]) H
theorem pe_lamN {X : Cx} {T : List (Addr × Str)} {TT : (XK → Hp → VK → Prop) → Hp → VK → Prop} {x a : Str} {g c P : Addr} {k : Nat} {pg : Arguments} {bg : List Stmt} {sg : Scope} {dV kV doc pm cdv ct oc : Value} {an od : Option Addr} {osl : Array (Option Value)} {Ng : List Str}
    {params : Arguments} {body : Expr} {scope : Scope} {t : XK → TE} {p lpos pos : Pos} (hg : Gl X x) (hm : X.mg x = some (.ref g)) (hk : PySem.W.keepIn X.K (.ref g) = true)
    (lk : X.K.lookup g = some ⟨oc, od, .func (PySem.W.fnOf x x pg bg sg dV kV doc pm an cdv ct), osl⟩) (hcg : PySem.W.codeIn X.K cdv x = true) (hb : Binds X.K (PySem.W.fnOf x x pg bg sg dV kV doc pm an cdv ct) [a] []) (Sg : FnScope Ng [a] sg) (hNg : Ng[0]? = some a) (hva : Vis sg a)
    (hG : GivesN X Ng x sg g cdv bg a (X.env.qual ++ "<lambda>") TT) (TB : LamX.TabB X.base X.mg c P) (hcode : X.env.code = .ref c) (hmT : (P, X.env.qual ++ "<lambda>") ∈ T) (hu : ∀ p ∈ T, p.1 = P → p.2 = X.env.qual ++ "<lambda>") (hr : Room (k + 2) X.A) (k40 : 40 ≤ k + 1) (L : LamX.LamS X.env.scope scope) (hdef : defaultsOf params X.env = ([], []))
    (hbind : ∀ (q : Str) (cl : List (Str × Addr)) (pm cv ctv : Value), bindArgs (PySem.W.kla_fn "<lambda>" q params body scope cl pm cv ctv) ⟨[], []⟩ = pure [])
    (hbody : ∀ (A : Around) (outer : List Env) (s : Shared) (H : Hp) (E : XK) (f c2 : Addr), Room k (A.deeper (LamX.lamEnv X scope s.heap.objs.size f c2)) → PE (lamCxN X A outer s H E scope f c2) body (t E))
    (hdb : (x == ("__debug__" : Str)) = false := by decide) (hd : (a == ("__debug__" : Str)) = false := by decide) (hcd : (a == ("__classdict__" : Str)) = false := by decide) :
    PE X (.Call (.Name x p) [.Lambda params body scope lpos] [] pos) (LamX.tLam T TT t) := by
  refine ⟨fun pins s σ H Q I ⟨hT, y⟩ => ?_⟩
  refine wpAny_Call_Name_kw (ld_glob I hg hm (PySem.W.callWith_K (h₀ := X.base) I.ok.mod.kin hk ?_ (by rfl) (by rfl)) hdb)
  show wpAny _ _ (spliced ((false, eval (.Lambda params body scope lpos) X.env) :: backTo pos (starEach [] X.env))) _ _ s
  refine Calls.spliced_cons (LamX.lam_make2 I TB hcode hmT hu hT hdef (L.has I.ok) fun f c2 pm2 ctv H1 s1 I1 eN T1 hf hfn hfr hco => Calls.spliced_nil ⟨I1.kIn, ?_⟩)
  have run : codeAny (model X.prog X.w) X.A (.call (.ref g) ⟨[.ref f], []⟩) (CR CX0 X.stack X.prog X.w H1 s1 Q E0) s1 := by
    refine LamX.run_ofS (N := Ng) (ps := [a]) (us := [.ref f]) (vs := [.ref f]) lk hcg Sg hr I1.env0 (hb s1 [.ref f] I1.kIn rfl) (.cons rfl .nil) rfl fun hr2 => ?_
    obtain ⟨t2, ht2, hq2⟩ := hG _ f c2 s1 H1 Q (fun E H' Q' => t E σ H' Q') hr2 k40 (fun W pn xe E p1 p2 tk hW => pe_actN (i := 0) I1 L hf hfn hfr (hbind _ _ _ _ _) tk hW hr2 (fun A outer s H E hr3 => hbody A outer s H E f c2 hr3) hNg hva hd hcd) hco (y H1 eN T1)
    exact ⟨t2, ht2.nox, hq2⟩
  refine wpAny_call (codeAny_mono run fun rs s2 hq => ?_)
  cases rs with
  | error e => exact (show False from hq).elim
  | ok fl =>
    cases fl with
    | ret u => exact I1.after hq
    | next => exact False.elim hq
    | brk => exact False.elim hq
    | cont => exact False.elim hq
/-! ### try: return ('value', ask()) / except TermError as e: the error's word and field -/
/-- a class that TermError names -/
structure Wd (K : PySem.W.Frag) (CT D : Addr) (dd : Option Addr) : Prop where
  exc : ExcC K D
  nod : dd = none
  mat : PySem.W.exmOne K (.ref D) (.ref CT) = some true
def spName (K : PySem.W.Frag) (CT : Addr) (word : Addr → Option Str) : Addr → Value → Option Addr → Sp := fun xh cls dd vs H Q _ => ∃ (D : Addr) (nm : Str), cls = .ref D ∧ Wd K CT D dd ∧ word D = some nm ∧ vs = [.ref xh] ∧ ∀ H', Same H H' → Q (.str nm) H'
def spField (word : Addr → Option Str) (fld : Addr → Option Addr → Hp → V → Prop) : Addr → Value → Option Addr → Sp := fun xh cls dd vs H Q _ => ∃ (D : Addr) (nm : Str) (v : V), cls = .ref D ∧ word D = some nm ∧ fld D dd H v ∧ vs = [.ref xh, .str nm] ∧ ∀ H', Same H H' → Q v H'
def tSuite (K : PySem.W.Frag) (CT : Addr) (word : Addr → Option Str) (fld : Addr → Option Addr → Hp → V → Prop) (a : Addr) (cls : Value) (d : Option Addr) : TS :=
  tSeq (tAsg (tCallG (spName K CT word) a cls d 1 (tCons (tVar 1) tNil)) (gName 2)) (tRet (tTup (tCons (tVar 2) (tCons (tCallG (spField word fld) a cls d 2 (tCons (tVar 1) (tCons (tVar 2) tNil))) tNil))))
def TTry (K : PySem.W.Frag) (CT : Addr) (word : Addr → Option Str) (fld : Addr → Option Addr → Hp → V → Prop) : (XK → Hp → VK → Prop) → Hp → VK → Prop := fun tl H Q =>
  ∀ f : Addr, tl (fun cls d H2 => wAs K (.ref CT) 1 (tSuite K CT word fld) (fun _ _ _ _ => False) { nx := fun _ H' => Q .non H', rt := Q } cls d [some (.ref f), none, none] H2) H
    (fun v H' => 2 ≤ sizeLine ∧ ∀ p, H' p = none → Q (.ref p) (upd H' p (.tup [.str ("value" : Str), v])))
theorem wTry {K : PySem.W.Frag} {CT : Addr} {word : Addr → Option Str} {fld : Addr → Option Addr → Hp → V → Prop} {Q : VK} {n : L2.St → Hp → Prop} {cls : Value} {dd : Option Addr} {f D : Addr} {nm : Str} {v : V} {H' : Hp}
    (hst : ∀ D dd H H' v, Same H H' → fld D dd H v → fld D dd H' v) (e : cls = .ref D) (hw : Wd K CT D dd) (ew : word D = some nm) (hf : fld D dd H' v) (h : ∀ (p : Addr) (H2 : Hp), Same H' H2 → H2 p = none → Q (.ref p) (upd H2 p (.tup [.str nm, v]))) :
    wAs K (.ref CT) 1 (tSuite K CT word fld) (fun _ _ _ _ => False) { nx := n, rt := Q } cls dd [some (.ref f), none, none] H' := by
  subst e
  refine ⟨true, hw.mat, fun _ a _ => ?_, fun z => nomatch z⟩
  refine ⟨_, rfl, rfl, D, nm, rfl, hw, ew, rfl, fun H1 k1 => ?_⟩
  refine ⟨_, rfl, _, rfl, _, rfl, rfl, D, nm, v, rfl, ew, hst _ _ _ _ _ k1 hf, rfl, fun H2 k2 => ⟨by show 2 ≤ sizeLine; decide, fun p hp => h p H2 (k1.trans k2) hp⟩⟩
theorem try_gives {X : Cx} {x q : Str} {sg : Scope} {g CT fN fF : Addr} {cdg : Value} {fdN fdF : FuncData} {word : Addr → Option Str} {fld : Addr → Option Addr → Hp → V → Prop} {j1 n1 n2 : Nat} {q1 q2 q3 q4 q5 q6 q7 q8 q9 p1 p2 p3 p4 p5 p6 p7 p8 p9 q10 q11 : Pos}
    (s0 : sg.names.lookup ("_law_ask" : Str) = some .local) (s1 : sg.names.lookup ("_law_e" : Str) = some .local) (s2 : sg.names.lookup ("_law_word" : Str) = some .local) (g1 : sg.names.lookup ("TermError" : Str) = some .globalImplicit) (g2 : sg.names.lookup ("_law_error_name" : Str) = some .globalImplicit) (g3 : sg.names.lookup ("_law_error_field" : Str) = some .globalImplicit)
    (mT : X.mg ("TermError" : Str) = some (.ref CT)) (mN : X.mg ("_law_error_name" : Str) = some (.ref fN)) (mF : X.mg ("_law_error_field" : Str) = some (.ref fF)) (kN : PySem.W.keepIn X.K (.ref fN) = true) (kF : PySem.W.keepIn X.K (.ref fF) = true) (bN : Binds X.K fdN [("_law_e" : Str)] []) (bF : Binds X.K fdF [("_law_e" : Str), "_law_word"] [])
    (GN : FnB X.prog X.w X.K X.mg X.base 3 fN fdN [("_law_e" : Str)] (spName X.K CT word)) (GF : FnB X.prog X.w X.K X.mg X.base 3 fF fdF [("_law_e" : Str), "_law_word"] (spField word fld)) :
    GivesN X [("_law_ask" : Str), "_law_e", "_law_word"] x sg g cdg [.Try [.Return (some (.Tuple [.Constant (.str ("value" : Str)) j1 p1, .Call (.Name ("_law_ask" : Str) p2) [] [] p3] n1 p4)) p5] [.ExceptHandler (some (.Name ("TermError" : Str) p6)) (some ("_law_e" : Str)) [.Assign [.Name ("_law_word" : Str) q1] (.Call (.Name ("_law_error_name" : Str) q2) [.Name ("_law_e" : Str) q3] [] q4) q5, .Return (some (.Tuple [.Name ("_law_word" : Str) q6, .Call (.Name ("_law_error_field" : Str) q7) [.Name ("_law_e" : Str) q8, .Name ("_law_word" : Str) q9] [] p7] n2 p8)) p9] q10] [] [] q11] ("_law_ask" : Str) q (TTry X.K CT word fld) := by
  intro k f c s H Q tl hr k40 act hc y
  have hr3 := hr.mono (show 3 ≤ k by omega)
  have nd : ([("_law_ask" : Str), "_law_e", "_law_word"] : List Str).Nodup := by decide +kernel
  refine ⟨_, pss_one (L2C.ps_try_as (i := 1) (c := .ref CT) (tb := fun W => tRet (tTup (tCons (tC (.str ("value" : Str))) (tCons (fun σZ HZ Q => σZ[0]? = some (some (.ref f)) ∧ HZ c = some (LamX.CodeO c q) ∧ tl (fun cls d H2 => W cls d σZ H2) HZ Q) tNil))))
    (ts := tSuite X.K CT word fld) rfl rfl nd rfl s1 ⟨g1, by decide +kernel, .inl mT⟩
    (fun W pn xe tk _ => pss_one (ps_ret (pe_tup (pa_cons pe_str (pa_cons (act W pn xe (fun σ2 cls d H2 => W cls d σ2 H2) _ _ tk (fun _ _ _ _ h => h)) pa_nil)))))
    (fun a oe cls d pn hz1 hz2 hf => pss_cons (ps_set (i := 2) nd rfl (.inl s2) (by exact pe_callG (X := Cx.suite (cxOf CX0 X.prog X.w X.K X.mg X.base [("_law_ask" : Str), "_law_e", "_law_word"] x sg g cdg X.A X.stack s H E0).nox a ((a, oe) :: pn)) GN ⟨hr3.dp, hr3.un⟩ (hotG_suite2 hf) hz1 hz2 g2 mN kN bN (pa_cons (pe_var (i := 1) rfl (.inl s1)) pa_nil)))
      (pss_one (ps_ret (pe_tup (pa_cons (pe_var (i := 2) rfl (.inl s2)) (pa_cons (by exact pe_callG (X := Cx.suite (cxOf CX0 X.prog X.w X.K X.mg X.base [("_law_ask" : Str), "_law_e", "_law_word"] x sg g cdg X.A X.stack s H E0).nox a ((a, oe) :: pn)) GF ⟨hr3.dp, hr3.un⟩ (hotG_suite2 hf) hz1 hz2 g3 mF kF bF (pa_cons (pe_var (i := 1) rfl (.inl s1)) (pa_cons (pe_var (i := 2) rfl (.inl s2)) pa_nil))) pa_nil))))))), ?_⟩
  exact ⟨rfl, hc, y f⟩
section OPN
open PySem PySem.Spec PyProof.Rows
/-! ### an own exception whose __init__ says super().__init__(text), then self.f = x -/
/-- the context of such a body: its only cell is __class__'s, in the written part -/
def cxS (CX : CXT) (P : Program) (w : World) (K : PySem.W.Frag) (mg : Str → Option Value) (base : Heap) (N : List Str) (qual : Str) (scope : Scope) (f : Addr) (cd : Value) (cc : Addr) (A : Around) (outer : List Env) (s : Shared) (H : Hp) (E : XK) : Cx where
  prog := P
  w := w
  K := K
  mg := mg
  base := base
  A := A.deeper (PySem.W.ksEnv qual scope s.heap.objs.size f cd cc)
  N := N
  s_0 := s
  H_0 := H
  env := PySem.W.ksEnv qual scope s.heap.objs.size f cd cc
  outer := outer
  stack := PySem.W.ksEnv qual scope s.heap.objs.size f cd cc :: outer
  ex := []
  calm := true
  fn := fun _ => false
  pn := []
  xe := fun e s' => wpAny (model P w) (A.deeper (PySem.W.ksEnv qual scope s.heap.objs.size f cd cc)) (leaving (PySem.W.ksEnv qual scope s.heap.objs.size f cd cc) e) (fun _ s'' => CX outer H s E e s'') (fun e' s'' => CX outer H s E e' s'') s'
/-- the scope of such a def -/
structure SupScope (ps : List Str) (sc : Scope) : Prop where
  kind : sc.kind = .function
  co : sc.isCoroutine = false
  gen : sc.isGenerator = false
  nd : ps.Nodup
  par : ∀ x ∈ ps, sc.names.lookup x = some .local
  sup : sc.names.lookup ("super" : Str) = some .globalImplicit
  cls : sc.names.lookup ("__class__" : Str) = some .free
  noc : ∀ y ∈ sc.names, y.2 ≠ .cell
  fre : ∀ x, sc.names.lookup x = some .free → x = ("__class__" : Str)
theorem rev_lookup {ps : List Str} {us : List Value} {i : Nat} {y : Str} {u : Value} (nd : ps.Nodup) (hp : ps[i]? = some y) (hu : us[i]? = some u) : (ps.zip us).reverse.lookup y = some u := by
  have gen : ∀ {l : List (Str × Value)} {n : Str} {c : Value}, (l.map (·.1)).Nodup → (n, c) ∈ l → l.lookup n = some c := fun {l n c} => by
    induction l with
    | nil => intro _ h; cases h
    | cons p r ih =>
      intro hn h
      obtain ⟨k, d⟩ := p
      rw [List.map_cons, List.nodup_cons] at hn
      rw [List.lookup_cons]
      rcases List.mem_cons.mp h with e | h2
      · cases e
        rw [beq_self_eq_true]
      · have ne : (n == k) = false := by
          rw [beq_eq_false_iff_ne]
          rintro rfl
          exact hn.1 (List.mem_map.mpr ⟨_, h2, rfl⟩)
        rw [ne]
        exact ih hn.2 h2
  refine gen ?_ ?_
  · rw [List.map_reverse]
    unfold List.Nodup
    rw [List.pairwise_reverse]
    have e : (ps.zip us).map (·.1) = ps.take us.length := by
      clear hp hu nd
      induction ps generalizing us with
      | nil => simp
      | cons a r ih =>
        cases us with
        | nil => rfl
        | cons b s =>
          rw [List.zip_cons_cons, List.map_cons, ih]
          rfl
    rw [e]
    exact (nd.sublist (List.take_sublist _ _)).imp fun h z => h z.symm
  · rw [List.mem_reverse]
    refine List.mem_of_getElem? (i := i) ?_
    rw [List.getElem?_zip_eq_some]
    exact ⟨hp, hu⟩
theorem inv_startS {CX : CXT} {P : Program} {w : World} {K : PySem.W.Frag} {mg : Str → Option Value} {base : Heap} {ps : List Str} {qual : Str} {scope : Scope} {f cc D : Addr} {cd cl : Value} {cld : Option Addr} {csl : Array (Option Value)} {A : Around} {outer : List Env} {s : Shared} {h1 : Heap} {tk : Nat} {H : Hp} {E : XK} {us : List Value} {vs : List V}
    (S : SupScope ps scope) (hcell : K.lookup cc = some ⟨cl, cld, .cell (some (.ref D)), csl⟩) (hd : A.handled = none) (e0 : Env0 P w K mg base A outer s H) (hl : vs.length = ps.length) (r : Vals vs us)
    (ns : h1.Ns s.heap.objs.size (fun x => (ps.zip us).reverse.lookup x)) (hk : ∀ b o, s.heap.get? b = some o → h1.get? b = some o) :
    Inv (cxS CX P w K mg base ps qual scope f cd cc A outer s H E) [] (vs.map some) H { s with heap := h1, toks := tk } := by
  have KX : K.In s.heap := e0.mod.kin.keeps fun b o e => (e0.bs b o e).1
  have noA : ∀ b : Addr, b ∉ (cxS CX P w K mg base ps qual scope f cd cc A outer s H E).ex := fun b z => absurd (show b ∈ ([] : List Addr) from z) (by simp)
  have look1 : ∀ y c, (cxS CX P w K mg base ps qual scope f cd cc A outer s H E).env.cells.lookup y = some c → y = ("__class__" : Str) ∧ c = cc := fun y c h => by
    have h : List.lookup y [(("__class__" : Str), cc)] = some c := h
    rw [List.lookup_cons] at h
    by_cases q : (y == ("__class__" : Str)) = true
    · rw [q] at h
      exact ⟨eq_of_beq q, (Option.some.inj h).symm⟩
    · rw [Bool.not_eq_true] at q
      rw [q] at h
      cases h
  have base0 : base.get? cc = some ⟨cl, cld, .cell (some (.ref D)), csl⟩ := e0.mod.kin _ _ hcell
  refine ⟨⟨e0.mod, S.kind, rfl, rfl, Nat.le_refl _, fun y z c h1 h2 => ?_, fun y hy => ?_, fun y c h => ?_, fun _ => hd, Around.frames_deeper e0.frames, .inr ⟨rfl, rfl⟩, fun b z => absurd z (noA b), e0.bs, e0.bsz, fun b _ _ => noA b, fun b z => absurd z (noA b), e0.funs, e0.frf⟩,
    rfl, e0.bare, Un.kept hk, ⟨_, ns, fun i y v h1 h2 h3 => ?_⟩, fun y c h => ?_, e0.hok.fresh (Nat.le_refl _), fun y c h => ?_, fun p hp => absurd (show p ∈ ([] : List (Addr × Obj)) from hp) (by simp), e0.hok.kept hk, ?_⟩
  · rw [(look1 _ _ h1).1, (look1 _ _ h2).1]
  · have hy : scope.names.lookup y = some .cell ∨ scope.names.lookup y = some .free := hy
    rcases hy with hy | hy
    · exact absurd rfl (S.noc _ (PySem.mem_of_lookup hy))
    · exact ⟨cc, by rw [S.fre _ hy]; rfl⟩
  · exact nomatch h
  · have ha : vs[i]? = some v := by
      rw [List.getElem?_map] at h2
      cases e : vs[i]? with
      | none => rw [e] at h2; cases h2
      | some a => rw [e] at h2; cases h2; rfl
    obtain ⟨u, hu, rv⟩ := r.get ha
    have hp : ps[i]? = some y := h1
    refine ⟨u, rv, .inl ⟨S.par y (List.mem_of_getElem? hp), ?_⟩⟩
    exact rev_lookup S.nd hp hu
  · obtain ⟨rfl, rfl⟩ := look1 _ _ h
    exact ⟨_, _, hk _ _ (KX _ _ hcell), rfl⟩
  · obtain ⟨rfl, rfl⟩ := look1 _ _ h
    exact (e0.bs _ _ base0).2
  · show (vs.map some).length = ps.length
    rw [List.length_map, hl]
/-- the bound ValueError.__init__, called -/
theorem call_mw {X : Cx} {pins : List (Addr × Obj)} {σ : L2.St} {H : Hp} {s : Shared} {a C u : Addr} {us : List Value} {A : Around} {E : Value → Shared → Prop} {Q : Value → Shared → Prop} (T : OexC X.K C) (I : Inv X pins σ H s) (e : H a = some (exo a C none)) (hu : s.heap.get? u = some (PySem.W.kxs_mw "ValueError.__init__" a)) (hl : us.length ≤ sizeLine) (h : ∀ s', Inv X pins σ H s' → Q .none s') :
    wpAny (model X.prog X.w) A (call (.ref u) us) Q E s := by
  obtain ⟨nm, q, N, bs, bm, sn, sub, ab, col, dd, k0, k1, k2, k3, k5, hC, hbm⟩ := T.cls
  obtain ⟨t1, ho⟩ := exo_at I.hok e
  obtain ⟨hp, g, d, t, os⟩ := s
  refine wpAny_call (codeAny_of_tree ?_)
  show wpAny _ A.in1 (callAny (.ref u) ⟨us, []⟩) _ _ _
  simp only [callAny]
  refine wpAny_bind (wpAny_load hu ?_)
  simp only [PySem.W.kxs_mw, show (Value.type "method-wrapper" == Value.type "method" || Value.type "method-wrapper" == Value.type "builtin_function_or_method" || Value.type "method-wrapper" == Value.type "method-wrapper") = true by decide, if_true]
  refine PySem.W.KFB.if_so (by decide) ?_
  refine wpAny_bind (PySem.W.check_bound_init PySem.F.excBase_ValueError.toExcCallFacts (I.kIn _ _ hC) ho rfl ?_)
  refine wpAny_bind (wpAny_pure (wpAny_pure ?_))
  refine ⟨plainId_quiet PySem.F.excBase_ValueError.init.plain _, codeAny_builtin PySem.F.excBase_ValueError.initEntry ?_⟩
  refine PySem.W.exc_init_tree (cls := .ref C) (t0 := t1) (dv := none) (c2 := .none) (c3 := .none) (b4 := .bool false) ho hl fun h' k hx _ => ?_
  have J := I.write (t' := t) (x := a) (e := a) (o := exo a C none) (by rw [e]; exact True.intro) (.inl rfl) k ⟨_, hx⟩ (exo_ok hx)
  have eu : upd H a (exo a C none) = H := by
    funext b
    by_cases hb : b = a
    · rw [hb, upd_same, e]
    · rw [upd_ne hb]
  rw [eu] at J
  exact h _ J
theorem cw1 {M : Model} {A : Around} {E : Value → Shared → Prop} {s : Shared} {pos : Pos} {u x : Addr} {i : String} {env : Env} {e : Expr} {Q : Value → Shared → Prop} (h : wpAny M A (spliced (backTo pos (starEach [e] env))) (fun vs s₁ => PySem.W.KxsAt i u x s₁.heap ∧ wpAny M A (call (.ref u) vs) Q E s₁) E s)
    (he : starEach [e] env = [(false, eval e env)]) : wpAny M A (callWith pos (.ref u) [] (backTo pos (starEach [e] env)) []) Q E s := by
  rw [he] at h ⊢
  exact PySem.W.kxs_callWith (i := i) (x := x) rfl (PySem.Calls.evalArgs_plain h)
/-- such an __init__: the exception gets its dict, with the one field -/
def spS (C : Addr) (fld : Str) (okv : V → Prop) : Sp := fun vs H Q _ => ∃ (a : Addr) (v : V), vs = [.ref a, v] ∧ H a = some (exo a C none) ∧ okv v ∧ ∀ dx, H dx = none → dx ≠ a → Q .non (upd (upd H dx (exd dx [(fld, v)])) a (exo a C (some dx)))
open PySem.W in
theorem ok_sup {CX : CXT} {P : Program} {w : World} {K : PySem.W.Frag} {mg : Str → Option Value} {base : Heap} {f cda cc C : Addr} {name qual sf xn fld file : Str} {params : Arguments} {scope : Scope} {dV kV doc pm ct oc cl ccl : Value} {an od cld cdd : Option Addr} {osl csl ccs : Array (Option Value)} {cvs : Array Value} {tf : Tok} {ar : Arg} {e : Expr} {okv : V → Prop} {p0 p1 p2 p3 p4 q1 q2 q3 q4 : Pos}
    (lk : K.lookup f = some ⟨oc, od, .func (ksFn name qual params [.Expr (.Call (.Attribute (.Call (.Name ("super" : Str) p0) [] [] p1) ("__init__" : Str) p2) [e] [] p3) p4, .Assign [.Attribute (.Name sf q1) fld q2] (.Name xn q3) q4] scope dV kV doc pm an (.ref cda) ct cc), osl⟩)
    (hcd : codeIn K (.ref cda) qual = true) (S : SupScope [sf, xn] scope) (hp : (params.posonlyargs ++ params.args).head? = some ar) (har : ar.arg = sf)
    (hcode : K.lookup cda = some ⟨ccl, cdd, .fields cvs, ccs⟩) (hvs : cvs[2]? = some (.str file tf)) (hfile : ((P.main.file : Str) == file) = true) (htop : (P.main.scope.names.lookup ("super" : Str)).isSome = false)
    (hcell : K.lookup cc = some ⟨cl, cld, .cell (some (.ref C)), csl⟩) (T : OexC K C) (hsub : mroIn K C (.ref C) = some true) (hsuper : mg ("super" : Str) = none) (ho : nsIn K cStatics "thirdparty.any" = some none)
    (hm : ks_superIn K C C "__init__" = some (some (.builtin "ValueError.__init__"))) (hB : subIn K (.ref C) (.type "ValueError") = some true) (hno : findIn K (.ref C) fld = some none)
    (he : ∀ (A : Around) (outer : List Env) (s : Shared) (H : Hp) (E : XK) (a : Addr) (v : V), okv v → ∃ ta, PA (cxS CX P w K mg base [sf, xn] qual scope f (.ref cda) cc A outer s H E) [e] ta ∧ ta [some (.ref a), some v] H fun ws H2 => ws.length ≤ 1000 ∧ H2 = H)
    (hev : ∀ env : Env, ∃ pl : Sem Bool, eval (.Call (.Attribute (.Call (.Name ("super" : Str) p0) [] [] p1) ("__init__" : Str) p2) [e] [] p3) env = (do
      let ov ← attributeBase (.Call (.Name ("super" : Str) p0) [] [] p1) ("__init__" : Str) env (eval (.Call (.Name ("super" : Str) p0) [] [] p1) env)
      standAt p2.atName
      let (f, first) ← holding [ov] (getMethod ov ("__init__" : Str) pl)
      callWith p3 f first (backTo p3 (starEach [e] env)) []) := by exact fun _ => ⟨_, rfl⟩)
    (hsw : ∀ env : Env, swapsWith (.Call (.Attribute (.Call (.Name ("super" : Str) p0) [] [] p1) ("__init__" : Str) p2) [e] [] p3) none p4.line env = pure false := by exact fun _ => rfl)
    (hstar : ∀ env, starEach [e] env = [(false, eval e env)] := by exact fun _ => rfl) (hsw2 : ∀ env : Env, swapsWith (.Name xn q3) (some (.Attribute (.Name sf q1) fld q2)) q4.line env = pure false := by exact fun _ => rfl)
    (n1 : (sf == ("__debug__" : Str)) = false := by decide) (n2 : (sf == ("__classdict__" : Str)) = false := by decide) (n3 : (xn == ("__debug__" : Str)) = false := by decide) (n4 : (xn == ("__classdict__" : Str)) = false := by decide) :
    FnOk P w K mg base CX 1 f (ksFn name qual params [.Expr (.Call (.Attribute (.Call (.Name ("super" : Str) p0) [] [] p1) ("__init__" : Str) p2) [e] [] p3) p4, .Assign [.Attribute (.Name sf q1) fld q2] (.Name xn q3) q4] scope dV kV doc pm an (.ref cda) ct cc) [sf, xn] (spS C fld okv) := by
  refine ⟨fun vs H Q E h => ?_, fun A outer s H args us vs Q E hr e0 hb r hsp => ?_⟩
  · obtain ⟨_, _, rfl, _⟩ := h
    rfl
  obtain ⟨a, v, rfl, ha, hv, q⟩ := hsp
  have KX : K.In s.heap := e0.mod.kin.keeps fun b o e => (e0.bs b o e).1
  have lim : s.heap.NoLimit := e0.mod.nolimit.keeps fun b o e => (e0.bs b o e).1
  have hloc : ∀ y ∈ [sf, xn].zip us, scope.names.lookup y.1 = some .local := fun ⟨n, v⟩ hy => S.par n (List.of_mem_zip hy).1
  refine ks_codeAny_call_defAt (body := [.Expr (.Call (.Attribute (.Call (.Name ("super" : Str) p0) [] [] p1) ("__init__" : Str) p2) [e] [] p3) p4, .Assign [.Attribute (.Name sf q1) fld q2] (.Name xn q3) q4]) (binds := [sf, xn].zip us) hr.depth (KX _ _ lk) rfl lim (codeRec_of KX hcd) rfl hb S.noc hloc (fun h1 hns hk => ?_) S.co S.gen S.kind
  have I := inv_startS (CX := CX) (qual := qual) (f := f) (cd := .ref cda) (tk := s.toks + ([sf, xn].zip us).length) (E := E) S hcell hr.hd e0 rfl r hns hk
  obtain ⟨ta, hpa, hta⟩ := he A outer s H E a v hv
  obtain ⟨u, rfl, ru⟩ : ∃ u, us = [.ref a, u] ∧ RelV v u := by
    cases r with
    | cons r1 r2 =>
      cases r2 with
      | cons r3 r4 =>
        cases r4
        obtain rfl := (show _ = Value.ref a from r1)
        exact ⟨_, rfl, r3⟩
  have hz : ([sf, xn].zip [Value.ref a, u]).reverse.lookup sf = some (.ref a) := rev_lookup (i := 0) S.nd rfl rfl
  obtain ⟨mb, b1, b2⟩ := I.mod.blt
  obtain ⟨nm, qn, N, bs, bm, sn, sub, ab, col, dd, k0, k1, k2, k3, k5, hC, hbm⟩ := id T.cls
  have hcl : clsIn K C = some { name := nm, bases := bs, mro := .ref C :: bm, ns := N, qualname := qn, hasDict := true, slotNames := sn, subclasses := sub, abstract := ab, collection := col, hasDel := false } := by unfold clsIn; rw [hC] <;> rfl
  have hD1 := I.kIn _ _ hC
  obtain ⟨t1, ho1⟩ := exo_at I.hok ha
  obtain ⟨pl, hev1⟩ := hev (ksEnv qual scope s.heap.objs.size f (.ref cda) cc)
  refine ks_wpAt_execs_cons (ks_wpAt_Expr_any (ks_wpAt_MethodCall (pl := pl) ?_ hev1) (by show (scope.kind == .module && _) = false; rw [S.kind]; rfl) (hsw _))
  refine ks_wpAt_super_base (env := ksEnv qual scope s.heap.objs.size f (.ref cda) cc) S.sup S.cls (by decide) rfl (I.kIn _ _ lk) rfl hp rfl (I.kIn _ _ hcode) rfl hvs hfile htop ?_
  refine ks_loadName_global S.kind S.sup (Calls.loadGlobal_builtin (env := ksEnv qual scope s.heap.objs.size f (.ref cda) cc) (I.mod.glob.keeps I.bk) hsuper (b1.keeps I.bk) ((b2 _ (by decide)).trans PyProof.Rows.Boot.«super») ⟨rfl, ?_⟩)
  refine wpAny_loadName_free S.kind S.cls rfl ⟨_, I.kIn _ _ hcell, rfl⟩ ?_
  refine wpAny_loadName_local S.kind (by rw [har]; exact S.par sf (by simp)) hns (by rw [har]; exact hz) ?_
  refine ks_wpAny_isType_cls hD1 rfl ⟨rfl, ?_⟩
  refine ks_wpAny_call_super hD1 rfl ho1 rfl (fun c z => nomatch z) (looks_mroIn I.kIn hsub) (fun h2 e2 k2 => ?_)
  have I2 := I.kept (t' := s.toks + ([sf, xn].zip [Value.ref a, u]).length) k2
  have inst : InstAt h2 a { cls := .ref C, dict := none, data := .fields #[.ref t1, .none, .none, .none, .bool false, .none] } C none := ⟨k2 _ _ ho1, rfl, rfl, trivial⟩
  have hI : Looks (model P w) h2 (isInstance (.ref a) (.type "ValueError")) true := inst.type.andThen (looks_subIn I2.kIn hB)
  have hm1 : alongIn K "__init__" (((Value.ref C :: bm).dropWhile (· != .ref C)).drop 1) = some (some (.builtin "ValueError.__init__")) := by
    have z := hm
    unfold ks_superIn at z
    rw [hcl] at z
    exact z
  refine kxs_getMethod kxs_ValueError e2 (looks_opaque I2.kIn ho) (l₀ := .ref C :: bm) (fun A Q E s k q => wpAny_bind ((looks_clsIn I2.kIn hcl) A _ E s k (wpAny_pure q))) rfl I2.kIn hm1 hI (ks_ne I2.kIn inst hcl) (by decide) ?_
  have I3 := (I2.kept (t' := s.toks + ([sf, xn].zip [Value.ref a, u]).length + 1) (h' := h2.push (kxs_mw "ValueError.__init__" a)) fun b o z => Heap.get?_push_of_some _ z).pins_of (pins' := [(h2.objs.size, kxs_mw "ValueError.__init__" a)]) fun p hp => by
    obtain rfl : p = (h2.objs.size, kxs_mw "ValueError.__init__" a) := by simpa using hp
    exact ⟨Heap.get?_push_at rfl rfl, I2.hok.fresh (Nat.le_refl _), Nat.ne_of_gt I2.lt, I2.nofs (Nat.le_refl _), fun v z => nomatch z⟩
  refine cw1 (i := "ValueError.__init__") (x := a) (thn (hpa.run p3 _ _ _ _ _ I3 hta) fun us s4 ⟨vs, H1, I4, r4, hlen, hH⟩ => ?_) (hstar _)
  subst hH
  have hu := (I4.pin _ (List.mem_append_right _ (List.mem_singleton.mpr rfl))).1
  refine ⟨hu, call_mw T I4 ha hu (by rw [← Paired.length r4, sizeLine_eq]; omega) fun s5 J => ?_⟩
  have P2 : PS (cxS CX P w K mg base [sf, xn] qual scope f (.ref cda) cc A outer s H1 E) (.Assign [.Attribute (.Name sf q1) fld q2] (.Name xn q3) q4) (tOst K fld (tVar 0) (tVar 1)) := ps_ost (pe_var rfl (.inl (S.par sf (by simp))) n1 n2) (pe_var rfl (.inl (S.par xn (by simp))) n3 n4) (hsw2 _)
  refine ks_wpAt_execs_cons (wpAt_of_wpAny (thn (P2.run _ s5 _ _ { nx := fun _ H' => Q .non H', rt := Q } J ⟨_, rfl, _, rfl, a, C, rfl, T, hno, .inl ⟨ha, q⟩⟩) fun fl s6 hs => ?_))
  cases fl with
  | ret u =>
    obtain ⟨v, σ', H', J, rv, q⟩ := hs
    exact ⟨v, H', J.os, J.bare, J.base, J.hok, rv, q⟩
  | next =>
    obtain ⟨σ', H', J, q⟩ := hs
    exact wpAt_of_wpAny (wpAny_pure ⟨.non, H', J.os, J.bare, J.base, J.hok, rfl, q⟩)
  | brk =>
    obtain ⟨_, _, _, q⟩ := hs
    exact False.elim q
  | cont =>
    obtain ⟨_, _, _, q⟩ := hs
    exact False.elim q
end OPN
section OPN
open PySem PySem.Spec PyProof.Rows
/-! ### the handled exception with a dict: isinstance, its fields -/
def rIsF (K : PySem.W.Frag) (D xh : Addr) (dd : Option Addr) : List V → Hp → VK → Prop := fun vs H Q => (∀ d, dd = some d → ∃ fs, H d = some (.xd fs)) ∧ rIsB K D xh vs H Q
theorem hot_inst {X : Cx} {pins : List (Addr × Obj)} {σ : L2.St} {H : Hp} {s : Shared} {xh D : Addr} {oh : Obj} (hb : HotB X xh oh) (I : Inv X pins σ H s) (hc : oh.cls = .ref D) (hd : ∀ d, oh.dict = some d → ∃ fs, H d = some (.xd fs)) : ∃ od, PySem.W.InstAt s.heap xh oh D od := by
  have g := hb.get I
  obtain ⟨ws, d1, _⟩ := hb.dat
  have nc : PySem.W.notCls oh = true := by unfold PySem.W.notCls; rw [d1] <;> rfl
  cases e : oh.dict with
  | none => exact ⟨none, g, hc, nc, by rw [e]; trivial⟩
  | some d =>
    obtain ⟨fs, hfs⟩ := hd d e
    have hx : ObjOk X.prog X.w H s.heap d (.xd fs) := I.hok d _ hfs
    obtain ⟨mA, hns, _⟩ := hx
    obtain ⟨od, ho, _⟩ := lookIn_ns hns
    exact ⟨some od, g, hc, nc, by rw [e]; exact ho⟩
theorem call_isF {X : Cx} {xh D : Addr} {oh : Obj} (hb : HotB X xh oh) (C : ExcC X.K D) (hc : oh.cls = .ref D) : CallR X (.builtin "isinstance") (rIsF X.K D xh oh.dict) := by
  intro pins s σ H vs us Q I r y
  obtain ⟨hd, c, u, b, rfl, kc, e, q⟩ := y
  obtain ⟨u1, u2, rfl, r1, r2⟩ := vals2 r
  cases (show u1 = Value.ref xh from r1)
  have e2 := kc.eq r2
  subst e2
  obtain ⟨od, J⟩ := hot_inst hb I hc hd
  have hcl : (PySem.W.clsIn X.K D).isSome = true := by
    obtain ⟨cd, h, _⟩ := PySem.W.any_some C.hd
    rw [h]
    rfl
  exact PySem.W.kia_one (PySem.W.kitx_exc hcl C.hg C.hk C.hs C.ha C.hn C.ht C.hm) I.kIn J e (fun z => nomatch z) fun tk => ⟨.bl b, H, I.tok tk, rfl, q⟩
/-- e.f, e the handled exception -/
def tXfB (xh : Addr) (dd : Option Addr) (f : Str) (te : TE) : TE := fun σ H Q => te σ H fun x H1 => x = .ref xh ∧ ∃ (d : Addr) (fs : List (Str × V)) (v : V), dd = some d ∧ H1 d = some (.xd fs) ∧ fs.lookup f = some v ∧ Q v H1
theorem pe_xfB {X : Cx} {xh C : Addr} {oh : Obj} {e : Expr} {te : TE} {pos : Pos} {n : Str} (hb : HotB X xh oh) (T : XfC X.K C) (hno : PySem.W.findIn X.K (.ref C) n = some none) (hc : oh.cls = .ref C) (he : PE X e te) (hab : attributeBase e n X.env (eval e X.env) = eval e X.env := by rfl) :
    PE X (.Attribute e n pos) (tXfB xh oh.dict n te) := by
  refine ⟨fun pins s σ H Q I h => ?_⟩
  refine attr_of hab (thn (he.run pins s σ H _ I h) fun u s1 hh => ?_)
  obtain ⟨x, H1, I1, rx, ex, dd, fs, v, ed, ea, l, q⟩ := hh
  subst ex
  obtain rfl : u = Value.ref xh := rx
  have hx : ObjOk X.prog X.w H1 s1.heap dd (.xd fs) := I1.hok dd _ ea
  obtain ⟨mA, hns, hr⟩ := hx
  obtain ⟨od, ho, hl⟩ := lookIn_ns hns
  obtain ⟨u, hu, ru⟩ := RelO.some_of (v := v) (o := mA n) (by rw [← l]; exact hr n)
  obtain ⟨ws, d1, _⟩ := hb.dat
  have J : PySem.W.InstAt s1.heap xh oh C (some od) := ⟨hb.get I1, hc, by unfold PySem.W.notCls; rw [d1] <;> rfl, by rw [ed]; exact ho⟩
  exact HandSPX.exc_get I1.kIn J T.ga T.gg T.exC (PySem.W.findObj_own T.hdC hno rfl (by rw [hl, hu])) (handed_of ru) ⟨v, H1, I1.tok _, ru, q⟩
end OPN
section OPN
open PySem PySem.Spec PyProof.Rows
/-! ### the handled exception may have a dict: isinstance asks only that the dict is there -/
theorem call_isB2 {X : Cx} {xh D : Addr} {oh : Obj} (hb : HotB X xh oh) (C : ExcC X.K D) (hc : oh.cls = .ref D) (hd : ∀ d, oh.dict = some d → (∃ o, X.s_0.heap.get? d = some o) ∧ d ∉ X.ex) : CallR X (.builtin "isinstance") (rIsB X.K D xh) := by
  intro pins s σ H vs us Q I r y
  obtain ⟨c, u, b, rfl, kc, e, q⟩ := y
  obtain ⟨u1, u2, rfl, r1, r2⟩ := vals2 r
  cases (show u1 = Value.ref xh from r1)
  have e2 := kc.eq r2
  subst e2
  have g := hb.get I
  obtain ⟨ws, d1, _⟩ := hb.dat
  have nc : PySem.W.notCls oh = true := by unfold PySem.W.notCls; rw [d1] <;> rfl
  have J : ∃ od, PySem.W.InstAt s.heap xh oh D od := by
    cases e : oh.dict with
    | none => exact ⟨none, g, hc, nc, by rw [e]; trivial⟩
    | some d =>
      obtain ⟨⟨o, ho⟩, nx⟩ := hd d e
      obtain ⟨o', ho'⟩ := I.base.there d o ho nx
      exact ⟨some o', g, hc, nc, by rw [e]; exact ho'⟩
  obtain ⟨od, J⟩ := J
  have hcl : (PySem.W.clsIn X.K D).isSome = true := by
    obtain ⟨cd, h, _⟩ := PySem.W.any_some C.hd
    rw [h]
    rfl
  exact PySem.W.kia_one (PySem.W.kitx_exc hcl C.hg C.hk C.hs C.ha C.hn C.ht C.hm) I.kIn J e (fun z => nomatch z) fun tk => ⟨.bl b, H, I.tok tk, rfl, q⟩
theorem xd_there {P : Program} {w : World} {H : Hp} {h : Heap} {d : Addr} {fs : List (Str × V)} (k : HOk P w H h) (e : H d = some (.xd fs)) : ∃ o, h.get? d = some o := by
  have hx : ObjOk P w H h d (.xd fs) := k d _ e
  obtain ⟨mA, hns, _⟩ := hx
  obtain ⟨od, ho, _⟩ := lookIn_ns hns
  exact ⟨od, ho⟩
theorem Fun.okB2 {P : Program} {w : World} {K : PySem.W.Frag} {mg : Str → Option Value} {base : Heap} {x qual : Str} {st : Stmt} {f : Addr} {fd : FuncData} {N ps : List Str} {k : Nat} {sp : Addr → Value → Option Addr → Sp} (F : L2.Fun K x qual st f fd) (S : FnScope N ps (defScope st))
    (body : ∀ (cdv : Value) (A : Around) (outer : List Env) (s : Shared) (H : Hp) (vs : List V) (Q : VK) (xh : Addr) (oh : Obj), L2H.RoomH k (A.deeper (PyProof.Rows.envOfC qual (defScope st) s.heap.objs.size f cdv)) → HotB (L2H.cxH CX0 P w K mg base N qual (defScope st) f cdv A outer s H E0 (xh, oh)).nox xh oh → HOk P w H s.heap → sp xh oh.cls oh.dict vs H Q E0 →
      ∃ t, PSs (L2H.cxH CX0 P w K mg base N qual (defScope st) f cdv A outer s H E0 (xh, oh)).nox (defBody st) t ∧ t { nx := fun _ H' => Q .non H', rt := Q } (L2.start N vs) H) : FnB P w K mg base (k + 1) f fd ps sp := by
  obtain ⟨oc, od, kV, doc, pm, an, cdv, ct, osl, rfl, lk, hcd⟩ := F.ex
  intro A outer s H args us vs Q xh oh hr hp e0 hb r hl hsp
  have KX : K.In s.heap := e0.mod.kin.keeps fun b o e => (e0.bs b o e).1
  have hkind : ∀ y ∈ ps.zip us, (defScope st).names.lookup y.1 = some .local ∨ ((defScope st).names.lookup y.1 = some .cell ∧ ((cellsFrom (s.heap.objs.size + 1) (defScope st).names []).lookup y.1).isSome = true) := by
    rintro ⟨n, v⟩ hy
    exact (S.par n (List.of_mem_zip hy).1).imp id fun q => ⟨q, PySem.W.cellsFrom_some _ _ _ (.inl q)⟩
  refine codeAny_call_function hr.depth (KX _ _ lk) rfl S.co S.gen rfl (PySem.W.codeRec_of KX hcd) (hb _ _ _ _ (wpAny_newFunctionEnv_cells S.kind hkind fun env he s1 y => ?_))
  subst he
  refine ⟨(e0.mod.nolimit.keeps fun b o e => (e0.bs b o e).1).keeps y.toInCall.keep, codeAny_func ?_⟩
  have hB := hp.b (CX := CX0) (P := P) (w := w) (K := K) (mg := mg) (base := base) (N := N) (qual := qual) (scope := defScope st) (f := f) (cd := cdv) (E := E0)
  obtain ⟨t, ht, hq⟩ := body cdv A outer s H vs Q xh oh (hr.deeper _) ⟨hB.hnd, hB.obj, hB.dat, hB.unt, hB.nfs, hB.nex⟩ e0.hok hsp
  have I : Inv (L2H.cxH CX0 P w K mg base N qual (defScope st) f cdv A outer s H E0 (xh, oh)) [] (L2.start N vs) H s1 := L2H.inv_startH S hp.pin e0 hl r y
  refine wpAny_mono (ht.run [] s1 (L2.start N vs) H _ (I.wish _) hq) (fun fl s' z => ?_) fun _ _ z => z.elim
  have z' : SP (L2H.cxH CX0 P w K mg base N qual (defScope st) f cdv A outer s H E0 (xh, oh)) [] { nx := fun _ H' => Q .non H', rt := Q } fl s' := z.unwish
  cases fl with
  | ret u =>
    obtain ⟨v, σ', H', J, rv, q⟩ := z'
    exact ⟨v, H', J.os, J.bare, J.base, J.hok, rv, q⟩
  | next =>
    obtain ⟨σ', H', J, q⟩ := z'
    exact ⟨V.non, H', J.os, J.bare, J.base, J.hok, rfl, q⟩
  | brk => exact z'.elim fun _ y => y.elim fun _ y => y.2.elim
  | cont => exact z'.elim fun _ y => y.elim fun _ y => y.2.elim

end OPN
section OPN
open PySem.Spec PyProof.Rows
/-! ### try: return ('value', ask()) / except TermError as e: the error's word and field -/
/-- a class that TermError names -/
structure Wd2 (K : PySem.W.Frag) (CT D : Addr) (dd : Option Addr) (H : Hp) : Prop where
  exc : ExcC K D
  nod : ∀ d, dd = some d → ∃ fs, H d = some (.xd fs)
  mat : PySem.W.exmOne K (.ref D) (.ref CT) = some true
def spName2 (K : PySem.W.Frag) (CT : Addr) (word : Addr → Option Str) : Addr → Value → Option Addr → Sp := fun xh cls dd vs H Q _ => ∃ (D : Addr) (nm : Str), cls = .ref D ∧ Wd2 K CT D dd H ∧ word D = some nm ∧ vs = [.ref xh] ∧ ∀ H', Same H H' → Q (.str nm) H'
def tSuite2 (K : PySem.W.Frag) (CT : Addr) (word : Addr → Option Str) (fld : Addr → Option Addr → Hp → V → Prop) (a : Addr) (cls : Value) (d : Option Addr) : TS :=
  tSeq (tAsg (tCallG (spName2 K CT word) a cls d 1 (tCons (tVar 1) tNil)) (gName 2)) (tRet (tTup (tCons (tVar 2) (tCons (tCallG (spField word fld) a cls d 2 (tCons (tVar 1) (tCons (tVar 2) tNil))) tNil))))
def TTry2 (K : PySem.W.Frag) (CT : Addr) (word : Addr → Option Str) (fld : Addr → Option Addr → Hp → V → Prop) : (XK → Hp → VK → Prop) → Hp → VK → Prop := fun tl H Q =>
  ∀ f : Addr, tl (fun cls d H2 => wAs K (.ref CT) 1 (tSuite2 K CT word fld) (fun _ _ _ _ => False) { nx := fun _ H' => Q .non H', rt := Q } cls d [some (.ref f), none, none] H2) H
    (fun v H' => 2 ≤ sizeLine ∧ ∀ p, H' p = none → Q (.ref p) (upd H' p (.tup [.str ("value" : Str), v])))
theorem wTry2 {K : PySem.W.Frag} {CT : Addr} {word : Addr → Option Str} {fld : Addr → Option Addr → Hp → V → Prop} {Q : VK} {n : L2.St → Hp → Prop} {cls : Value} {dd : Option Addr} {f D : Addr} {nm : Str} {v : V} {H' : Hp}
    (hst : ∀ D dd H H' v, Same H H' → fld D dd H v → fld D dd H' v) (e : cls = .ref D) (hw : Wd2 K CT D dd H') (ew : word D = some nm) (hf : fld D dd H' v) (h : ∀ (p : Addr) (H2 : Hp), Same H' H2 → H2 p = none → Q (.ref p) (upd H2 p (.tup [.str nm, v]))) :
    wAs K (.ref CT) 1 (tSuite2 K CT word fld) (fun _ _ _ _ => False) { nx := n, rt := Q } cls dd [some (.ref f), none, none] H' := by
  subst e
  refine ⟨true, hw.mat, fun _ a _ => ?_, fun z => nomatch z⟩
  refine ⟨_, rfl, rfl, D, nm, rfl, hw, ew, rfl, fun H1 k1 => ?_⟩
  refine ⟨_, rfl, _, rfl, _, rfl, rfl, D, nm, v, rfl, ew, hst _ _ _ _ _ k1 hf, rfl, fun H2 k2 => ⟨by show 2 ≤ sizeLine; decide, fun p hp => h p H2 (k1.trans k2) hp⟩⟩
theorem try_gives2 {X : Cx} {x q : Str} {sg : Scope} {g CT fN fF : Addr} {cdg : Value} {fdN fdF : FuncData} {word : Addr → Option Str} {fld : Addr → Option Addr → Hp → V → Prop} {j1 n1 n2 : Nat} {q1 q2 q3 q4 q5 q6 q7 q8 q9 p1 p2 p3 p4 p5 p6 p7 p8 p9 q10 q11 : Pos}
    (s0 : sg.names.lookup ("_law_ask" : Str) = some .local) (s1 : sg.names.lookup ("_law_e" : Str) = some .local) (s2 : sg.names.lookup ("_law_word" : Str) = some .local) (g1 : sg.names.lookup ("TermError" : Str) = some .globalImplicit) (g2 : sg.names.lookup ("_law_error_name" : Str) = some .globalImplicit) (g3 : sg.names.lookup ("_law_error_field" : Str) = some .globalImplicit)
    (mT : X.mg ("TermError" : Str) = some (.ref CT)) (mN : X.mg ("_law_error_name" : Str) = some (.ref fN)) (mF : X.mg ("_law_error_field" : Str) = some (.ref fF)) (kN : PySem.W.keepIn X.K (.ref fN) = true) (kF : PySem.W.keepIn X.K (.ref fF) = true) (bN : Binds X.K fdN [("_law_e" : Str)] []) (bF : Binds X.K fdF [("_law_e" : Str), "_law_word"] [])
    (GN : FnB X.prog X.w X.K X.mg X.base 3 fN fdN [("_law_e" : Str)] (spName2 X.K CT word)) (GF : FnB X.prog X.w X.K X.mg X.base 3 fF fdF [("_law_e" : Str), "_law_word"] (spField word fld)) :
    GivesN X [("_law_ask" : Str), "_law_e", "_law_word"] x sg g cdg [.Try [.Return (some (.Tuple [.Constant (.str ("value" : Str)) j1 p1, .Call (.Name ("_law_ask" : Str) p2) [] [] p3] n1 p4)) p5] [.ExceptHandler (some (.Name ("TermError" : Str) p6)) (some ("_law_e" : Str)) [.Assign [.Name ("_law_word" : Str) q1] (.Call (.Name ("_law_error_name" : Str) q2) [.Name ("_law_e" : Str) q3] [] q4) q5, .Return (some (.Tuple [.Name ("_law_word" : Str) q6, .Call (.Name ("_law_error_field" : Str) q7) [.Name ("_law_e" : Str) q8, .Name ("_law_word" : Str) q9] [] p7] n2 p8)) p9] q10] [] [] q11] ("_law_ask" : Str) q (TTry2 X.K CT word fld) := by
  intro k f c s H Q tl hr k40 act hc y
  have hr3 := hr.mono (show 3 ≤ k by omega)
  have nd : ([("_law_ask" : Str), "_law_e", "_law_word"] : List Str).Nodup := by decide +kernel
  refine ⟨_, pss_one (L2C.ps_try_as (i := 1) (c := .ref CT) (tb := fun W => tRet (tTup (tCons (tC (.str ("value" : Str))) (tCons (fun σZ HZ Q => σZ[0]? = some (some (.ref f)) ∧ HZ c = some (LamX.CodeO c q) ∧ tl (fun cls d H2 => W cls d σZ H2) HZ Q) tNil))))
    (ts := tSuite2 X.K CT word fld) rfl rfl nd rfl s1 ⟨g1, by decide +kernel, .inl mT⟩
    (fun W pn xe tk _ => pss_one (ps_ret (pe_tup (pa_cons pe_str (pa_cons (act W pn xe (fun σ2 cls d H2 => W cls d σ2 H2) _ _ tk (fun _ _ _ _ h => h)) pa_nil)))))
    (fun a oe cls d pn hz1 hz2 hf => pss_cons (ps_set (i := 2) nd rfl (.inl s2) (by exact pe_callG (X := Cx.suite (cxOf CX0 X.prog X.w X.K X.mg X.base [("_law_ask" : Str), "_law_e", "_law_word"] x sg g cdg X.A X.stack s H E0).nox a ((a, oe) :: pn)) GN ⟨hr3.dp, hr3.un⟩ (hotG_suite2 hf) hz1 hz2 g2 mN kN bN (pa_cons (pe_var (i := 1) rfl (.inl s1)) pa_nil)))
      (pss_one (ps_ret (pe_tup (pa_cons (pe_var (i := 2) rfl (.inl s2)) (pa_cons (by exact pe_callG (X := Cx.suite (cxOf CX0 X.prog X.w X.K X.mg X.base [("_law_ask" : Str), "_law_e", "_law_word"] x sg g cdg X.A X.stack s H E0).nox a ((a, oe) :: pn)) GF ⟨hr3.dp, hr3.un⟩ (hotG_suite2 hf) hz1 hz2 g3 mF kF bF (pa_cons (pe_var (i := 1) rfl (.inl s1)) (pa_cons (pe_var (i := 2) rfl (.inl s2)) pa_nil))) pa_nil))))))), ?_⟩
  exact ⟨rfl, hc, y f⟩
end OPN
section OPT
open PySem.Spec PyProof.Rows
theorem try_givesH2 {X : Cx} {x q : Str} {sg : Scope} {g CT fN fF : Addr} {cdg : Value} {fdN fdF : FuncData} {word : Addr → Option Str} {fld : Addr → Option Addr → Hp → V → Prop} {j1 n1 n2 : Nat} {q1 q2 q3 q4 q5 q6 q7 q8 q9 p1 p2 p3 p4 p5 p6 p7 p8 p9 q10 q11 : Pos}
    (s0 : sg.names.lookup ("_law_ask" : Str) = some .local) (s1 : sg.names.lookup ("_law_e" : Str) = some .local) (s2 : sg.names.lookup ("_law_word_here" : Str) = some .local) (g1 : sg.names.lookup ("TermError" : Str) = some .globalImplicit) (g2 : sg.names.lookup ("_law_error_name" : Str) = some .globalImplicit) (g3 : sg.names.lookup ("_law_error_field" : Str) = some .globalImplicit)
    (mT : X.mg ("TermError" : Str) = some (.ref CT)) (mN : X.mg ("_law_error_name" : Str) = some (.ref fN)) (mF : X.mg ("_law_error_field" : Str) = some (.ref fF)) (kN : PySem.W.keepIn X.K (.ref fN) = true) (kF : PySem.W.keepIn X.K (.ref fF) = true) (bN : Binds X.K fdN [("_law_e" : Str)] []) (bF : Binds X.K fdF [("_law_e" : Str), "_law_word_here"] [])
    (GN : FnB X.prog X.w X.K X.mg X.base 3 fN fdN [("_law_e" : Str)] (spName2 X.K CT word)) (GF : FnB X.prog X.w X.K X.mg X.base 3 fF fdF [("_law_e" : Str), "_law_word_here"] (spField word fld)) :
    GivesN X [("_law_ask" : Str), "_law_e", "_law_word_here"] x sg g cdg [.Try [.Return (some (.Tuple [.Constant (.str ("value" : Str)) j1 p1, .Call (.Name ("_law_ask" : Str) p2) [] [] p3] n1 p4)) p5] [.ExceptHandler (some (.Name ("TermError" : Str) p6)) (some ("_law_e" : Str)) [.Assign [.Name ("_law_word_here" : Str) q1] (.Call (.Name ("_law_error_name" : Str) q2) [.Name ("_law_e" : Str) q3] [] q4) q5, .Return (some (.Tuple [.Name ("_law_word_here" : Str) q6, .Call (.Name ("_law_error_field" : Str) q7) [.Name ("_law_e" : Str) q8, .Name ("_law_word_here" : Str) q9] [] p7] n2 p8)) p9] q10] [] [] q11] ("_law_ask" : Str) q (TTry2 X.K CT word fld) := by
  intro k f c s H Q tl hr k40 act hc y
  have hr3 := hr.mono (show 3 ≤ k by omega)
  have nd : ([("_law_ask" : Str), "_law_e", "_law_word_here"] : List Str).Nodup := by decide +kernel
  refine ⟨_, pss_one (L2C.ps_try_as (i := 1) (c := .ref CT) (tb := fun W => tRet (tTup (tCons (tC (.str ("value" : Str))) (tCons (fun σZ HZ Q => σZ[0]? = some (some (.ref f)) ∧ HZ c = some (LamX.CodeO c q) ∧ tl (fun cls d H2 => W cls d σZ H2) HZ Q) tNil))))
    (ts := tSuite2 X.K CT word fld) rfl rfl nd rfl s1 ⟨g1, by decide +kernel, .inl mT⟩
    (fun W pn xe tk _ => pss_one (ps_ret (pe_tup (pa_cons pe_str (pa_cons (act W pn xe (fun σ2 cls d H2 => W cls d σ2 H2) _ _ tk (fun _ _ _ _ h => h)) pa_nil)))))
    (fun a oe cls d pn hz1 hz2 hf => pss_cons (ps_set (i := 2) nd rfl (.inl s2) (by exact pe_callG (X := Cx.suite (cxOf CX0 X.prog X.w X.K X.mg X.base [("_law_ask" : Str), "_law_e", "_law_word_here"] x sg g cdg X.A X.stack s H E0).nox a ((a, oe) :: pn)) GN ⟨hr3.dp, hr3.un⟩ (hotG_suite2 hf) hz1 hz2 g2 mN kN bN (pa_cons (pe_var (i := 1) rfl (.inl s1)) pa_nil)))
      (pss_one (ps_ret (pe_tup (pa_cons (pe_var (i := 2) rfl (.inl s2)) (pa_cons (by exact pe_callG (X := Cx.suite (cxOf CX0 X.prog X.w X.K X.mg X.base [("_law_ask" : Str), "_law_e", "_law_word_here"] x sg g cdg X.A X.stack s H E0).nox a ((a, oe) :: pn)) GF ⟨hr3.dp, hr3.un⟩ (hotG_suite2 hf) hz1 hz2 g3 mF kF bF (pa_cons (pe_var (i := 1) rfl (.inl s1)) (pa_cons (pe_var (i := 2) rfl (.inl s2)) pa_nil))) pa_nil))))))), ?_⟩
  exact ⟨rfl, hc, y f⟩
end OPT
section OPN
open PySem PySem.Spec PyProof.Rows PySem.W
/-! ### the def __init__ of such a class, and its raise -/
structure FunS (P : Program) (K : PySem.W.Frag) (mg : Str → Option Value) (x qual : Str) (st : Stmt) (ps : List Str) (C f : Addr) (fd : FuncData) : Prop where
  ex : ∃ (oc : Value) (od : Option Addr) (dV kV doc pm : Value) (an : Option Addr) (cda : Addr) (ct : Value) (osl : Array (Option Value)) (cc : Addr) (cl : Value) (cld : Option Addr) (csl : Array (Option Value)) (ccl : Value) (cdd : Option Addr) (cvs : Array Value) (ccs : Array (Option Value)) (file : Str) (tf : Tok),
    fd = ksFn "__init__" qual (defArgs st) (defBody st) (defScope st) dV kV doc pm an (.ref cda) ct cc ∧ K.lookup f = some ⟨oc, od, .func fd, osl⟩ ∧ codeIn K (.ref cda) qual = true ∧ K.lookup cda = some ⟨ccl, cdd, .fields cvs, ccs⟩ ∧ cvs[2]? = some (.str file tf) ∧ ((P.main.file : Str) == file) = true ∧ K.lookup cc = some ⟨cl, cld, .cell (some (.ref C)), csl⟩
  top : (P.main.scope.names.lookup ("super" : Str)).isSome = false
  T : OexC K C
  mro : mroIn K C (.ref C) = some true
  sup : mg ("super" : Str) = none
  any : nsIn K cStatics "thirdparty.any" = some none
  ini : ks_superIn K C C "__init__" = some (some (.builtin "ValueError.__init__"))
  val : subIn K (.ref C) (.type "ValueError") = some true
  iC : findIn K (.ref C) "__init__" = some (some (.ref f))
  tI : typeIn K (.ref f) = some (.type "function")
  b : Binds K fd ps []
  m : mg x = some (.ref C)
def okInt (v : V) : Prop := ∃ n : Int, v = .int n ∧ 0 ≤ n ∧ n < 10 ^ 12
end OPN
section OPN
open PySem PySem.Spec PyProof.Rows
/-- C(e, ..), the context told: the made exception has no context yet -/
theorem pmkN_oex {X : Cx} {CX : CXT} {x : Str} {e : Expr} {es : List Expr} {ta : L2.TA} {p pos : Pos} {C fI : Addr} {k : Nat} {fd : FuncData} {ps : List Str} {sp : Sp} (T : OexC X.K C) (iC : PySem.W.findIn X.K (.ref C) "__init__" = some (some (.ref fI))) (tI : PySem.W.typeIn X.K (.ref fI) = some (.type "function"))
    (F1 : FnOk X.prog X.w X.K X.mg X.base CX k fI fd ps sp) (hr : Room (k + 1) X.A) (hb : Binds X.K fd ps []) (hx : Passes CX X (fun _ _ _ => False)) (hg : Gl X x) (hm : X.mg x = some (.ref C)) (ha : PA X (e :: es) ta)
    (hdb : (x == ("__debug__" : Str)) = false := by decide) (he : starEach (e :: es) X.env = (false, eval e X.env) :: starEach es X.env := by rfl) (hpl : (backTo pos (starEach es X.env)).any (·.1) = false := by rfl) :
    L2N.PMk X (.Call (.Name x p) (e :: es) [] pos) (tMkO C sp [] ta) := by
  intro pins s σ H Q I h
  obtain ⟨nm, q, N, bs, bm, sn, sub, ab, col, dd, k0, k1, k2, k3, k5, hC, hbm⟩ := T.cls
  refine wpAny_Call_Name_kw (ld_glob I hg hm ?_ hdb)
  refine PySem.W.callWith_K (h₀ := X.base) I.ok.mod.kin T.kC (thn (ha.run pos pins s σ H _ I h) fun us s1 ⟨vs, H1, I1, r1, hz, q1⟩ => ⟨I1.kIn, ?_⟩) he hpl
  show wpAny _ _ (call (.ref C) us) _ _ _
  obtain ⟨hp, g, dr, tk, os⟩ := s1
  have hsz : hp.objs.size ≤ hp.objs.size + 1 := Nat.le_succ _
  have hq := q1 (hp.objs.size + 1) (I1.hok.fresh hsz)
  rw [List.append_nil] at hq
  have kk : ∀ b o, hp.get? b = some o → ((hp.push (PySem.W.kdv_tup us)).push (PySem.HandSPX.excO C hp.objs.size)).get? b = some o := fun b o z => Heap.get?_push_of_some _ (Heap.get?_push_of_some _ z)
  have hget : ((hp.push (PySem.W.kdv_tup us)).push (PySem.HandSPX.excO C hp.objs.size)).get? (hp.objs.size + 1) = some (PySem.HandSPX.excO C hp.objs.size) := by heap_get
  have I2 : Inv X pins σ (upd H1 (hp.objs.size + 1) (exo (hp.objs.size + 1) C none)) ⟨(hp.push (PySem.W.kdv_tup us)).push (PySem.HandSPX.excO C hp.objs.size), g, dr, tk, os⟩ :=
    I1.laid (t' := tk) (a := hp.objs.size + 1) (o := exo (hp.objs.size + 1) C none) (h' := (hp.push (PySem.W.kdv_tup us)).push (PySem.HandSPX.excO C hp.objs.size)) kk hsz (exo_ok hget)
  have r2 : Vals (V.ref (hp.objs.size + 1) :: vs) (Value.ref (hp.objs.size + 1) :: us) := .cons rfl r1
  have hl : (Value.ref (hp.objs.size + 1) :: us ++ []).length = ps.length := by
    have z := r2.length
    rw [F1.len _ _ _ _ hq] at z
    rw [List.append_nil]
    exact z.symm
  have hus : us.length ≤ sizeLine := by
    rw [← Paired.length r1, sizeLine_eq]
    omega
  have b2 := hb _ (Value.ref (hp.objs.size + 1) :: us) I2.kIn hl
  rw [List.append_nil] at b2
  refine wpAny_call (PySem.HandSPX.call_own PySem.F.excBase_ValueError (fun Y => PySem.HandSPX.refsVE_contains Y bm hbm) (I1.kIn _ _ hC) (PySem.W.looks_findIn I1.kIn iC) (fun self => PySem.W.bind_fn I1.kIn self tI) hus
    (codeAny_mono (F1.run _ X.stack _ _ ⟨Value.ref (hp.objs.size + 1) :: us, []⟩ (Value.ref (hp.objs.size + 1) :: us) _ _ (fun _ _ _ => False) (hr.make C us []) (I2.env0.make C us []) b2 r2 hq) fun r s' hq' => ?_))
  cases r with
  | error er => exact hx pins σ _ _ er s' I2 hq'
  | ok fl =>
    cases fl with
    | ret u =>
      obtain ⟨v, H2, os2, bare2, un2, hok2, rv, ev, d, fs, ea, ed, hd1, q2⟩ := hq'
      subst ev
      obtain ⟨h2, g2, d2, t2, os'⟩ := s'
      obtain ⟨t0, G, J, kG, ge, hoe, na⟩ := mk_end0 (d2 := d2) (t2 := t2) I1 hsz kk un2 hok2 os2 bare2 ea ed hd1
      refine ⟨rv, hp.objs.size + 1, _, _, ⟨G, g2, d2, t2, os'⟩, _, .ref C, some d, rfl, J, kG, ge, hoe, ⟨rfl, rfl, fun vs hv => ?_⟩, rfl, rfl, na, rfl, bare2, raises_own T.exC T.tyC, q2⟩
      cases hv
      rfl
    | next => exact False.elim hq'
    | brk => exact False.elim hq'
    | cont => exact False.elim hq'
end OPN
section OPSE
open PySem PySem.Spec PyProof.Rows
/-! ### d.setdefault(k, x), keys ints and texts -/
def tDSetD (td ty tx : TE) : TE := fun σ H Q => td σ H fun x H1 => ∃ a, x = .ref a ∧ IsD H1 a ∧ ty σ H1 fun y H2 => tx σ H2 fun z H3 => ∃ kvs k, H3 a = some (.dK kvs) ∧ y = kV k ∧ kvs.length < sizeLine ∧ (∀ v, valV kvs k = some v → Q v H3) ∧ (valV kvs k = none → Q z (upd H3 a (.dK (kvs ++ [(k, z)]))))
theorem pe_dsetd {X : Cx} {o e f : Expr} {td ty tx : TE} {apos cpos : Pos} (ho : PE X o td) (he : PE X e ty) (hf : PE X f tx) (m : M2 X o "setdefault" apos e f cpos) : PE X (.Call (.Attribute o "setdefault" apos) [e, f] [] cpos) (tDSetD td ty tx) := by
  refine ⟨fun pins s σ H Q I h => ?_⟩
  refine wpAny_Call_method m.base m.few m.line PySem.F.plainAttrs_dict PySem.F.slot_dict_setdefault PySem.F.type_dict_setdefault (thn (ho.run pins s σ H _ I h) fun u s1 ⟨x, H1, I1, rx, a, ex, d, q1⟩ => ?_)
  subst ex
  obtain rfl : u = Value.ref a := rx
  obtain ⟨t1, t2, _⟩ := isD_at I1 d
  refine ⟨t1, t2, ?_⟩
  rw [m.trees]
  refine Calls.callWith_builtin rfl (Calls.evalArgs_plain (Calls.spliced_cons (thn (he.run pins s1 σ H1 _ I1 q1) fun iv s2 ⟨y, H2, I2, ry, q2⟩ =>
    Calls.spliced_cons (thn (hf.run pins s2 σ H2 _ I2 q2) fun fv s3 ⟨z, H3, I3, rz, kvs, k, e3, ey, hl, q3, q4⟩ => Calls.spliced_nil ?_))))
  subst ey
  obtain ⟨zz, hd, vs, rel, dd⟩ := dk_of I3.hok e3
  have hval := rel.val k
  refine call_meetsIn PySem.F.slot_dict_setdefault dd.typeIs PySem.F.entry_dict_setdefault (PySem.F.args_dict_setdefault_3 _ _ _) (kt_meets_setdefault (mixKind X.prog X.w) a (kV_is ry) hd fv) ⟨vs, dd, by rw [← rel.length]; exact zz, fun v hv => ?_, fun hn h' dd' hs => ?_⟩
  · rw [hv] at hval
    cases ev : valV kvs k with
    | none => rw [ev] at hval; exact absurd hval id
    | some v0 =>
      rw [ev] at hval
      exact ⟨v0, H3, I3.tok _, hval, q3 v0 ev⟩
  · have ev : valV kvs k = none := by
      cases ev : valV kvs k with
      | none => rfl
      | some v0 => rw [ev, hn] at hval; exact absurd hval id
    have he : ∃ q, h'.get? a = some q := let ⟨q, _, _, hq, _⟩ := dd'; ⟨q, hq⟩
    have hput : putK kvs k z = kvs ++ [(k, z)] := putK_new z ev
    have hlen : (putK kvs k z).length ≤ sizeLine := by have := length_putK kvs k z; omega
    have Q4 := q4 ev
    rw [← hput] at Q4
    exact ⟨z, _, d_write I3 (by rw [e3]; exact True.intro) hs he (dk_new hlen hd (rel.put k rz) dd'), rz, Q4⟩
end OPSE
section LRT
open PySem PySem.Spec PyProof.Rows
/-! ### list(reversed(t)), t a tuple -/
theorem nolen_rt : typeLookup (.type "reversed") "__len__" = pure none := by rw [typeLookup_type, builtinLookup_eq_fast]; kernel_rfl
theorem hint_rt : typeLookup (.type "reversed") "__length_hint__" = pure (some (.builtin "reversed.__length_hint__")) := by rw [typeLookup_type, builtinLookup_eq_fast]; kernel_rfl
theorem slot_rt_hint : Slot "reversed" "__length_hint__" "reversed.__length_hint__" :=
  .of (owner := "reversed") (n := "__length_hint__") (by rw [typeLookup_type, builtinLookup_eq_fast]; kernel_rfl) (by decide +kernel) (by decide +kernel) (by decide +kernel)
    (by first | exact .inl (by decide +kernel) | exact .inr (by decide +kernel)) (by rw [isSubtype_type]; kernel_rfl)
theorem type_rt_hint : typeOf (.builtin "reversed.__length_hint__") = pure (.type "method_descriptor") := by show builtinType _ = _; rw [builtinType_eq_fast]; kernel_rfl
theorem entry_rt_hint : entryFor table "reversed.__length_hint__" = some Builtin.«reversed.__length_hint__» := entryFor_of_tree (by kernel_rfl)
theorem args_rt_hint (a : Value) : argsOk "reversed.__length_hint__" ⟨[a], []⟩ := by
  unfold argsOk; rw [signature?_of (id := "reversed.__length_hint__") (n := ['_', '_', 't', 'n', 'i', 'h', '_', 'h', 't', 'g', 'n', 'e', 'l', '_', '_']) (o := ['d', 'e', 's', 'r', 'e', 'v', 'e', 'r']) (by kernel_rfl) RT.owner_rt]; kernel_rfl
theorem Walks.tupRev {prog : Program} {w : World} {A : Around} (hh : A.handled = none) (I l : Addr) (hne : l ≠ I) (items : Array Value) (hz : items.size ≤ sizeLine) :
    Walks prog w A I [I, l] [I] items.size (fun i v => items[items.size - 1 - i]? = some v) (fun i h => i ≤ items.size ∧ RT.IsRt h I l ((items.size : Int) - 1 - (i : Int)) ∧ IsTup h l items) where
  sub := fun b hb => by simp at hb; simp [hb]
  frame := fun _ _ _ x hk => ⟨x.1, x.2.1.at fun o e => hk I (by simp) o e, by
    obtain ⟨o, ho, r⟩ := x.2.2
    exact ⟨o, hk l (by simp) o ho, r⟩⟩
  item := fun i s Q E hi x hQ => by
    have e : (items.size : Int) - 1 - (i : Int) = ((items.size - 1 - i : Nat) : Int) := by omega
    have hit := x.2.1
    rw [e] at hit
    have hx : items[items.size - 1 - i]? = some (items[items.size - 1 - i]'(by omega)) := Array.getElem?_eq_getElem (by omega)
    refine RT.next_rt_item hit x.2.2 hx hz fun h' hit' hs' => ?_
    have e2 : ((items.size - 1 - i : Nat) : Int) - 1 = (items.size : Int) - 1 - ((i + 1 : Nat) : Int) := by omega
    rw [e2] at hit'
    refine hQ _ h' (s.toks + 1) hx ⟨hi, hit', ?_⟩ fun b o hb eo => hs'.extBut b o (fun h => hb (by simp [h])) eo
    obtain ⟨o, ho, r⟩ := x.2.2
    exact ⟨o, (hs'.2 l hne).trans ho, r⟩
  done := fun s Q E x hQ => by
    have e : (items.size : Int) - 1 - (items.size : Int) = -1 := by omega
    have hit := x.2.1
    rw [e] at hit
    exact RT.next_rt_end hh hit fun h' he' => hQ h' s.toks fun b o hb eo => he' b o (fun h => hb (by simp [h])) eo
  self := fun _ _ _ _ x hQ => RT.iter_rt x.2.1 hQ
section
variable {prog : Program} {w : World} {A : Around} {E : Value → Shared → Prop} {s : Shared}
theorem hint_of_rt {it t : Addr} {items : Array Value} {Q : Bool → Shared → Prop} (hit : RT.IsRt s.heap it t ((items.size : Int) - 1)) (hz : items.size ≤ sizeLine)
    (hlen : ∀ (A : Around) (E : Value → Shared → Prop) (Q : Value → Shared → Prop), Q (.int items.size (s.toks + 1)) { s with toks := s.toks + 1 + 1 } → wpAny (model prog w) A (call (.builtin "len") [.ref t]) Q E s)
    (hQ : ∀ b tk, Q b { s with toks := tk }) : wpAny (model prog w) A (Builtin.List.listLengthHint (.ref it)) Q E s := by
  have hT := hit.typeIs
  obtain ⟨o, ho, hc, hd⟩ := id hit
  unfold Builtin.List.listLengthHint
  refine wpAny_bind (wpAny_specialOf hT nolen_rt ?_)
  show wpAny _ A (specialOf (Value.ref it) (Str.ofString "__length_hint__") >>= _) _ _ _
  refine wpAny_bind (wpAny_specialOf hT hint_rt ?_)
  generalize hid : ("reversed.__length_hint__" : String) = id0
  wp_delta
  rw [show splitId id0 = some ("reversed", "__length_hint__") from by subst hid; decide +kernel]
  subst hid
  refine wpAny_bind (wpAny_isInstance (b := true) hT (by rw [isSubtype_type]; kernel_rfl) ?_)
  rw [if_neg (by decide)]
  show wpAny _ _ (if _ then _ else _) _ _ _
  rw [if_neg (by decide +kernel)]
  refine wpAny_bind (wpAny_rule ?_)
  refine wpAny_bind ?_
  unfold bindSpecial
  refine wpAny_bind (wpAny_of_eq type_rt_hint ?_)
  rw [if_pos (by decide +kernel)]
  refine wpAny_pure ?_
  dsimp only
  refine wpAny_bind (wpAny_attempt (wpAny_call_entry slot_rt_hint hT entry_rt_hint ?_ (args_rt_hint _)))
  unfold Builtin.«reversed.__length_hint__»
  refine wpAny_bind (wpAny_of_eq (a := Value.ref it) rfl ?_)
  refine wpAny_bind (wpAny_field ho hd (x := .ref t) rfl ?_)
  rw [if_neg (by rw [show (Value.ref t == Value.none) = false from rfl]; decide)]
  refine wpAny_bind (hlen _ _ _ ?_)
  refine wpAny_bind (wpAny_of_eq (a := some ((items.size : Nat) : Int)) rfl ?_)
  dsimp only
  refine wpAny_bind (wpAny_field (s := { s with toks := s.toks + 1 + 1 }) ho hd (x := rawInt ((items.size : Int) - 1)) rfl ?_)
  show wpAny _ _ (if ((items.size : Nat) : Int) < (items.size : Int) - 1 + 1 then _ else _) _ _ _
  rw [if_neg (by omega)]
  unfold retInt
  refine wpAny_bind (wpAny_mkInt ?_)
  refine wpAny_pure ⟨_, rfl, ?_⟩
  dsimp only
  refine wpAny_bind (wpAny_of_eq (a := some ((items.size : Int) - 1 + 1)) rfl ?_)
  have hz' : items.size ≤ 16777216 := by rw [← sizeLine_eq]; exact hz
  dsimp only
  rw [if_neg (by unfold Builtin.List.listFitsIndex; rw [decide_eq_true (by omega), decide_eq_true (by omega)]; decide), if_neg (by omega), if_neg (by unfold Builtin.List.listTooLong; rw [decide_eq_false (by rw [sizeLine_eq]; omega)]; decide)]
  exact wpAny_pure (hQ _ _)
theorem wpAny_extend_rt {R : Result → Shared → Prop} {it t : Addr} {items : Array Value} (hh : A.handled = none) (hit : RT.IsRt s.heap it t ((items.size : Int) - 1)) (ht : IsTup s.heap t items) (hne : t ≠ it) (hz : items.size ≤ sizeLine)
    (hlen : ∀ (s' : Shared) (A : Around) (E : Value → Shared → Prop) (Q : Value → Shared → Prop), IsTup s'.heap t items → Q (.int items.size (s'.toks + 1)) { s' with toks := s'.toks + 1 + 1 } → wpAny (model prog w) A (call (.builtin "len") [.ref t]) Q E s')
    (S : Addr) (res : Value) (c₀ : Nat) (hS : s.heap.get? S = some { cls := .type "list", data := .seq #[] c₀ }) (hSi : S ≠ it) (hSt : S ≠ t)
    (hR : ∀ h' tk acc' c', (∀ b o, b ≠ S → b ≠ it → s.heap.get? b = some o → h'.get? b = some o) → h'.get? S = some { cls := .type "list", dict := none, data := .seq acc' c', slots := #[] } →
      ItemsOf (fun i v => items[items.size - 1 - i]? = some v) acc' items.size → R (.ok (.ret res)) { s with heap := h', toks := tk }) :
    wpAny (model prog w) A.in1 (Builtin.List.listExtendWith (.ref S) (.ref it) res)
      (fun fin s' => match fin with | .done f => R (.ok f) s' | .again c' => c'.quiet = true ∧ codeAny (model prog w) A c' R s') (fun e s' => R (.error e) s') s := by
  have W := (Walks.tupRev (prog := prog) (w := w) (A := A.in1) hh it t hne items hz).toS
  have hSf : S ∉ [it, t] := by simp only [List.mem_cons, List.not_mem_nil, or_false, not_or]; exact ⟨hSi, hSt⟩
  have e0 : ((items.size : Nat) : Int) - 1 - ((0 : Nat) : Int) = (items.size : Int) - 1 := by omega
  have key : ∀ (h : Heap) (c₁ tk : Nat), RT.IsRt h it t ((items.size : Int) - 1) → IsTup h t items → (∀ b o, b ≠ S → s.heap.get? b = some o → h.get? b = some o) →
      h.get? S = some { cls := .type "list", data := .seq #[] c₁ } → codeAny (model prog w) A (.builtin "list.extend.loop" ⟨[.ref S, .ref it, res], []⟩) R { s with heap := h, toks := tk } := by
    intro h c₁ tk hit1 ht1 hk hS₁
    refine codeAny_extend_loopS W hz S hSf res items.size 0 _ #[] c₁ rfl (Nat.zero_le _) ⟨Nat.zero_le _, by rw [e0]; exact hit1, ht1⟩ hS₁ (ItemsOf.nil _) fun s' acc' c' hm hS' hacc => ?_
    rw [Moved.eq_with hm]
    refine hR s'.heap s'.toks acc' c' (fun b o hb hbi e => hm.heap b o (fun hmem => ?_) (hk b o hb e)) hS' hacc
    rcases List.mem_cons.mp hmem with e' | hmem
    · exact hb e'
    · exact hbi (List.mem_singleton.mp hmem)
  have hT := hit.typeIs
  have h1 : Builtin.List.listSameRef (.ref S) (.ref it) = false := by simp [Builtin.List.listSameRef, hSi]
  unfold Builtin.List.listExtendWith
  refine wpAny_bind (wpAny_typeOf hT ?_)
  rw [if_neg (by rw [h1]; decide)]
  refine wpAny_bind (RT.iter_rt hit ?_)
  refine wpAny_bind (wpAny_holding (hint_of_rt hit hz (fun A E Q k => hlen _ A E Q ht k) fun b tk => ?_))
  refine wpAny_ite_split (fun _ => ?_) (fun _ => wpAny_pure ⟨plainId_quiet F.plain_extend_loop _, key _ c₀ _ hit ht (fun b o _ e => e) hS⟩)
  refine wpAny_bind (wpAny_rule ?_)
  refine wpAny_bind ?_
  show wpAny _ _ (updateSeq S (·.push .none) >>= fun _ => updateSeq S (·.pop)) _ _ _
  refine wpAny_bind (wpAny_updateSeq (s := { s with toks := tk }) hS rfl ?_)
  have hS₂ := Heap.get?_update_self (Obj.mapSeq (·.push Value.none)) hS rfl
  refine wpAny_updateSeq (hz := by seq_fits) hS₂ rfl ?_
  have hS₃ := Heap.get?_update_self (Obj.mapSeq (·.pop)) hS₂ rfl
  have oth : ∀ b o, b ≠ S → s.heap.get? b = some o → ((s.heap.update S (Obj.mapSeq (·.push Value.none))).update S (Obj.mapSeq (·.pop))).get? b = some o := fun b o hb e => (Heap.get?_update_other _ _ (Ne.symm hb)).trans ((Heap.get?_update_other _ _ (Ne.symm hb)).trans e)
  refine wpAny_pure ⟨plainId_quiet F.plain_extend_loop _, key _ _ _ (hit.at fun o e => oth _ _ (Ne.symm hSi) e) ?_ oth hS₃⟩
  obtain ⟨o, ho, r⟩ := ht
  exact ⟨o, oth _ _ (Ne.symm hSt) ho, r⟩
theorem call_list_rt {Q : Value → Shared → Prop} {it t : Addr} {items : Array Value} (hh : A.handled = none) (hit : RT.IsRt s.heap it t ((items.size : Int) - 1)) (ht : IsTup s.heap t items) (hne : t ≠ it) (hz : items.size ≤ sizeLine)
    (hlen : ∀ (s' : Shared) (A : Around) (E : Value → Shared → Prop) (Q : Value → Shared → Prop), IsTup s'.heap t items → Q (.int items.size (s'.toks + 1)) { s' with toks := s'.toks + 1 + 1 } → wpAny (model prog w) A (call (.builtin "len") [.ref t]) Q E s')
    (hQ : ∀ h' tk acc' c', (∀ b o, b ≠ it → s.heap.get? b = some o → h'.get? b = some o) →
      h'.get? s.heap.objs.size = some { cls := .type "list", dict := none, data := .seq acc' c', slots := #[] } → ItemsOf (fun i v => items[items.size - 1 - i]? = some v) acc' items.size → Q (.ref s.heap.objs.size) { s with heap := h', toks := tk }) :
    wpAny (model prog w) A (call (.type "list") [.ref it]) Q E s := by
  refine callType_codes (Q₁ := fun obj s₁ => obj = .ref s.heap.objs.size ∧ s₁ = { s with heap := s.heap.push { cls := .type "list", data := .seq #[] } }) F.called_list (F.typeCall_list_1 _) F.entry_list_init
    (code_list_new _ ⟨rfl, rfl⟩) fun obj s₁ h₁ => ?_
  obtain ⟨rfl, rfl⟩ := h₁
  have hS : (s.heap.push { cls := .type "list", data := .seq #[] }).get? s.heap.objs.size = some { cls := .type "list", data := .seq #[] } := Heap.get?_push_size _ rfl
  obtain ⟨oi, hoi, _⟩ := id hit
  obtain ⟨ot, hot, rt⟩ := id ht
  have hSi : s.heap.objs.size ≠ it := Nat.ne_of_gt (Heap.lt_size hoi)
  have hSt : s.heap.objs.size ≠ t := Nat.ne_of_gt (Heap.lt_size hot)
  refine ⟨⟨_, hS, rfl⟩, F.args_list_init_2 _ _, ?_⟩
  show wpAny _ _ (do let old ← Builtin.List.listItems (.ref s.heap.objs.size); Builtin.List.listUpdate (.ref s.heap.objs.size) (fun _ => #[]); letGo old.toList.reverse; Builtin.List.listExtendWith (.ref s.heap.objs.size) (.ref it) .none) _ _ _
  refine wpAny_bind ?_
  unfold Builtin.List.listItems
  refine wpAny_bind (wpAny_seqItems hS rfl (wpAny_pure ?_))
  show wpAny _ _ (updateSeq s.heap.objs.size (fun _ => #[]) >>= fun _ => letGo (#[] : Array Value).toList.reverse >>= fun _ => Builtin.List.listExtendWith (.ref s.heap.objs.size) (.ref it) .none) _ _ _
  refine wpAny_bind (wpAny_updateSeq hS rfl ?_)
  have hS₂ := Heap.get?_update_self (Obj.mapSeq (fun _ => (#[] : Array Value))) hS rfl
  have oth : ∀ b o, b ≠ s.heap.objs.size → s.heap.get? b = some o → ((s.heap.push { cls := .type "list", data := .seq #[] }).update s.heap.objs.size (Obj.mapSeq (fun _ => (#[] : Array Value)))).get? b = some o :=
    fun b o hb e => (Heap.get?_update_other _ _ (Ne.symm hb)).trans (Heap.get?_push_of_some _ e)
  refine wpAny_bind (wpAny_letGo ?_)
  refine wpAny_extend_rt (A := A.in1) hh (hit.at fun o e => oth _ _ (Ne.symm hSi) e) ⟨ot, oth _ _ (Ne.symm hSt) hot, rt⟩ hne hz hlen s.heap.objs.size .none _ hS₂ hSi hSt fun h' tk acc' c' hk hS' hacc => ?_
  exact ⟨rfl, hQ h' tk acc' c' (fun b o hb e => hk b o (Nat.ne_of_lt (Heap.lt_size e)) hb (oth b o (Nat.ne_of_lt (Heap.lt_size e)) e)) hS' hacc⟩
end
/-- list(reversed(x)), x a tuple: a new list -/
def tLstRev (K : PySem.W.Frag) (te : TE) : TE := fun σ H Q => te σ H fun v H1 => ∃ (a : Addr) (xs : List V), v = .ref a ∧ SqT K H1 a xs ∧ ∀ q, H1 q = none → Q (.ref q) (upd H1 q (.lst xs.reverse))
theorem pe_lstRev {X : Cx} {e : Expr} {te : TE} {p p2 pos pos2 : Pos} (hc : X.calm = true) (hg : Gl X "list") (hm : X.mg "list" = none) (hg2 : Gl X "reversed") (hm2 : X.mg "reversed" = none) (he : PE X e te)
    (hs : starEach [e] X.env = (false, eval e X.env) :: starEach [] X.env := by rfl)
    (hs2 : starEach [.Call (.Name "reversed" p2) [e] [] pos2] X.env = (false, eval (.Call (.Name "reversed" p2) [e] [] pos2) X.env) :: starEach [] X.env := by rfl) :
    PE X (.Call (.Name "list" p) [.Call (.Name "reversed" p2) [e] [] pos2] [] pos) (tLstRev X.K te) := by
  refine ⟨fun pins s σ H Q I h => ?_⟩
  refine Call_ (ld_blt I hg hm boot_list (PyProof.Rows.callWith_type1 (args_cons (Call_ (ld_blt I hg2 hm2 PyProof.Rows.boot_reversed (PyProof.Rows.callWith_type1 (args_cons (thn (he.run pins s σ H _ I h) fun u s1 ⟨v, H1, I1, r1, q1⟩ => args_nil ?_) hs) hs rfl))) hs2) hs2 rfl))
  obtain ⟨a, xs, ev, hq, q⟩ := q1
  subst ev
  obtain rfl : u = Value.ref a := r1
  obtain ⟨its, rv, p', hz⟩ := I1.tuple hq
  have hl := rv.length
  have hn63 := line63
  have hn : its.toArray.size ≤ sizeLine := by rw [List.size_toArray, ← rv.length]; exact hz
  have hlen : ∀ (s' : Shared) (A : Around) (E : Value → Shared → Prop) (Q : Value → Shared → Prop), IsTup s'.heap a its.toArray → Q (.int its.toArray.size (s'.toks + 1)) { s' with toks := s'.toks + 1 + 1 } → wpAny (model X.prog X.w) A (call (.builtin "len") [.ref a]) Q E s' := fun s' A E Q pt k => len_tuple pt (by simp only [List.size_toArray] <;> omega) k
  refine RT.call_reversed_tup p' (fun A E Q k => hlen s1 A E Q p' k) (args_nil ?_)
  have k0 : ∀ b o, s1.heap.get? b = some o → (s1.heap.push (RT.rtObj a ((its.toArray.size : Int) - 1))).get? b = some o := fun b o e => Heap.get?_push_of_some _ e
  have I2 : Inv X pins σ H1 { s1 with heap := s1.heap.push (RT.rtObj a ((its.toArray.size : Int) - 1)), toks := s1.toks + 1 + 1 } := I1.kept (t' := s1.toks + 1 + 1) k0
  obtain ⟨f0, f1, f2, f3, f4, f5⟩ := I1.fpOk (H' := H1) (b := s1.heap.objs.size) (Nat.le_refl _) (I1.hok.fresh (Nat.le_refl _))
  obtain ⟨ol, hol, rl⟩ := id p'
  have hne : a ≠ s1.heap.objs.size := Nat.ne_of_lt (Heap.lt_size hol)
  refine call_list_rt (s := { s1 with heap := s1.heap.push (RT.rtObj a ((its.toArray.size : Int) - 1)), toks := s1.toks + 1 + 1 }) (I1.ok.hd hc) ⟨_, Heap.get?_push_size _ rfl, rfl, rfl⟩ ⟨ol, k0 _ _ hol, rl⟩ hne hn hlen fun h' tk acc c' hk hS' hi => ?_
  have hk' : ∀ b o, s1.heap.get? b = some o → h'.get? b = some o := fun b o e => hk b o (Nat.ne_of_lt (Heap.lt_size e)) (k0 b o e)
  have hge : s1.heap.objs.size ≤ (s1.heap.push (RT.rtObj a ((its.toArray.size : Int) - 1))).objs.size := by
    show s1.heap.objs.size ≤ (s1.heap.objs.push _).size
    rw [Array.size_push]
    omega
  refine ⟨.ref (s1.heap.push (RT.rtObj a ((its.toArray.size : Int) - 1))).objs.size, upd H1 (s1.heap.push (RT.rtObj a ((its.toArray.size : Int) - 1))).objs.size (.lst xs.reverse), I1.laid hk' hge (show ObjOk X.prog X.w _ _ _ (.lst xs.reverse) from ⟨by rw [List.length_reverse]; exact hz, acc.toList, c', RT.vals_rev rv hi, ?_⟩), rfl, q _ (I1.hok.fresh hge)⟩
  rw [Array.toArray_toList]
  exact hS'
end LRT
section DELS
open PySem PySem.Spec PyProof.Rows
/-! ### del xs[a:] -/
def sel1 (start stop step : Int) (i : Nat) : Bool :=
  if step > 0 then start ≤ i && i < stop && (i - start) % step == 0
  else stop < i && i ≤ start && (start - i) % (-step) == 0
theorem sel1_at (a n i : Nat) (h : i < n) : sel1 (a : Int) (n : Int) 1 i = decide (a ≤ i) := by
  unfold sel1
  rw [if_pos (by decide)]
  have e : ((i : Int) - (a : Int)) % 1 == 0 := by rw [Int.emod_one]; rfl
  rw [e, Bool.and_true, decide_eq_true (show (i : Int) < (n : Int) by omega), Bool.and_true]
  by_cases c : a ≤ i
  · rw [decide_eq_true c, decide_eq_true (by omega)]
  · rw [decide_eq_false c, decide_eq_false (by omega)]
theorem del_tail (a n : Nat) : ∀ (l : List Value) (k : Nat), k + l.length ≤ n → (l.zipIdx k).filterMap (fun p => if sel1 (a : Int) (n : Int) 1 p.2 = true then none else some p.1) = l.take (a - k)
  | [], k, _ => by simp
  | x :: l, k, h => by
    rw [List.length_cons] at h
    have ih := del_tail a n l (k + 1) (by omega)
    rw [List.zipIdx_cons]
    by_cases c : a ≤ k
    · rw [List.filterMap_cons_none (by show (if sel1 _ _ 1 k = true then none else some x) = none; rw [sel1_at a n k (by omega), decide_eq_true c]; rfl), ih, show a - (k + 1) = 0 by omega, show a - k = 0 by omega]
      rfl
    · rw [List.filterMap_cons_some (b := x) (by show (if sel1 _ _ 1 k = true then none else some x) = some x; rw [sel1_at a n k (by omega), decide_eq_false c]; rfl), ih, show a - k = (a - (k + 1)) + 1 by omega]
      rfl
theorem bounds_tail {a n : Nat} (h : a ≤ n) : sliceBounds (some (a : Int)) none none n = ((a : Int), (n : Int), 1) := by
  simp only [sliceBounds, Option.getD_none]
  have h1 : ¬ ((a : Int) < 0) := by omega
  simp only [h1, if_false, show (1 : Int) > 0 by decide, if_true]
  congr 1
  omega
section
variable {prog : Program} {w : World} {A : Around} {E : Value → Shared → Prop} {s : Shared}
theorem delItem_tail {l sl : Addr} {its : List Value} {n : Nat} {vl : Value} {a : Nat} {Q : Unit → Shared → Prop} (e : s.heap.get? l = some { cls := .type "list", data := .seq its.toArray n }) (hs : s.heap.IsSliceOf sl vl .none .none) (pl : IsPart vl (some (a : Int))) (ha : a ≤ its.length) (hz : its.length ≤ sizeLine)
    (h : ∀ f : Array Value → Array Value, f its.toArray = (its.take a).toArray → Q () { s with heap := s.heap.update l (Obj.mapSeq f) }) : wpAny (model prog w) A (delItem (.ref l) (.ref sl)) Q E s := by
  have hl : s.heap.IsList l its.toArray := PySem.IsL.isList e
  obtain ⟨os, hos, hcs, hds⟩ := id hs
  have hTs : s.TypeIs (.ref sl) "slice" := ⟨os, hos, hcs⟩
  have hstep : ¬ ((rawPart none == rawInt 0) = true) := Bool.false_ne_true
  unfold delItem
  try with_reducible refine wpAny_holding ?_
  first | refine wpAny_bind (wpAny_pure ?_) | skip
  refine wpAny_bind (wpAny_sequenceKey hl.typeIs (by decide) ?_)
  refine wpAny_bind (wpAny_callSpecial?_slot (name := Str.ofString "__delitem__") hl.typeIs F.slot_list_delitem
    (wpAny_call_entry F.slot_list_delitem hl.typeIs F.entry_list_delitem ?_ (F.args_list_delitem_2 _ _)))
  show wpAny _ _ (Builtin.List.listSubscript? (.ref sl) >>= _) _ _ s
  refine wpAny_bind ?_
  unfold Builtin.List.listSubscript?
  refine wpAny_bind (wpAny_specialOf hTs slice_no_index ?_)
  simp only [Option.isNone_none, if_true]
  refine wpAny_pure ?_
  show wpAny _ _ (typeOf (.ref sl) >>= _) _ _ s
  refine wpAny_bind (wpAny_typeOf hTs ?_)
  first
    | rw [if_neg (by decide)]
    | refine PySem.W.KFB.if_not (by decide) ?_
  rw [listSliceParts_eq]
  refine wpAny_bind (wpAny_bind (wpAny_field hos hds (x := .none) rfl (wpAny_bind (wpAny_listPart .none ?_))))
  rw [if_neg hstep]
  refine wpAny_bind (wpAny_field hos hds (x := vl) rfl (wpAny_bind (wpAny_listPart pl ?_)))
  refine wpAny_bind (wpAny_field hos hds (x := .none) rfl (wpAny_bind (wpAny_listPart .none (wpAny_pure ?_))))
  unfold Builtin.List.listItems
  refine wpAny_bind (wpAny_bind (wpAny_seqItems e rfl (wpAny_pure ?_)))
  refine wpAny_bind (wpAny_of_eq ((sliceIndices_raw (some (a : Int)) none none its.toArray.size (by simp)).trans (congrArg (pure : Int × Int × Int → Sem (Int × Int × Int)) (bounds_tail (n := its.toArray.size) (by rw [List.size_toArray]; exact ha)))) ?_)
  dsimp only
  refine wpAny_bind (wpAny_rule ?_)
  refine wpAny_bind ?_
  unfold Builtin.List.listUpdate
  dsimp only
  have fin : ∀ (f : Array Value → Array Value) (gone : List Value), f its.toArray = (its.take a).toArray → wpAny (model prog w) A.in1 (updateSeq l f) (fun _ s' => wpAny (model prog w) A.in1 (do letGo gone; ret Value.none) (fun fin s' => ∃ v, fin = Fin.done (Flow.ret v) ∧ wpAny (model prog w) A (pure ()) Q E s') E s') E s := fun f gone hf =>
    wpAny_updateSeq (hz := by rw [List.size_toArray]; exact hz) (_hz' := by rw [hf, List.size_toArray, List.length_take]; omega) e rfl (wpAny_bind (wpAny_letGo (wpAny_pure ⟨.none, rfl, wpAny_pure (h f hf)⟩)))
  have gen : ∀ (S : Int → Int → Int → Nat → Bool), (∀ k, S (a : Int) (its.toArray.size : Int) 1 k = sel1 (a : Int) (its.toArray.size : Int) 1 k) → (List.filterMap (fun x => if S (a : Int) (its.toArray.size : Int) 1 x.snd = true then none else some x.fst) its.zipIdx).toArray = (its.take a).toArray := fun S hS => by
    have h2 := del_tail a its.length its 0 (by omega)
    rw [Nat.sub_zero] at h2
    have e3 : (fun x : Value × Nat => if S (a : Int) (its.toArray.size : Int) 1 x.snd = true then none else some x.fst) = fun p => if sel1 (a : Int) (its.length : Int) 1 p.2 = true then none else some p.1 := by
      funext x
      rw [hS, List.size_toArray]
    rw [e3, h2]
  refine fin _ _ (gen _ fun k => ?_)
  rfl
end
section
variable {X : Cx}
/-- del xs[a:] -/
def tDelT (to : TE) (ti : TO) : TS := fun D σ H => to σ H fun x H1 => ti σ H1 fun y H2 => ∃ (l : Addr) (xs : List V) (a : Nat), x = .ref l ∧ y = some (a : Int) ∧ H2 l = some (.lst xs) ∧ a ≤ xs.length ∧ D.nx σ (upd H2 l (.lst (xs.take a)))
theorem ps_delT {o i : Expr} {to : TE} {ti : TE} {p2 tpos pos : Pos} (ho : PE X o to) (hi : PE X i ti) : PS X (.Delete [.Subscript o (.Slice (some i) none none p2) tpos] pos) (tDelT to (tPart ti)) := by
  refine ⟨fun pins s σ H D I h => ?_⟩
  refine wpAny_Delete (wpAny_deleteEach_cons (wpAny_delete_Subscript (thn (ho.run pins s σ H _ I h) fun u s1 ⟨x, H1, I1, rx, q1⟩ => ?_)))
  refine wpAny_Slice (thn ((po_some hi).run pins s1 σ H1 _ I1 q1) fun vl s2 ⟨lo, H2, I2, pl, l, xs, a, ex, ey, hH, ha, q2⟩ => thn (po_none.run pins s2 σ H2 (fun o H3 => o = none ∧ H3 = H2) I2 ⟨rfl, rfl⟩) fun vu s3 ⟨uo, H3, I3, pu, eu, e3⟩ => ?_)
  subst eu e3 ex ey
  rw [evalPart_none]
  refine wpAny_pure ?_
  have I4 : Inv X pins σ H3 { s3 with heap := s3.heap.push { cls := .type "slice", data := .fields #[vl, vu, .none] } } := I3.kept (t' := s3.toks) fun b ob q => Heap.get?_push_of_some _ q
  cases (show u = Value.ref l from rx)
  cases pu
  obtain ⟨z, its, n, r, hl, e⟩ := I4.lstM hH
  refine delItem_tail (s := { s3 with heap := s3.heap.push { cls := .type "slice", data := .fields #[vl, .none, .none] } }) e (Heap.IsSliceOf.new ..) pl (by omega) (by omega) fun f hf => ?_
  refine wpAny_deleteEach_nil ⟨σ, _, I4.lset (its' := its.take a) (t' := s3.toks) hH e hf (r.take _) (by rw [List.length_take]; omega), q2⟩
end
end DELS
section LRL
open PySem PySem.Spec PyProof.Rows
/-! ### list(reversed(l)), l a list -/
section
variable {prog : Program} {w : World} {A : Around} {E : Value → Shared → Prop} {s : Shared}
theorem wpAny_extend_lri {R : Result → Shared → Prop} {it t : Addr} {items : Array Value} (hh : A.handled = none) (hit : s.heap.IsRevIter it t ((items.size : Int) - 1)) (ht : s.heap.IsList t items) (hne : t ≠ it) (hz : items.size ≤ sizeLine)
    (S : Addr) (res : Value) (c₀ : Nat) (hS : s.heap.get? S = some { cls := .type "list", data := .seq #[] c₀ }) (hSi : S ≠ it) (hSt : S ≠ t)
    (hR : ∀ h' tk acc' c', (∀ b o, b ≠ S → b ≠ it → s.heap.get? b = some o → h'.get? b = some o) → h'.get? S = some { cls := .type "list", dict := none, data := .seq acc' c', slots := #[] } →
      ItemsOf (fun i v => items[items.size - 1 - i]? = some v) acc' items.size → R (.ok (.ret res)) { s with heap := h', toks := tk }) :
    wpAny (model prog w) A.in1 (Builtin.List.listExtendWith (.ref S) (.ref it) res)
      (fun fin s' => match fin with | .done f => R (.ok f) s' | .again c' => c'.quiet = true ∧ codeAny (model prog w) A c' R s') (fun e s' => R (.error e) s') s := by
  have W := (Walks.listRev (prog := prog) (w := w) (A := A.in1) hh it t hne items).toS
  have hSf : S ∉ [it, t] := by simp only [List.mem_cons, List.not_mem_nil, or_false, not_or]; exact ⟨hSi, hSt⟩
  have e0 : ((items.size : Nat) : Int) - 1 - ((0 : Nat) : Int) = (items.size : Int) - 1 := by omega
  have hT := hit.typeIs
  have h1 : Builtin.List.listSameRef (.ref S) (.ref it) = false := by simp [Builtin.List.listSameRef, hSi]
  unfold Builtin.List.listExtendWith
  refine wpAny_bind (wpAny_typeOf hT ?_)
  rw [if_neg (by rw [h1]; decide)]
  refine wpAny_bind (wpAny_pyIter_revIter hit ?_)
  refine wpAny_bind (wpAny_holding ?_)
  unfold Builtin.List.listLengthHint
  refine wpAny_bind (wpAny_specialOf hT RT.nolen_lri ?_)
  show wpAny _ A.in1 (specialOf (Value.ref it) (Str.ofString "__length_hint__") >>= _) _ _ _
  refine wpAny_bind (wpAny_specialOf hT RT.hint_lri ?_)
  generalize hid : ("list_reverseiterator.__length_hint__" : String) = id0
  wp_delta
  rw [show splitId id0 = some ("list_reverseiterator", "__length_hint__") from by subst hid; decide +kernel]
  subst hid
  refine wpAny_bind (wpAny_isInstance (b := true) hT (by rw [isSubtype_type]; kernel_rfl) ?_)
  refine wpAny_pure ?_
  rw [if_neg (by decide)]
  refine wpAny_pure ⟨plainId_quiet F.plain_extend_loop _, codeAny_extend_loopS W hz S hSf res items.size 0 _ #[] c₀ rfl (Nat.zero_le _) ⟨Nat.zero_le _, by rw [e0]; exact hit, ht⟩ hS (ItemsOf.nil _) fun s' acc' c' hm hS' hacc => ?_⟩
  rw [Moved.eq_with hm]
  refine hR s'.heap s'.toks acc' c' (fun b o hb hbi e => hm.heap b o (fun hmem => ?_) e) hS' hacc
  rcases List.mem_cons.mp hmem with e' | hmem
  · exact hb e'
  · exact hbi (List.mem_singleton.mp hmem)
theorem call_list_lri {Q : Value → Shared → Prop} {it t : Addr} {items : Array Value} (hh : A.handled = none) (hit : s.heap.IsRevIter it t ((items.size : Int) - 1)) (ht : s.heap.IsList t items) (hne : t ≠ it) (hz : items.size ≤ sizeLine)
    (hQ : ∀ h' tk acc' c', (∀ b o, b ≠ it → s.heap.get? b = some o → h'.get? b = some o) →
      h'.get? s.heap.objs.size = some { cls := .type "list", dict := none, data := .seq acc' c', slots := #[] } → ItemsOf (fun i v => items[items.size - 1 - i]? = some v) acc' items.size → Q (.ref s.heap.objs.size) { s with heap := h', toks := tk }) :
    wpAny (model prog w) A (call (.type "list") [.ref it]) Q E s := by
  refine callType_codes (Q₁ := fun obj s₁ => obj = .ref s.heap.objs.size ∧ s₁ = { s with heap := s.heap.push { cls := .type "list", data := .seq #[] } }) F.called_list (F.typeCall_list_1 _) F.entry_list_init
    (code_list_new _ ⟨rfl, rfl⟩) fun obj s₁ h₁ => ?_
  obtain ⟨rfl, rfl⟩ := h₁
  have hS : (s.heap.push { cls := .type "list", data := .seq #[] }).get? s.heap.objs.size = some { cls := .type "list", data := .seq #[] } := Heap.get?_push_size _ rfl
  obtain ⟨oi, hoi, _⟩ := id hit
  obtain ⟨ot, hot, rt⟩ := id ht
  have hSi : s.heap.objs.size ≠ it := Nat.ne_of_gt (Heap.lt_size hoi)
  have hSt : s.heap.objs.size ≠ t := Nat.ne_of_gt (Heap.lt_size hot)
  refine ⟨⟨_, hS, rfl⟩, F.args_list_init_2 _ _, ?_⟩
  show wpAny _ _ (do let old ← Builtin.List.listItems (.ref s.heap.objs.size); Builtin.List.listUpdate (.ref s.heap.objs.size) (fun _ => #[]); letGo old.toList.reverse; Builtin.List.listExtendWith (.ref s.heap.objs.size) (.ref it) .none) _ _ _
  refine wpAny_bind ?_
  unfold Builtin.List.listItems
  refine wpAny_bind (wpAny_seqItems hS rfl (wpAny_pure ?_))
  show wpAny _ _ (updateSeq s.heap.objs.size (fun _ => #[]) >>= fun _ => letGo (#[] : Array Value).toList.reverse >>= fun _ => Builtin.List.listExtendWith (.ref s.heap.objs.size) (.ref it) .none) _ _ _
  refine wpAny_bind (wpAny_updateSeq hS rfl ?_)
  have hS₂ := Heap.get?_update_self (Obj.mapSeq (fun _ => (#[] : Array Value))) hS rfl
  have oth : ∀ b o, b ≠ s.heap.objs.size → s.heap.get? b = some o → ((s.heap.push { cls := .type "list", data := .seq #[] }).update s.heap.objs.size (Obj.mapSeq (fun _ => (#[] : Array Value)))).get? b = some o :=
    fun b o hb e => (Heap.get?_update_other _ _ (Ne.symm hb)).trans (Heap.get?_push_of_some _ e)
  refine wpAny_bind (wpAny_letGo ?_)
  refine wpAny_extend_lri (A := A.in1) hh (hit.at fun o e => oth _ _ (Ne.symm hSi) e) ⟨ot, oth _ _ (Ne.symm hSt) hot, rt⟩ hne hz s.heap.objs.size .none _ hS₂ hSi hSt fun h' tk acc' c' hk hS' hacc => ?_
  exact ⟨rfl, hQ h' tk acc' c' (fun b o hb e => hk b o (Nat.ne_of_lt (Heap.lt_size e)) hb (oth b o (Nat.ne_of_lt (Heap.lt_size e)) e)) hS' hacc⟩
end
/-- list(reversed(x)), x a list: a new list -/
def tLstRevL (K : PySem.W.Frag) (te : TE) : TE := fun σ H Q => te σ H fun v H1 => ∃ (a : Addr) (xs : List V), v = .ref a ∧ SqL K H1 a xs ∧ ∀ q, H1 q = none → Q (.ref q) (upd H1 q (.lst xs.reverse))
theorem pe_lstRevL {X : Cx} {e : Expr} {te : TE} {p p2 pos pos2 : Pos} (hc : X.calm = true) (hg : Gl X "list") (hm : X.mg "list" = none) (hg2 : Gl X "reversed") (hm2 : X.mg "reversed" = none) (he : PE X e te)
    (hs : starEach [e] X.env = (false, eval e X.env) :: starEach [] X.env := by rfl)
    (hs2 : starEach [.Call (.Name "reversed" p2) [e] [] pos2] X.env = (false, eval (.Call (.Name "reversed" p2) [e] [] pos2) X.env) :: starEach [] X.env := by rfl) :
    PE X (.Call (.Name "list" p) [.Call (.Name "reversed" p2) [e] [] pos2] [] pos) (tLstRevL X.K te) := by
  refine ⟨fun pins s σ H Q I h => ?_⟩
  refine Call_ (ld_blt I hg hm boot_list (PyProof.Rows.callWith_type1 (args_cons (Call_ (ld_blt I hg2 hm2 PyProof.Rows.boot_reversed (PyProof.Rows.callWith_type1 (args_cons (thn (he.run pins s σ H _ I h) fun u s1 ⟨v, H1, I1, r1, q1⟩ => args_nil ?_) hs) hs rfl))) hs2) hs2 rfl))
  obtain ⟨a, xs, ev, hq, q⟩ := q1
  subst ev
  obtain rfl : u = Value.ref a := r1
  obtain ⟨its, rv, p', hz⟩ := I1.list hq
  refine call_reversed_list p'.isList (args_nil ?_)
  have k0 : ∀ b o, s1.heap.get? b = some o → (s1.heap.push (revObj a ((its.toArray.size : Int) - 1))).get? b = some o := fun b o e => Heap.get?_push_of_some _ e
  have hl := p'.isList
  obtain ⟨ol, hol, _⟩ := id hl
  have hne : a ≠ s1.heap.objs.size := Nat.ne_of_lt (Heap.lt_size hol)
  have hn : its.toArray.size ≤ sizeLine := by rw [List.size_toArray, ← rv.length]; exact hz
  refine call_list_lri (s := { s1 with heap := s1.heap.push (revObj a ((its.toArray.size : Int) - 1)) }) (I1.ok.hd hc) ⟨_, Heap.get?_push_size _ rfl, rfl, rfl⟩ (hl.push _) hne hn fun h' tk acc c' hk hS' hi => ?_
  have hk' : ∀ b o, s1.heap.get? b = some o → h'.get? b = some o := fun b o e => hk b o (Nat.ne_of_lt (Heap.lt_size e)) (k0 b o e)
  have hge : s1.heap.objs.size ≤ (s1.heap.push (revObj a ((its.toArray.size : Int) - 1))).objs.size := by
    show s1.heap.objs.size ≤ (s1.heap.objs.push _).size
    rw [Array.size_push]
    omega
  refine ⟨.ref (s1.heap.push (revObj a ((its.toArray.size : Int) - 1))).objs.size, upd H1 (s1.heap.push (revObj a ((its.toArray.size : Int) - 1))).objs.size (.lst xs.reverse), I1.laid hk' hge (show ObjOk X.prog X.w _ _ _ (.lst xs.reverse) from ⟨by rw [List.length_reverse]; exact hz, acc.toList, c', RT.vals_rev rv hi, ?_⟩), rfl, q _ (I1.hok.fresh hge)⟩
  rw [Array.toArray_toList]
  exact hS'
end LRL
/-! ### a dict of the module: x in d, x not in d -/
section KDI
open PySem PySem.Spec PyProof.Rows
def KDin (K : PySem.W.Frag) (w : World) (a : Addr) (x : Str) (r : Option Value) : Prop :=
  ∃ es n, K.lookup a = some ⟨.type "dict", none, .dict es n, #[]⟩ ∧ PySem.W.KeysLit w.params es.toList ∧ PySem.W.nsIn K a x = some r ∧ (a == sysModules) = false
def rNInD (K : PySem.W.Frag) (w : World) : R2 := fun x y H Q => ∃ z p r, x = .str z ∧ y = .ref p ∧ KDin K w p z r ∧ Q (.bl (!r.isSome)) H
theorem op_notInKD {X : Cx} : OpR X (compareOp .NotIn) (rNInD X.K X.w) := by
  intro pins s σ H x y v u Q I rx ry h
  obtain ⟨z, p, r, rfl, rfl, ⟨es, n, hl, hk, e, hd⟩, q⟩ := h
  obtain ⟨t, rfl⟩ := (show ∃ t, v = Value.str z t from rx)
  obtain rfl : u = Value.ref p := ry
  have hm := PySem.W.mapOf_K (prog := X.prog) (w := X.w) I.kIn hl hk
  refine wpAny_notIn_of (strKind_is X.prog X.w z t) hd hm ?_
  rw [PySem.W.find_K hl e]
  exact fin_bl (I.tok _) q rfl
def rInD (K : PySem.W.Frag) (w : World) : R2 := fun x y H Q => ∃ z p r, x = .str z ∧ y = .ref p ∧ KDin K w p z r ∧ Q (.bl r.isSome) H
theorem op_inKD {X : Cx} : OpR X (compareOp .In) (rInD X.K X.w) := by
  intro pins s σ H x y v u Q I rx ry h
  obtain ⟨z, p, r, rfl, rfl, ⟨es, n, hl, hk, e, hd⟩, q⟩ := h
  obtain ⟨t, rfl⟩ := (show ∃ t, v = Value.str z t from rx)
  obtain rfl : u = Value.ref p := ry
  have hm := PySem.W.mapOf_K (prog := X.prog) (w := X.w) I.kIn hl hk
  refine wpAny_in_of (strKind_is X.prog X.w z t) hd hm ?_
  rw [PySem.W.find_K hl e]
  exact fin_bl (I.tok _) q rfl
end KDI
/-! ### xs[a:c] = ys -/
section SLC
open PySem PySem.Spec PyProof.Rows
def gSlc (to ta tc : TE) : TG := fun v σ H Q => to σ H fun o H1 => tPart ta σ H1 fun a H2 => tPart tc σ H2 fun c H3 => ∃ (l b : Addr) (xs ys : List V) (i j : Int), o = .ref l ∧ v = .ref b ∧ a = some i ∧ c = some j ∧ H3 l = some (.lst xs) ∧ H3 b = some (.lst ys) ∧ l ≠ b ∧ 0 ≤ i ∧ i ≤ j ∧ j ≤ xs.length ∧ xs.length + ys.length ≤ sizeLine ∧ Q σ (upd H3 l (.lst (xs.take i.toNat ++ ys ++ xs.drop j.toNat)))
theorem pg_slc {X : Cx} {o i j : Expr} {to ta tc : TE} {p2 pos : Pos} (ho : PE X o to) (hi : PE X i ta) (hj : PE X j tc)
    (ha : ∀ v, assign (.Subscript o (.Slice (some i) (some j) none p2) pos) X.env v = (do
      let ov ← holding [v] (eval o X.env)
      let iv ← holding [v, ov] (eval (.Slice (some i) (some j) none p2) X.env)
      standAt pos
      holding [v, ov, iv] (setItem ov iv v)
      release [iv, v, ov] []) := by intro _; rfl) : PG X (.Subscript o (.Slice (some i) (some j) none p2) pos) (gSlc to ta tc) := by
  refine ⟨fun pins s σ H v u Q I r h => ?_⟩
  rw [ha]
  refine wpAny_bind (wpAny_holding (thn (ho.run pins s σ H _ I h) fun ov s1 ⟨x, H1, I1, r1, q1⟩ => ?_))
  refine wpAny_bind (wpAny_holding ?_)
  refine wpAny_Slice (thn ((po_some hi).run pins s1 σ H1 _ I1 q1) fun vl s2 ⟨lo, H2, I2, pl, q2⟩ => thn ((po_some hj).run pins s2 σ H2 _ I2 q2) fun vu s3 ⟨up, H3, I3, pu, q3⟩ => ?_)
  obtain ⟨l, b, xs, ys, i, j, rfl, rfl, rfl, rfl, hl, hb, hne, h0, h1, h2, h3, q⟩ := q3
  rw [evalPart_none]
  refine wpAny_pure ?_
  have I4 : Inv X pins σ H3 { s3 with heap := s3.heap.push { cls := .type "slice", data := .fields #[vl, vu, .none] } } := I3.kept (t' := s3.toks) fun b ob q => Heap.get?_push_of_some _ q
  cases (show ov = Value.ref l from r1)
  cases (show u = Value.ref b from r)
  cases pl with
  | int _ tl =>
    cases pu with
    | int _ tu =>
      refine wpAny_bind (wpAny_standAt (wpAny_bind (wpAny_holding (set_slice (s := { s3 with heap := s3.heap.push { cls := .type "slice", data := .fields #[.int i tl, .int j tu, .none] } }) (a := i) (c := j) I4 hl hb hne (Heap.IsSliceOf.new ..) ⟨_, rfl⟩ ⟨_, rfl⟩ h0 h1 h2 h3 fun s' I' => ?_))))
      exact wpAny_release ⟨σ, _, I', q⟩
end SLC
/-! ### enumerate(a tuple) -/
theorem enumT_new (q : Addr) (its : Array Value) (m : Nat) (dc : Option Addr) (so : Array (Option Value)) :
    PySem.Meets (Builtin.«enumerate.__new__» ⟨[.type "enumerate", .ref q], []⟩) (fun _ Rr st => st.heap.get? q = some { cls := .type "tuple", dict := dc, data := .seq its m, slots := so } ∧
      Rr (.ok (.ret (.ref (st.heap.push { cls := .type "tuple_iterator", data := .fields #[.ref q, .int 0 0] }).objs.size)))
        { st with heap := (st.heap.push { cls := .type "tuple_iterator", data := .fields #[.ref q, .int 0 0] }).push { cls := .type "enumerate", data := .fields #[.none, .bool false, .ref st.heap.objs.size, rawInt 0, .none, .none] } }) :=
  .of_wp fun prog w A Rr st y => by
    obtain ⟨hp, gg, dd, tk, oo⟩ := st
    obtain ⟨hl, y⟩ := y
    have hsub := PySem.sub_enumerate
    have hT : PySem.Heap.IsTuple (Shared.heap ⟨hp, gg, dd, tk, oo⟩) q its := ⟨_, hl, rfl, m, rfl⟩
    wp_walk using PySem.AutoSeq1.wpAny_loadPart' hl
    refine wpAny_stack_any fun ss => wpAny_pure ?_
    split
    · rename_i cc _ _ _ _ _
      cases (cc == Value.type "enumerate")
      · wp_walk using PySem.AutoSeq1.wpAny_loadPart' hl, PySem.wpAny_pyIter_tuple hT
        exact ⟨_, rfl, y⟩
      · wp_walk using PySem.AutoSeq1.wpAny_loadPart' hl, PySem.wpAny_pyIter_tuple hT
        exact ⟨_, rfl, y⟩
    · wp_walk using PySem.AutoSeq1.wpAny_loadPart' hl, PySem.wpAny_pyIter_tuple hT
      exact ⟨_, rfl, y⟩
theorem enumT_call {prog : Program} {w : World} {A : Around} {Ex : Value → Shared → Prop} {st : Shared} {q : Addr} {its : Array Value} {Qq : Value → Shared → Prop} (hT : st.heap.IsTuple q its)
    (y : ∀ g', PySem.IsEnum g' (st.heap.objs.size + 1) st.heap.objs.size 0 .none → g'.IsTupleIter st.heap.objs.size q 0 → (∀ b o, st.heap.get? b = some o → g'.get? b = some o) → Qq (.ref (st.heap.objs.size + 1)) { st with heap := g' }) :
    wpAny (model prog w) A (call (.type "enumerate") [.ref q]) Qq Ex st := by
  obtain ⟨⟨cc, dc, dt, so⟩, hl, h1, m, h2⟩ := hT
  have h1 : cc = .type "tuple" := h1
  have h2 : dt = .seq its m := h2
  subst h1 h2
  refine PySem.callType_new PySem.F.called_enumerate (by decide) (PySem.F.typeCall_enumerate_1 _) (PySem.F.newCall_enumerate_1 _) (fun ob => PySem.F.args_object_init_2 ob _) PySem.F.entry_enumerate_new (enumT_new q its m dc so) ⟨hl, ?_⟩
  have e1 : (st.heap.push { cls := .type "tuple_iterator", data := .fields #[.ref q, .int 0 0] }).objs.size = st.heap.objs.size + 1 := Heap.size_push ..
  show _ ∧ _
  rw [e1]
  have e2 : PySem.IsEnum ((st.heap.push { cls := .type "tuple_iterator", data := .fields #[.ref q, .int 0 0] }).push { cls := .type "enumerate", data := .fields #[.none, .bool false, .ref st.heap.objs.size, rawInt 0, .none, .none] }) (st.heap.objs.size + 1) st.heap.objs.size 0 .none := by
    have e3 := Heap.get?_push_size (st.heap.push { cls := .type "tuple_iterator", data := .fields #[.ref q, .int 0 0] }) (o := { cls := .type "enumerate", data := .fields #[.none, .bool false, .ref st.heap.objs.size, rawInt 0, .none, .none] }) rfl
    rw [e1] at e3
    exact e3
  exact ⟨⟨_, e2, rfl⟩, y _ e2 ⟨_, Heap.get?_push_of_some _ (Heap.get?_push_size _ rfl), rfl, rfl⟩ fun b o z => Heap.get?_push_of_some _ (Heap.get?_push_of_some _ z)⟩
/-- the tuple at q, each item in a new pair -/
def ItET (Kf : PySem.W.Frag) (q : Addr) : It :=
  ⟨fun j G => ∃ (xs : List V) (v : V), SqT Kf G q xs ∧ xs[j]? = some v, fun j G v G' => ∃ p u, v = .ref p ∧ G p = none ∧ G' = upd G p (.tup [.int (j : Nat), u]) ∧ ∀ xs, SqT Kf G q xs → xs[j]? = some u, fun j G => ∃ xs : List V, SqT Kf G q xs ∧ xs.length = j⟩
theorem turn_ET {Pr : Program} {wo : World} {Kf : PySem.W.Frag} {ts : List Expr} {nn : Nat} {tp : Pos} (q en it : Addr) :
    Turn Pr wo Kf (.Tuple ts nn tp) (ItET Kf q) [en, it] en (fun j g => (∃ old, PySem.IsEnum g en it ((j : Nat) : Int) old) ∧ g.IsTupleIter it q j ∧ en ≠ it) where
  mem := List.mem_cons_self
  obj := fun j g st b hb => by
    obtain ⟨⟨old, h1⟩, ⟨ob, h2, h3, h4⟩, _⟩ := st
    rcases List.mem_cons.mp hb with rfl | hb
    · exact ⟨_, h1, fun v y => nomatch y⟩
    · cases List.mem_singleton.mp hb
      refine ⟨ob, h2, fun v y => ?_⟩
      rw [h4] at y
      cases y
  keep := fun j g g' st kk => by
    obtain ⟨⟨old, h1⟩, ⟨ob, h2, h3⟩, h5⟩ := st
    exact ⟨⟨old, kk en List.mem_cons_self _ h1⟩, ⟨ob, kk it (List.mem_cons_of_mem _ List.mem_cons_self) _ h2, h3⟩, h5⟩
  item := by
    intro X e1 e2 e3 calm j pins s σ G Ex inv fp st lt
    cases e1
    cases e2
    cases e3
    obtain ⟨⟨old, h1⟩, h2, ne⟩ := st
    obtain ⟨xs, v, hq, hv⟩ := lt
    obtain ⟨its, rv, hT, hz⟩ := inv.tuple hq
    obtain ⟨u, hu, ru⟩ := rv.get hv
    have l1 : en < s.heap.objs.size := Heap.lt_size h1
    have l2 : it < s.heap.objs.size := by
      obtain ⟨_, y, _⟩ := h2
      exact Heap.lt_size y
    have nqi : q ≠ it := fun z => by
      obtain ⟨o1, y1, y2, _⟩ := hT
      obtain ⟨o2, y3, y4, _⟩ := h2
      rw [z, y3] at y1
      cases y1
      rw [y4] at y2
      exact absurd y2 (by decide +kernel)
    have nqe : en ≠ q := fun z => by
      obtain ⟨o1, y1, y2, _⟩ := hT
      rw [← z, h1] at y1
      cases y1
      exact absurd (show Value.type "enumerate" = Value.type "tuple" from y2) (by decide +kernel)
    have lt : j < its.toArray.size := by
      have y := (List.getElem?_eq_some_iff.mp hu).1
      simpa using y
    refine PySem.wpAny_pyNext_enum_itemD (PySem.Draws.tuple (show X.A.in1.handled = none from inv.ok.hd calm) it q nqi its.toArray) h1 ⟨h2, hT⟩ lt ne (fun y => ?_) fun u' g' t2 hu' out h2' hT' sz kp => ?_
    · rcases List.mem_cons.mp y with z | z
      · exact ne z
      · exact nqe (List.mem_singleton.mp z)
    have eu : u' = u := by
      have y : its.toArray[j]? = some u' := hu'
      rw [List.getElem?_toArray, hu] at y
      exact (Option.some.inj y).symm
    subst eu
    refine ⟨_, rfl, PySem.wpAny_letOwnedTupleGo_enum (s := { s with heap := g', toks := t2 + 1 }) out fun g'' h1' sb => ?_⟩
    have hT2 : g''.get? s.heap.objs.size = some { cls := .type "tuple", data := .seq #[.int j t2, u'] } := (sb.2 _ (Nat.ne_of_gt l1)).trans hT'
    have made : ObjOk X.prog X.w (upd G s.heap.objs.size (.tup [.int (j : Nat), v])) g'' s.heap.objs.size (.tup [.int (j : Nat), v]) :=
      ⟨two_le, [.int j t2, u'], .cons ⟨_, rfl⟩ (.cons ru .nil), ⟨_, hT2, rfl, _, rfl⟩⟩
    have inv' : Inv X pins σ (upd G s.heap.objs.size (.tup [.int (j : Nat), v])) { s with heap := g'', toks := t2 + 1 } := by
      refine Inv.turnedNew (ch := [en, it]) inv (fun b ob nb y => ?_) fp (Nat.le_refl _) made
      have n1 : b ≠ en := fun y => nb (by rw [y]; exact List.mem_cons_self)
      have n2 : b ≠ it := fun y => nb (by rw [y]; exact List.mem_cons_of_mem _ List.mem_cons_self)
      exact (sb.2 b n1).trans (kp b ob n1 n2 y)
    refine ⟨.ref s.heap.objs.size, _, inv', rfl, ⟨_, v, rfl, inv.hok.fresh (Nat.le_refl _), rfl, fun ys hy => by rw [inv.tuple_inj hy hq]; exact hv⟩, ⟨⟨u', ?_⟩, ?_, ne⟩, fun b hb => ?_⟩
    · rw [show (((j + 1 : Nat) : Nat) : Int) = (j : Int) + 1 by omega]
      exact h1'
    · obtain ⟨ob, y1, y2⟩ := h2'.1
      exact ⟨ob, (sb.2 it (Ne.symm ne)).trans y1, y2⟩
    · have lb : b < s.heap.objs.size := by
        rcases List.mem_cons.mp hb with rfl | hb
        · exact l1
        · cases List.mem_singleton.mp hb
          exact l2
      rw [upd_ne (Nat.ne_of_lt lb)]
      exact (fp b hb).1
  done := by
    intro X e1 e2 e3 calm j pins s σ G Ex inv fp st ge
    cases e1
    cases e2
    cases e3
    obtain ⟨⟨old, h1⟩, h2, ne⟩ := st
    obtain ⟨xs, hq, hl⟩ := ge
    obtain ⟨its, rv, hT, hz⟩ := inv.tuple hq
    have nqi : q ≠ it := fun z => by
      obtain ⟨o1, y1, y2, _⟩ := hT
      obtain ⟨o2, y3, y4, _⟩ := h2
      rw [z, y3] at y1
      cases y1
      rw [y4] at y2
      exact absurd y2 (by decide +kernel)
    have ej : j = its.toArray.size := by
      have := rv.length
      rw [List.size_toArray]
      omega
    subst ej
    obtain ⟨f0, f1, f2, f3, f4, f5⟩ := fp it (List.mem_cons_of_mem _ List.mem_cons_self)
    exact PySem.wpAny_pyNext_enum_endD (PySem.Draws.tuple (show X.A.in1.handled = none from inv.ok.hd calm) it q nqi its.toArray) h1 ⟨h2, hT⟩ fun g' eb => ⟨rfl, inv.turned (t' := s.toks) (fun b o nb y => eb b o nb y) f0 f1 f3 f4 f5⟩
  self := fun Ar j s Q Ex st y => by
    obtain ⟨⟨_, h1⟩, _⟩ := st
    exact PySem.wpAny_pyIter_enum h1 y
def iET (Kf : PySem.W.Frag) (ta : L2.TA) : TI := fun σ G R => ta σ G fun vs G1 => ∃ q xs, vs = [.ref q] ∧ SqT Kf G1 q xs ∧ R (ItET Kf q) G1
theorem pi_ET {X : Cx} {ex : Expr} {ta : L2.TA} {p pos tp : Pos} {ts : List Expr} {nn : Nat} (gl : Gl X "enumerate") (mm : X.mg "enumerate" = none) (ha : PA X [ex] ta) (hs : starEach [ex] X.env = [(false, eval ex X.env)] := by rfl) :
    PI X (.Tuple ts nn tp) (.Call (.Name "enumerate" p) [ex] [] pos) (iET X.K ta) := by
  refine ⟨fun pins s σ G R inv y => ?_⟩
  refine PyProof.Rows.Call_ (ld_blt inv gl mm PyProof.Rows.boot_enumerate (PyProof.Rows.callWith_type1 (thn (ha.run pos pins s σ G _ inv y) fun us s1 ⟨vs, G1, inv1, r1, q1⟩ => ?_) hs rfl))
  obtain ⟨q, xs, rfl, hq, k⟩ := q1
  cases r1 with
  | cons r rr =>
    cases rr
    cases r
    obtain ⟨its, rv, hT, hz⟩ := inv1.tuple hq
    refine enumT_call hT fun g' h1 h2 kp => PySem.wpAny_pyIter_enum h1 ?_
    refine ⟨s1.heap.objs.size + 1, [s1.heap.objs.size + 1, s1.heap.objs.size], _, _, G1, rfl, inv1.kept (t' := s1.toks) kp, turn_ET q (s1.heap.objs.size + 1) s1.heap.objs.size, ⟨⟨.none, h1⟩, h2, Nat.succ_ne_self _⟩, fun b hb => ?_, k⟩
    have ge : s1.heap.objs.size ≤ b := by
      rcases List.mem_cons.mp hb with rfl | hb
      · exact Nat.le_succ _
      · cases List.mem_singleton.mp hb
        exact Nat.le_refl _
    exact inv1.fpOk ge (inv1.hok.fresh ge)
theorem for_ET {Kf : PySem.W.Frag} {q : Addr} {xs : List V} {g : TG} {tb : TS} {D : Ends} {σ : L2.St} {G : Hp} (Pv : Nat → L2.St → Hp → Prop) (h0 : Pv 0 σ G) (hl : ∀ j σ G, Pv j σ G → SqT Kf G q xs)
    (hs : ∀ j v σ G, xs[j]? = some v → Pv j σ G → ∀ p, G p = none → g (.ref p) σ (upd G p (.tup [.int (j : Nat), v])) fun σ2 G2 => tb { D with nx := Pv (j + 1), ct := Pv (j + 1), bk := D.nx } σ2 G2) (hd : ∀ σ G, Pv xs.length σ G → D.nx σ G) :
    ∃ Wd : Nat → Nat → L2.St → Hp → Prop, (∃ m, Wd 0 m σ G) ∧ ∀ j m σ G, Wd j m σ G →
      ((ItET Kf q).stop j G ∧ D.nx σ G) ∨ ((ItET Kf q).go j G ∧ ∃ Nn : L2.St → Hp → Prop, (∀ σ' G', Nn σ' G' → ∃ m', m' < m ∧ Wd (j + 1) m' σ' G') ∧ ∀ v G', (ItET Kf q).yld j G v G' → g v σ G' fun σ2 G2 => tb { D with nx := Nn, ct := Nn, bk := D.nx } σ2 G2) := by
  refine ⟨fun j m σ G => m = xs.length - j ∧ j ≤ xs.length ∧ Pv j σ G, ⟨_, rfl, Nat.zero_le _, h0⟩, ?_⟩
  rintro j m σ G ⟨rfl, le, pv⟩
  have hq := hl j σ G pv
  rcases Nat.lt_or_ge j xs.length with lt | ge
  · refine .inr ⟨⟨xs, xs[j], hq, List.getElem?_eq_getElem lt⟩, Pv (j + 1), fun σ' G' y => ⟨xs.length - (j + 1), by omega, rfl, lt, y⟩, fun v G' y => ?_⟩
    obtain ⟨p, u, rfl, np, rfl, hu⟩ := y
    exact hs j u σ G (hu xs hq) pv p np
  · have ej : j = xs.length := Nat.le_antisymm le ge
    subst ej
    exact .inl ⟨⟨xs, hq, rfl⟩, hd σ G pv⟩
/-! ### for over enumerate(a list) -/
section ENL
open PySem PySem.Spec PyProof.Rows
theorem for_EL {Kf : PySem.W.Frag} {q : Addr} {xs : List V} {g : TG} {tb : TS} {D : Ends} {σ : L2.St} {G : Hp} (Pv : Nat → L2.St → Hp → Prop) (h0 : Pv 0 σ G) (hl : ∀ j σ G, Pv j σ G → SqL Kf G q xs)
    (hs : ∀ j v σ G, xs[j]? = some v → Pv j σ G → ∀ p, G p = none → g (.ref p) σ (upd G p (.tup [.int (j : Nat), v])) fun σ2 G2 => tb { D with nx := Pv (j + 1), ct := Pv (j + 1), bk := D.nx } σ2 G2) (hd : ∀ σ G, Pv xs.length σ G → D.nx σ G) :
    ∃ Wd : Nat → Nat → L2.St → Hp → Prop, (∃ m, Wd 0 m σ G) ∧ ∀ j m σ G, Wd j m σ G →
      ((Ite Kf q).stop j G ∧ D.nx σ G) ∨ ((Ite Kf q).go j G ∧ ∃ Nn : L2.St → Hp → Prop, (∀ σ' G', Nn σ' G' → ∃ m', m' < m ∧ Wd (j + 1) m' σ' G') ∧ ∀ v G', (Ite Kf q).yld j G v G' → g v σ G' fun σ2 G2 => tb { D with nx := Nn, ct := Nn, bk := D.nx } σ2 G2) := by
  refine ⟨fun j m σ G => m = xs.length - j ∧ j ≤ xs.length ∧ Pv j σ G, ⟨_, rfl, Nat.zero_le _, h0⟩, ?_⟩
  rintro j m σ G ⟨rfl, le, pv⟩
  have hq := hl j σ G pv
  rcases Nat.lt_or_ge j xs.length with lt | ge
  · refine .inr ⟨⟨xs, xs[j], hq, List.getElem?_eq_getElem lt⟩, Pv (j + 1), fun σ' G' y => ⟨xs.length - (j + 1), by omega, rfl, lt, y⟩, fun v G' y => ?_⟩
    obtain ⟨p, u, rfl, np, rfl, hu⟩ := y
    exact hs j u σ G (hu xs hq) pv p np
  · have ej : j = xs.length := Nat.le_antisymm le ge
    subst ej
    exact .inl ⟨⟨xs, hq, Nat.le_refl _⟩, hd σ G pv⟩
end ENL
def top (i : Nat) : Stmt := PySem.Challenge.pw_uponboth_k32_certificate_checks.main.body.getD i (.Pass ⟨0, 0, 0, 0⟩)
structure Blt (mg : Str → Option Value) : Prop where
  len : mg "len" = none
  list : mg "list" = none
  tuple : mg "tuple" = none
  dict : mg "dict" = none
  bool : mg "bool" = none
  isinstance : mg "isinstance" = none
  max : mg "max" = none
  min : mg "min" = none
  range : mg "range" = none
  all : mg "all" = none
  sorted : mg "sorted" = none
  enumerate : mg "enumerate" = none
  sum : mg "sum" = none
  str : mg "str" = none
  int : mg "int" = none
/-- the state of the draws: a list of ints, a place, a rest, a seed -/
def Rng (H : Hp) (r : Addr) : Prop := ∃ (c : Addr) (ns : List Int) (i b s : Int), H r = some (.lst [.ref c, .int i, .int b, .int s]) ∧ H c = some (.lst (ns.map V.int)) ∧ c ≠ r ∧ 0 ≤ i ∧ 0 ≤ b ∧ 0 ≤ s ∧ s < 2147483647
theorem Rng.lst {H : Hp} {r : Addr} (h : Rng H r) : ∃ ys, H r = some (.lst ys) := by
  obtain ⟨c, ns, i, b, s, h, _⟩ := h
  exact ⟨_, h⟩
theorem Rng.same {H H' : Hp} {r : Addr} (e : Same H H') (h : Rng H r) : Rng H' r := by
  obtain ⟨c, ns, i, b, s, h1, h2, h3⟩ := h
  exact ⟨c, ns, i, b, s, e _ _ h1, e _ _ h2, h3⟩
theorem cut63 {ns : List Int} : cutV (ns.map V.int) none (some 63) = (ns.take 63).map V.int := by
  unfold cutV
  rw [HT.sIx_none, show HT.sIx (ns.map V.int).length (ns.map V.int).length (some 63) = min 63 (ns.map V.int).length from HT.sIx_nat _ _ 63]
  rw [List.drop_zero, Nat.sub_zero, List.map_take]
  rcases Nat.le_total 63 (ns.map V.int).length with h | h
  · rw [Nat.min_eq_left h]
  · rw [Nat.min_eq_right h, List.take_of_length_le (Nat.le_refl _), List.take_of_length_le h]
def spDraws (K : PySem.W.Frag) : Sp := fun vs H Q _ => ∃ (a : Addr) (ns : List Int), vs = [.ref a] ∧ SqL K H a (ns.map V.int) ∧ ∀ (r : Addr) (H' : Hp), Same H H' → H r = none → Rng H' r → Q (.ref r) H'
def spDraw : Sp := fun vs H Q _ => ∃ (r : Addr) (n : Int), vs = [.ref r, .int n] ∧ Rng H r ∧ 0 < n ∧ n < 1073741824 ∧ ∀ (v : Int) (H' : Hp), 0 ≤ v → v < n → Rng H' r → But r H H' → Q (.int v) H'
theorem fn_none {P : Program} {w : World} {K : PySem.W.Frag} {mg : Str → Option Value} {base : Heap} {f : Addr} {fd : FuncData} {CX : CXT} {ps : List Str} {sp : Sp} {k : Nat} (no : ∀ vs H Q E, ¬ sp vs H Q E) : FnOk P w K mg base CX k f fd ps sp :=
  ⟨fun vs H Q E h => absurd h (no vs H Q E), fun A outer s H args us vs Q E _ _ _ _ h => absurd h (no vs H Q E)⟩
def spTerm (K : PySem.W.Frag) (n : Nat) : Sp := fun vs H Q _ => ∃ (r : Addr) (many : Int) (k : Nat), k < n ∧ vs = [.ref r, .int many, .int (2 ^ k)] ∧ k ≤ 6 ∧ 1 ≤ many ∧ many ≤ 2 ^ k ∧ Rng H r ∧
  ∀ (v : V) (t : Tree) (H' : Hp), TA K H' v t → (t.sz : Int) = many → t.dp ≤ k → Rng H' r → But r H H' → Q v H'
def spComb (K : PySem.W.Frag) : Sp := fun vs H Q _ => ∃ (m : Int) (b : Bool), vs = [.int m, .bl b] ∧ 1 ≤ m ∧ m ≤ 40 ∧
  ∀ (v : V) (t : Tree) (H' : Hp), TA K H' v t → (t.sz : Int) = m → (t.dp : Int) = m - 1 → Same H H' → Q v H'
def spAny (K : PySem.W.Frag) : Sp := fun vs H Q _ => ∃ (r : Addr) (top : Int), vs = [.ref r, .int top] ∧ 1 ≤ top ∧ top ≤ 64 ∧ Rng H r ∧
  ∀ (v : V) (t : Tree) (H' : Hp), TA K H' v t → (t.sz : Int) ≤ top → t.dp ≤ 6 → Rng H' r → But r H H' → Q v H'
/-- a def over one tree that gives g of it and makes nothing that stays -/
def spTree (K : PySem.W.Frag) (g : Tree → V) (n : Nat) : Sp := fun vs H Q _ => ∃ (v : V) (t : Tree), vs = [v] ∧ TA K H v t ∧ t.dp < n ∧ n ≤ 40 ∧ ∀ H', Same H H' → Q (g t) H'
theorem spTree_no {K : PySem.W.Frag} {g : Tree → V} : ∀ vs H Q E, ¬ spTree K g 0 vs H Q E := fun vs H Q E h => by
  obtain ⟨v, t, _, _, h, _⟩ := h
  omega
def spIsPair (K : PySem.W.Frag) : Sp := fun vs H Q _ => ∃ (v : V) (t : Tree), vs = [v] ∧ TA K H v t ∧ Q (.bl (!t.isL)) H
def spOkTerm (K : PySem.W.Frag) (g : V) : Sp := fun vs H Q _ => ∃ (v : V) (t : Tree), vs = [v] ∧ TA K H v t ∧ t.sz ≤ 12 ∧ t.dp ≤ 6 ∧ ∀ H', Same H H' → Q g H'
/-- an item of the pile: a term and how deep it stands -/
def Item (K : PySem.W.Frag) (H : Hp) (p : V × Tree × Nat) : Prop := ∃ (a : Addr) (u : V), p.1 = .ref a ∧ SqT K H a [u, .int p.2.2] ∧ TA K H u p.2.1 ∧ p.2.2 + p.2.1.dp ≤ 6
theorem Item.mono {K : PySem.W.Frag} {H H' : Hp} (e : Tp H H') {p : V × Tree × Nat} (h : Item K H p) : Item K H' p := by
  obtain ⟨a, u, h1, h2, h3, h4⟩ := h
  exact ⟨a, u, h1, e.sqT h2, ta_mono e h3, h4⟩
def szs (ps : List (V × Tree × Nat)) : Nat := (ps.map fun p => p.2.1.sz).sum
def nds (ps : List (V × Tree × Nat)) : Nat := (ps.map fun p => p.2.1.nodes).sum
theorem szs_snoc (ps : List (V × Tree × Nat)) (p) : szs (ps ++ [p]) = szs ps + p.2.1.sz := by
  unfold szs
  rw [List.map_append, List.sum_append]
  simp
theorem nds_snoc (ps : List (V × Tree × Nat)) (p) : nds (ps ++ [p]) = nds ps + p.2.1.nodes := by
  unfold nds
  rw [List.map_append, List.sum_append]
  simp
theorem szs_len : ∀ ps : List (V × Tree × Nat), ps.length ≤ szs ps
  | [] => Nat.zero_le _
  | p :: ps => by
    have h := szs_len ps
    have h2 := p.2.1.sz_pos
    show ps.length + 1 ≤ (p.2.1.sz :: ps.map fun p => p.2.1.sz).sum
    rw [List.sum_cons]
    unfold szs at h
    omega
structure Cst (mg : Str → Option Value) : Prop where
  MAX_SIZE : ∃ t, mg "MAX_SIZE" = some (.int 12 t)
  MAX_DEPTH : ∃ t, mg "MAX_DEPTH" = some (.int 6 t)
def spOkTree (K : PySem.W.Frag) (g : Tree → V) : Sp := fun vs H Q _ => ∃ (v : V) (t : Tree), vs = [v] ∧ TA K H v t ∧ t.sz ≤ 12 ∧ t.dp ≤ 6 ∧ ∀ H', Same H H' → Q (g t) H'
def Tree.spine : Tree → List Tree
  | .L => [.L]
  | .N l r => .N l r :: l.spine
def spSpine (K : PySem.W.Frag) : Sp := fun vs H Q _ => ∃ (v : V) (t : Tree), vs = [v] ∧ TA K H v t ∧ t.sz ≤ 12 ∧ t.dp ≤ 6 ∧ ∀ (p : Addr) (vs : List V) (H' : Hp), Same H H' → H p = none → H' p = some (.lst vs) → DpAll K H' vs (t.spine.map Tree.d) → Q (.ref p) H'
theorem dpAll_snoc {K : PySem.W.Frag} {H : Hp} : ∀ {vs : List V} {ds : List PyData} {v : V} {d : PyData}, DpAll K H vs ds → Dp K H v d → DpAll K H (vs ++ [v]) (ds ++ [d])
  | _, _, _, _, .nil, h => .cons h .nil
  | _, _, _, _, .cons h1 h2, h => .cons h1 (dpAll_snoc h2 h)
theorem dpAll_len {K : PySem.W.Frag} {H : Hp} : ∀ {vs : List V} {ds : List PyData}, DpAll K H vs ds → vs.length = ds.length
  | _, _, .nil => rfl
  | _, _, .cons _ h2 => congrArg (· + 1) (dpAll_len h2)
theorem dpAll_at {K : PySem.W.Frag} {H : Hp} : ∀ {vs : List V} {ds : List PyData}, DpAll K H vs ds → ∀ (i : Nat) (d : PyData), ds[i]? = some d → ∃ v, vs[i]? = some v ∧ Dp K H v d
  | _, _, .nil, i, d, e => by simp at e
  | _, _, .cons h1 h2, 0, d, e => ⟨_, rfl, by cases e; exact h1⟩
  | _, _, .cons h1 h2, i + 1, d, e => dpAll_at h2 i d e
theorem dpAll_tp {K : PySem.W.Frag} {H H' : Hp} (e : Tp H H') : ∀ {ts : List Tree} {vs : List V}, DpAll K H vs (ts.map Tree.d) → DpAll K H' vs (ts.map Tree.d)
  | [], _, h => by
    cases h
    exact .nil
  | t :: ts, _, h => by
    cases h with
    | cons h1 h2 => exact .cons (ta_mono e h1) (dpAll_tp e h2)
theorem Tree.spine_len : ∀ t : Tree, t.spine.length ≤ t.dp + 1
  | .L => Nat.le_refl _
  | .N l r => by
    have h := spine_len l
    show l.spine.length + 1 ≤ max l.dp r.dp + 1 + 1
    omega
theorem Tree.spine_mem : ∀ {t u : Tree}, u ∈ t.spine → u.dp ≤ t.dp
  | .L, u, h => by
    cases List.mem_singleton.mp h
    exact Nat.le_refl _
  | .N l r, u, h => by
    rcases List.mem_cons.mp h with e | h
    · rw [e]
      exact Nat.le_refl _
    · have h2 := spine_mem h
      show u.dp ≤ max l.dp r.dp + 1
      omega
theorem Tree.spine_self : ∀ t : Tree, t ∈ t.spine
  | .L => List.mem_singleton.mpr rfl
  | .N _ _ => List.mem_cons_self
/-- the walk down the left: at p stands the list of what was met, its last one is still to be looked at -/
def Spn (K : PySem.W.Frag) (H H' : Hp) (p : Addr) (t : Tree) (m : Nat) : Prop := ∃ (vs : List V) (u : V) (ts : List Tree) (t' : Tree), Same H H' ∧ H' p = some (.lst (vs ++ [u])) ∧ DpAll K H' vs (ts.map Tree.d) ∧ TA K H' u t' ∧ ts ++ t'.spine = t.spine ∧ m = t'.nodes
theorem Spn.dp {t t' : Tree} {ts : List Tree} (et : ts ++ t'.spine = t.spine) (hd : t.dp ≤ 6) : t'.dp ≤ 63 := by
  have h : t' ∈ t.spine := by
    rw [← et]
    exact List.mem_append_right _ t'.spine_self
  have := Tree.spine_mem h
  omega
theorem Spn.lt {K : PySem.W.Frag} {H' : Hp} {vs : List V} {u : V} {t t' : Tree} {ts : List Tree} (hA : DpAll K H' vs (ts.map Tree.d)) (et : ts ++ t'.spine = t.spine) (hd : t.dp ≤ 6) : (vs ++ [u]).length < sizeLine := by
  have h1 := dpAll_len hA
  have h2 := congrArg List.length et
  have h3 := t.spine_len
  rw [List.length_map] at h1
  rw [List.length_append] at h2
  rw [List.length_append, List.length_singleton]
  exact small1000 (by omega)
theorem Spn.next {K : PySem.W.Frag} {H H' : Hp} {p p5 b : Addr} {vs : List V} {x1 x2 : V} {t l r : Tree} {ts : List Tree} (hp0 : H p = none) (sm : Same H H') (s5 : Same H' (upd H' p5 (.tup []))) (hl : H' p = some (.lst (vs ++ [.ref b]))) (hA : DpAll K H' vs (ts.map Tree.d)) (hS : SqT K H' b [x1, x2]) (hL : TA K H' x1 l) (hR : TA K H' x2 r)
    (et : ts ++ (Tree.N l r).spine = t.spine) : Spn K H (upd (upd H' p5 (.tup [])) p (.lst ((vs ++ [.ref b]) ++ [x1]))) p t l.nodes := by
  have tp : Tp H' (upd (upd H' p5 (.tup [])) p (.lst ((vs ++ [.ref b]) ++ [x1]))) := (Tp.same s5).trans (Tp.but (s5 _ _ hl) But.set)
  refine ⟨vs ++ [.ref b], x1, ts ++ [.N l r], l, fun c o e => ?_, upd_same, ?_, ta_mono tp hL, ?_, rfl⟩
  · rw [upd_ne (ne_of_none e hp0)]
    exact s5 _ _ (sm _ _ e)
  · rw [List.map_append]
    exact dpAll_snoc (dpAll_tp tp hA) (ta_node (tp.sqT hS) (ta_mono tp hL) (ta_mono tp hR))
  · rw [List.append_assoc]
    exact et
/-! ### data and their built-in types -/
def tn : PyData → String
  | .none => "NoneType"
  | .bool _ => "bool"
  | .int _ => "int"
  | .str _ => "str"
  | .list _ => "list"
  | .tuple _ => "tuple"
  | .dict _ => "dict"
def isT : PyData → Bool
  | .tuple _ => true
  | _ => false
def isLs : PyData → Bool
  | .list _ => true
  | _ => false
def isB : PyData → Bool
  | .bool _ => true
  | _ => false
theorem dp_ty {K : PySem.W.Frag} {H : Hp} {x : V} {d : PyData} (h : Dp K H x d) : TyX K H x (.type (tn d)) := by
  cases h with
  | non => exact .base .non
  | bl b => exact .base (.bl b)
  | int i => exact .base (.int i)
  | str z => exact .base (.str z)
  | lst hs _ => exact tyx_lst hs
  | tup hs _ => exact tyx_tup hs
theorem kit_dict {K : PySem.W.Frag} {H : Hp} {x : V} {d : PyData} (h : Dp K H x d) : PySem.W.kitOne K (.type (tn d)) (.type "dict") = some false := by
  cases h with
  | non => exact kit_ty (show kitB "NoneType" "dict" = some false by decide +kernel)
  | bl _ => exact kit_ty (show kitB "bool" "dict" = some false by decide +kernel)
  | int _ => exact kit_ty (show kitB "int" "dict" = some false by decide +kernel)
  | str _ => exact kit_ty (show kitB "str" "dict" = some false by decide +kernel)
  | lst _ _ => exact kit_ty (show kitB "list" "dict" = some false by decide +kernel)
  | tup _ _ => exact kit_ty (show kitB "tuple" "dict" = some false by decide +kernel)
theorem kit_tuple {K : PySem.W.Frag} {H : Hp} {x : V} {d : PyData} (h : Dp K H x d) : PySem.W.kitOne K (.type (tn d)) (.type "tuple") = some (isT d) := by
  cases h with
  | non => exact kit_ty (show kitB "NoneType" "tuple" = some false by decide +kernel)
  | bl _ => exact kit_ty (show kitB "bool" "tuple" = some false by decide +kernel)
  | int _ => exact kit_ty (show kitB "int" "tuple" = some false by decide +kernel)
  | str _ => exact kit_ty (show kitB "str" "tuple" = some false by decide +kernel)
  | lst _ _ => exact kit_ty (show kitB "list" "tuple" = some false by decide +kernel)
  | tup _ _ => exact kit_ty (show kitB "tuple" "tuple" = some true by decide +kernel)
theorem kit_list {K : PySem.W.Frag} {H : Hp} {x : V} {d : PyData} (h : Dp K H x d) : PySem.W.kitOne K (.type (tn d)) (.type "list") = some (isLs d) := by
  cases h with
  | non => exact kit_ty (show kitB "NoneType" "list" = some false by decide +kernel)
  | bl _ => exact kit_ty (show kitB "bool" "list" = some false by decide +kernel)
  | int _ => exact kit_ty (show kitB "int" "list" = some false by decide +kernel)
  | str _ => exact kit_ty (show kitB "str" "list" = some false by decide +kernel)
  | lst _ _ => exact kit_ty (show kitB "list" "list" = some true by decide +kernel)
  | tup _ _ => exact kit_ty (show kitB "tuple" "list" = some false by decide +kernel)
theorem kit_bool {K : PySem.W.Frag} {H : Hp} {x : V} {d : PyData} (h : Dp K H x d) : PySem.W.kitOne K (.type (tn d)) (.type "bool") = some (isB d) := by
  cases h with
  | non => exact kit_ty (show kitB "NoneType" "bool" = some false by decide +kernel)
  | bl _ => exact kit_ty (show kitB "bool" "bool" = some true by decide +kernel)
  | int _ => exact kit_ty (show kitB "int" "bool" = some false by decide +kernel)
  | str _ => exact kit_ty (show kitB "str" "bool" = some false by decide +kernel)
  | lst _ _ => exact kit_ty (show kitB "list" "bool" = some false by decide +kernel)
  | tup _ _ => exact kit_ty (show kitB "tuple" "bool" = some false by decide +kernel)
theorem kit_seq {K : PySem.W.Frag} {H : Hp} {x : V} {d : PyData} (h : Dp K H x d) : PySem.W.kitAny K (.type (tn d)) [.type "tuple", .type "list"] = some (isT d || isLs d) := by
  refine kitAny_cons (kit_tuple h) (fun e => kitAny_cons (kit_list h) (fun e2 => ?_) (fun e2 => ?_)) (fun e => ?_)
  · rw [e, e2]
    exact kitAny_nil
  · rw [e, e2]
    rfl
  · rw [e]
    rfl
mutual
/-- no list or tuple in it is longer than 1000 -/
def wide : PyData → Bool
  | .list xs | .tuple xs => decide (xs.length ≤ 1000) && wideAll xs
  | .none | .bool _ | .int _ | .str _ | .dict _ => true
def wideAll : List PyData → Bool
  | [] => true
  | x :: xs => wide x && wideAll xs
end
/-- two data that are the same are told to be the same -/
def spSame (K : PySem.W.Frag) (n : Nat) : Sp := fun vs H Q _ => ∃ (x y : V) (d : PyData), vs = [x, y] ∧ Dp K H x d ∧ Dp K H y d ∧ SeqAt.shaped d = true ∧ d.depth < n ∧ wide d = true ∧ ∀ H', Same H H' → Q (.bl true) H'
theorem shaped_at {ds : List PyData} {d : PyData} (hc : PyData.canLayAll0 ds = true) (hm : d ∈ ds) : d.canLay0 = true := by
  induction ds with
  | nil => cases hm
  | cons a r ih =>
    have h' : a.canLay0 = true ∧ PyData.canLayAll0 r = true := by simpa [PyData.canLayAll0] using hc
    rcases List.mem_cons.mp hm with e | hm
    · rw [e]
      exact h'.1
    · exact ih h'.2 hm
theorem depth_at {ds : List PyData} {d : PyData} (hm : d ∈ ds) : d.depth ≤ PyData.depthAll ds := by
  induction ds with
  | nil => cases hm
  | cons a r ih =>
    show d.depth ≤ max a.depth (PyData.depthAll r)
    rcases List.mem_cons.mp hm with e | hm
    · rw [e]
      omega
    · have := ih hm
      omega
theorem wide_at {ds : List PyData} {d : PyData} (hc : wideAll ds = true) (hm : d ∈ ds) : wide d = true := by
  induction ds with
  | nil => cases hm
  | cons a r ih =>
    have h' : wide a = true ∧ wideAll r = true := by simpa [wideAll] using hc
    rcases List.mem_cons.mp hm with e | hm
    · rw [e]
      exact h'.1
    · exact ih h'.2 hm
theorem all_rep : ∀ n : Nat, (List.replicate n true).all id = true
  | 0 => rfl
  | n + 1 => all_rep n
def spLaw (K : PySem.W.Frag) : Sp := fun vs H Q _ => ∃ (a : Addr) (ns : List Int), vs = [.ref a] ∧ SqL K H a (ns.map V.int) ∧ ∀ H', Q (.bl true) H'
/-! ### texts of trees -/
namespace Tree
def cs : Tree → List Nat
  | L => [120]
  | N l r => 40 :: (l.cs ++ (r.cs ++ [41]))
def txt (t : Tree) : Str := ⟨t.cs.toArray⟩
theorem cs_len : ∀ t : Tree, t.cs.length + 2 = 3 * t.sz
  | L => rfl
  | N l r => by
    have h1 := cs_len l
    have h2 := cs_len r
    show (40 :: (l.cs ++ (r.cs ++ [41]))).length + 2 = 3 * (l.sz + r.sz)
    rw [List.length_cons, List.length_append, List.length_append, List.length_singleton]
    omega
theorem txt_len (t : Tree) : t.txt.length = t.cs.length := by
  show t.cs.toArray.size = _
  simp
theorem txtN (l r : Tree) : (((Str.ofString "(" ++ l.txt) ++ r.txt) ++ Str.ofString ")") = (N l r).txt := by
  show (⟨((#[40] ++ l.cs.toArray) ++ r.cs.toArray) ++ #[41]⟩ : Str) = ⟨(40 :: (l.cs ++ (r.cs ++ [41]))).toArray⟩
  congr 1
  apply Array.toList_inj.mp
  simp
theorem txtL : Str.ofString "x" = L.txt := rfl
end Tree
def spText (K : PySem.W.Frag) (n : Nat) : Sp := fun vs H Q _ => ∃ (v : V) (t : Tree), vs = [v] ∧ TA K H v t ∧ t.dp < n ∧ n ≤ 40 ∧ t.sz ≤ 1000 ∧ ∀ H', Same H H' → Q (.str t.txt) H'
theorem spText_no {K : PySem.W.Frag} : ∀ vs H Q E, ¬ spText K 0 vs H Q E := fun vs H Q E h => by
  obtain ⟨v, t, _, _, h, _⟩ := h
  omega
theorem fits {n : Nat} (h : n ≤ 10000) : n ≤ sizeLine := Nat.le_trans h (by decide)
/-- the reader's pile: the lists of operands that are open, the innermost first -/
def room (ts : List Tree) (rest : List (List Tree)) : Nat := if rest.length = 0 then 1 else 2
def stp : List (List Tree) → Nat → Option (List (List Tree))
  | [], _ => none
  | ts :: rest, c => if c = 120 then (if ts.length < room ts rest then some ((ts ++ [.L]) :: rest) else none)
    else if c = 40 then (if ts.length < room ts rest then some ([] :: ts :: rest) else none)
    else if c = 41 then (match ts, rest with
      | [a, b], us :: more => some ((us ++ [.N a b]) :: more)
      | _, _ => none)
    else none
theorem stp_x (ts : List Tree) (rest : List (List Tree)) : stp (ts :: rest) 120 = if ts.length < room ts rest then some ((ts ++ [.L]) :: rest) else none := rfl
theorem stp_o (ts : List Tree) (rest : List (List Tree)) : stp (ts :: rest) 40 = if ts.length < room ts rest then some ([] :: ts :: rest) else none := rfl
theorem stp_c (ts : List Tree) (rest : List (List Tree)) : stp (ts :: rest) 41 = (match ts, rest with
      | [a, b], us :: more => some ((us ++ [.N a b]) :: more)
      | _, _ => none) := rfl
theorem stp_else (ts : List Tree) (rest : List (List Tree)) {c : Nat} (h1 : c ≠ 120) (h2 : c ≠ 40) (h3 : c ≠ 41) : stp (ts :: rest) c = none := by
  show (if c = 120 then _ else if c = 40 then _ else if c = 41 then _ else none) = none
  rw [if_neg h1, if_neg h2, if_neg h3]
def rn : List (List Tree) → List Nat → Option (List (List Tree))
  | st, [] => some st
  | st, c :: cs => (stp st c).bind fun st' => rn st' cs
theorem rn_tree : ∀ (t : Tree) (ts : List Tree) (rest : List (List Tree)) (more : List Nat), ts.length < room ts rest → rn (ts :: rest) (t.cs ++ more) = rn ((ts ++ [t]) :: rest) more
  | .L, ts, rest, more, h => by
    show (stp (ts :: rest) 120).bind (fun st' => rn st' more) = _
    rw [stp_x, if_pos h]
    rfl
  | .N l r, ts, rest, more, h => by
    have e : (Tree.N l r).cs ++ more = 40 :: (l.cs ++ (r.cs ++ (41 :: more))) := by
      show (40 :: (l.cs ++ (r.cs ++ [41]))) ++ more = _
      simp
    rw [e]
    show (stp (ts :: rest) 40).bind (fun st' => rn st' (l.cs ++ (r.cs ++ (41 :: more)))) = _
    have e1 : stp (ts :: rest) 40 = some ([] :: ts :: rest) := by
      rw [stp_o, if_pos h]
    rw [e1]
    show rn ([] :: ts :: rest) (l.cs ++ (r.cs ++ (41 :: more))) = _
    rw [rn_tree l [] (ts :: rest) _ (by show 0 < if (ts :: rest).length = 0 then 1 else 2; rw [if_neg (by simp)]; decide)]
    rw [rn_tree r _ (ts :: rest) _ (by show 1 < if (ts :: rest).length = 0 then 1 else 2; rw [if_neg (by simp)]; decide)]
    rfl
theorem rn_all (t : Tree) : rn [[]] t.cs = some [[t]] := by
  have h := rn_tree t [] [] [] (by decide)
  rw [List.append_nil] at h
  rw [h]
  rfl
theorem tlen {t : Tree} (h : t.sz ≤ 1000) : t.txt.length ≤ 3000 := by
  have h1 := t.cs_len
  have h2 := t.txt_len
  omega
theorem slen (a b : Str) : (a ++ b).length = a.length + b.length := by
  show (a.cps ++ b.cps).size = a.cps.size + b.cps.size
  simp
def spOkText (K : PySem.W.Frag) : Sp := fun vs H Q _ => ∃ (v : V) (t : Tree), vs = [v] ∧ TA K H v t ∧ t.sz ≤ 12 ∧ t.dp ≤ 6 ∧ ∀ H', Same H H' → Q (.str t.txt) H'
def spRoom : Sp := fun vs H Q _ => ∃ (p a : Addr) (as : List Addr) (ws : List V), vs = [.ref p] ∧ H p = some (.lst ((as ++ [a]).map V.ref)) ∧ H a = some (.lst ws) ∧ as.length ≤ 10000 ∧ ws.length ≤ 10000 ∧ Q (.bl (decide ((ws.length : Int) < if as.length = 0 then 1 else 2))) H
/-- reading the text of a tree gives the tree -/
def spRead (K : PySem.W.Frag) : Sp := fun vs H Q _ => ∃ t : Tree, vs = [.str t.txt] ∧ t.sz ≤ 1000 ∧ ∀ (v : V) (H' : Hp), TA K H' v t → Same H H' → Q v H'
def spParse (K : PySem.W.Frag) : Sp := fun vs H Q _ => ∃ t : Tree, vs = [.str t.txt] ∧ t.sz ≤ 12 ∧ t.dp ≤ 6 ∧ ∀ (v : V) (H' : Hp), TA K H' v t → Same H H' → Q v H'
inductive Pile (K : PySem.W.Frag) (G : Hp) : List Addr → List (List Tree) → Prop
  | nil : Pile K G [] []
  | cons {a : Addr} {vs : List V} {ts : List Tree} {as : List Addr} {st : List (List Tree)} : G a = some (.lst vs) → DpAll K G vs (ts.map Tree.d) → Pile K G as st → Pile K G (a :: as) (ts :: st)
theorem Pile.mono {K : PySem.W.Frag} {G G' : Hp} (tp : Tp G G') : ∀ {as : List Addr} {st : List (List Tree)}, (∀ a ∈ as, ∀ o, G a = some o → G' a = some o) → Pile K G as st → Pile K G' as st
  | _, _, _, .nil => .nil
  | _, _, k, .cons h1 h2 h3 => .cons (k _ List.mem_cons_self _ h1) (dpAll_tp tp h2) (Pile.mono tp (fun a ha => k a (List.mem_cons_of_mem _ ha)) h3)
/-- the pile at p, all of it new since H -/
def PileAt (K : PySem.W.Frag) (H G : Hp) (p : Addr) (st : List (List Tree)) : Prop := ∃ as : List Addr, G p = some (.lst (as.reverse.map V.ref)) ∧ as.Nodup ∧ p ∉ as ∧ H p = none ∧ (∀ a ∈ as, H a = none) ∧ Pile K G as st
theorem cs_small : ∀ (t : Tree) (c : Nat), c ∈ t.cs → c < 128
  | .L, c, h => by
    rw [List.mem_singleton.mp h]
    decide
  | .N l r, c, h => by
    have h : c ∈ 40 :: (l.cs ++ (r.cs ++ [41])) := h
    rcases List.mem_cons.mp h with e | h
    · rw [e]
      decide
    rcases List.mem_append.mp h with h | h
    · exact cs_small l c h
    rcases List.mem_append.mp h with h | h
    · exact cs_small r c h
    · rw [List.mem_singleton.mp h]
      decide
theorem txt_ok (t : Tree) : PyData.strOk t.txt = true := by
  show t.cs.toArray.all (· < 0x110000) = true
  rw [Array.all_eq_true']
  intro c hc
  have h := cs_small t c (by simpa using hc)
  exact decide_eq_true (by omega)
/-! ### the twenty errors of the law's words -/
def enames : List Str := ["InvalidTerm", "InvalidText", "InvalidPath", "PathNotFound", "NotRewritable", "TooLarge", "InvalidSize", "InvalidIndex", "InvalidWord", "InvalidStep", "InvalidElement", "InvalidModel", "NestingTooDeep", "InvalidLabel", "DuplicateName", "UnknownName", "LimitReached", "InvalidCommand", "EmptyHistory", "InvalidSnapshot"]
def en (i : Nat) : Str := enames.getD i ""
/-- where their classes stand -/
def Errs (mg : Str → Option Value) (cl : Nat → Addr) : Prop := ∀ i, i < 20 → mg (en i) = some (.ref (cl i))
/-- D's word is the j-th -/
structure Isw (K : PySem.W.Frag) (cl : Nat → Addr) (D : Addr) (j : Nat) : Prop where
  lt : j < 20
  kit : ∀ i, i < 20 → PySem.W.kitOne K (.ref D) (.ref (cl i)) = some (decide (i = j))
/-- the state between two rows: a list of n pairs -/
def NmI (H0 : Hp) (xh : Addr) (j n : Nat) (σ : L2.St) (H : Hp) : Prop := ∃ (L : Addr) (ps : List Addr), σ = [some (.ref xh), some (.ref L), none, none] ∧ Same H0 H ∧ ps.length = n ∧ H L = some (.lst (ps.map V.ref)) ∧
  ∀ i p, ps[i]? = some p → H p = some (.tup [.str (en i), .bl (decide (i = j))])
def tIs (K : PySem.W.Frag) (D xh c : Addr) : TE := fun σ H Q => tCons (tVar 0) (tCons (tC (.ref c)) tNil) σ H fun vs H1 => rIsB K D xh vs H1 Q
def tPr (K : PySem.W.Frag) (D xh : Addr) (cl : Nat → Addr) (i : Nat) : TE := tTup (tCons (tC (.str (en i))) (tCons (tIs K D xh (cl i)) tNil))
theorem tPr_ok {K : PySem.W.Frag} {D xh : Addr} {cl : Nat → Addr} {i j : Nat} {σ : L2.St} {H : Hp} {Q : VK} (hj : Isw K cl D j) (hi : i < 20) (e : σ[0]? = some (some (.ref xh))) (q : ∀ p, H p = none → Q (.ref p) (upd H p (.tup [.str (en i), .bl (decide (i = j))]))) : tPr K D xh cl i σ H Q := by
  exact ⟨_, e, _, _, _, rfl, .own _, hj.kit i hi, two_le, q⟩
theorem pairs_new {H0 H : Hp} {xh : Addr} {j n : Nat} {ps : List Addr} {p1 p2 : Addr} (hl : ps.length = n) (hp : ∀ i p, ps[i]? = some p → H p = some (.tup [.str (en i), .bl (decide (i = j))])) (n1 : H p1 = none)
    (n2 : upd H p1 (.tup [.str (en n), .bl (decide (n = j))]) p2 = none) :
    ∀ i p, (ps ++ [p1, p2])[i]? = some p → upd (upd H p1 (.tup [.str (en n), .bl (decide (n = j))])) p2 (.tup [.str (en (n + 1)), .bl (decide (n + 1 = j))]) p = some (.tup [.str (en i), .bl (decide (i = j))]) := by
  intro i p e
  have s1 := Same.new n1 (.tup [.str (en n), .bl (decide (n = j))])
  have s2 := Same.new n2 (.tup [.str (en (n + 1)), .bl (decide (n + 1 = j))])
  rcases Nat.lt_or_ge i ps.length with lt | ge
  · rw [List.getElem?_append_left lt] at e
    exact s2 _ _ (s1 _ _ (hp i p e))
  · rw [List.getElem?_append_right ge] at e
    obtain ⟨k, rfl⟩ : ∃ k, i = n + k := ⟨i - n, by omega⟩
    rw [show n + k - ps.length = k by omega] at e
    match k, e with
    | 0, e => cases e; exact s2 _ _ upd_same
    | 1, e => cases e; exact upd_same
theorem two_pr {K : PySem.W.Frag} {D xh : Addr} {cl : Nat → Addr} {i j : Nat} {σ : L2.St} {H : Hp} {Q : VK} (hj : Isw K cl D j) (hi : i + 1 < 20) (e : σ[0]? = some (some (.ref xh)))
    (q : ∀ p1 p2 L, H p1 = none → upd H p1 (.tup [.str (en i), .bl (decide (i = j))]) p2 = none → upd (upd H p1 (.tup [.str (en i), .bl (decide (i = j))])) p2 (.tup [.str (en (i + 1)), .bl (decide (i + 1 = j))]) L = none →
      Q (.ref L) (upd (upd (upd H p1 (.tup [.str (en i), .bl (decide (i = j))])) p2 (.tup [.str (en (i + 1)), .bl (decide (i + 1 = j))])) L (.lst [.ref p1, .ref p2]))) :
    tLst (tCons (tPr K D xh cl i) (tCons (tPr K D xh cl (i + 1)) tNil)) σ H Q := by
  show tPr K D xh cl i σ H (fun x H1 => tPr K D xh cl (i + 1) σ H1 fun y H2 => [x, y].length ≤ sizeLine ∧ ∀ p, H2 p = none → Q (.ref p) (upd H2 p (.lst [x, y])))
  refine tPr_ok hj (by omega) e fun p1 n1 => ?_
  refine tPr_ok hj hi e fun p2 n2 => ?_
  exact ⟨two_le, fun L nL => q p1 p2 L n1 n2 nL⟩
theorem nm_first {K : PySem.W.Frag} {D xh : Addr} {cl : Nat → Addr} {j : Nat} {H : Hp} {nx : L2.St → Hp → Prop} (hj : Isw K cl D j) (q : ∀ σ' H', NmI H xh j 2 σ' H' → nx σ' H') :
    tLst (tCons (tPr K D xh cl 0) (tCons (tPr K D xh cl 1) tNil)) [some (.ref xh), none, none, none] H fun x H1 => gName 1 x [some (.ref xh), none, none, none] H1 nx := by
  refine two_pr (i := 0) hj (by decide) rfl fun p1 p2 L n1 n2 nL => ?_
  have s3 := Same.new nL (.lst [.ref p1, .ref p2])
  exact q _ _ ⟨L, [p1, p2], rfl, ((Same.new n1 _).trans (Same.new n2 _)).trans s3, rfl, upd_same, fun i p e => s3 _ _ (pairs_new (ps := []) (n := 0) (H0 := H) (xh := xh) rfl (fun i p e => nomatch e) n1 n2 i p e)⟩
theorem nm_step {K : PySem.W.Frag} {D xh : Addr} {cl : Nat → Addr} {j n : Nat} {H0 H : Hp} {σ : L2.St} {nx : L2.St → Hp → Prop} (hj : Isw K cl D j) (hn : n + 1 < 20) (I : NmI H0 xh j n σ H) (q : ∀ σ' H', NmI H0 xh j (n + 2) σ' H' → nx σ' H') :
    tVar 1 σ H fun x H1 => (tLst (tCons (tPr K D xh cl n) (tCons (tPr K D xh cl (n + 1)) tNil))) σ H1 fun y H2 => rCat x y H2 fun z H3 => gName 1 z σ H3 nx := by
  obtain ⟨L, ps, rfl, sm, hl, hL, hp⟩ := I
  refine ⟨_, rfl, ?_⟩
  refine two_pr hj hn rfl fun p1 p2 b n1 n2 nb => ?_
  have s1 := (Same.new n1 (.tup [.str (en n), .bl (decide (n = j))])).trans (Same.new n2 (.tup [.str (en (n + 1)), .bl (decide (n + 1 = j))]))
  have s2 := Same.new nb (.lst [.ref p1, .ref p2])
  refine ⟨L, b, _, _, rfl, rfl, s2 _ _ (s1 _ _ hL), upd_same, ?_, fun r nr => ?_⟩
  · rw [List.length_map, hl]
    have : 100 ≤ sizeLine := by decide
    show n + 2 ≤ sizeLine
    omega
  · have s3 := Same.new nr (.lst (ps.map V.ref ++ [.ref p1, .ref p2]))
    refine q _ _ ⟨r, ps ++ [p1, p2], rfl, ((sm.trans s1).trans s2).trans s3, by rw [List.length_append, hl]; rfl, by rw [upd_same, List.map_append]; rfl, fun i p e => s3 _ _ (s2 _ _ (pairs_new (H0 := H) (xh := xh) hl hp n1 n2 i p e))⟩
theorem pe_no {X : Cx} {e : Expr} : PE X e (fun _ _ _ => False) := ⟨fun _ _ _ _ _ _ h => h.elim⟩
/-- a word without a field -/
def plainErr (j : Nat) : Bool := decide (j < 20) && !([1, 9, 17, 14, 15, 5, 19].contains j)
theorem plain_in3 : ∀ j, j < 20 → plainErr j = true → inV (.str (en j)) [.str (en 1), .str (en 9), .str (en 17)] = false := by decide +kernel
theorem plain_in2 : ∀ j, j < 20 → plainErr j = true → inV (.str (en j)) [.str (en 14), .str (en 15)] = false := by decide +kernel
theorem plain_big : ∀ j, j < 20 → plainErr j = true → decide (V.str (en j) = V.str (en 5)) = false := by decide +kernel
theorem plain_row : ∀ j, j < 20 → plainErr j = true → decide (V.str (en j) = V.str (en 19)) = false := by decide +kernel
theorem plain_lt {j : Nat} (h : plainErr j = true) : j < 20 := by
  unfold plainErr at h
  rw [Bool.and_eq_true] at h
  exact of_decide_eq_true h.1
theorem FnB.mono {P : Program} {w : World} {K : PySem.W.Frag} {mg : Str → Option Value} {base : Heap} {j k : Nat} {f : Addr} {fd : FuncData} {ps : List Str} {sp : Addr → Value → Option Addr → Sp} (F : FnB P w K mg base j f fd ps sp) (h : j ≤ k) : FnB P w K mg base k f fd ps sp :=
  fun A outer s H args us vs Q xh oh hr => F A outer s H args us vs Q xh oh (hr.mono h)
/-- the law's promise, its table empty -/
def spLawT (K : PySem.W.Frag) (Pt : Addr) : Sp := fun vs H Q _ => ∃ (a : Addr) (ns : List Int), vs = [.ref a] ∧ SqL K H a (ns.map V.int) ∧ H Pt = some (.tbl #[]) ∧ ∀ H', Q (.bl true) H'
/-- a def that may raise, with the context told -/
theorem Fun.okN {P : Program} {w : World} {K : PySem.W.Frag} {mg : Str → Option Value} {base : Heap} {x qual : Str} {st : Stmt} {f : Addr} {fd : FuncData} {N ps : List Str} {k : Nat} {sp : Sp} (F : L2.Fun K x qual st f fd) (S : FnScope N ps (defScope st)) (len : ∀ vs H Q E, sp vs H Q E → vs.length = ps.length)
    (hbody : ∀ (cdv : Value) (A : Around) (outer : List Env) (s : Shared) (H : Hp) (vs : List V) (Q : VK) (E : XK), Room k (A.deeper (PyProof.Rows.envOfC qual (defScope st) s.heap.objs.size f cdv)) → sp vs H Q E →
      ∃ t, PSs (cxOf (L2N.CX P w) P w K mg base N qual (defScope st) f cdv A outer s H E) (defBody st) t ∧ t { nx := fun _ H' => Q .non H', rt := Q } (L2.start N vs) H) : FnOk P w K mg base (L2N.CX P w) (k + 1) f fd ps sp := by
  obtain ⟨oc, od, kV, doc, pm, an, cdv, ct, osl, rfl, lk, hcd⟩ := F.ex
  exact fn_of lk hcd S len fun A outer s H vs Q E hr hsp => hbody cdv A outer s H vs Q E hr hsp
/-- what a raise of the class wants -/
structure ErrC (K : PySem.W.Frag) (mg : Str → Option Value) (x : Str) (C : Addr) : Prop where
  q : PySem.W.excIn K C [.type "ValueError", .type "Exception", .type "BaseException", .type "object"] "ValueError.__new__" = true
  g : mg x = some (.ref C)
  k : PySem.W.keepIn K (.ref C) = true
  b : PySem.W.subIn K (.ref C) (.type "BaseException") = some true
  t : PySem.W.typeIn K (.ref C) = some (.type "type")
theorem passF {X : Cx} : Passes (L2N.CX X.prog X.w) X (fun _ _ _ => False) := fun _ _ _ _ _ _ _ ⟨_, _, _, _, _, _, _, _, _, _, _, _, z⟩ => z.elim
theorem passL {X : Cx} {A : Around} {outer : List Env} {s : Shared} {H : Hp} {E : XK} {scope : Scope} {f c : Addr} : Passes (L2N.CX X.prog X.w) (lamCxN X A outer s H E scope f c) E :=
  L2C.passesN (X := lamCxN X A outer s H E scope f c) (L2C.takes_of rfl rfl rfl rfl)
theorem passLC {X : Cx} {A : Around} {outer : List Env} {s : Shared} {H : Hp} {E : XK} {scope : Scope} {f c : Addr} : Passes (L2C.CX X.prog X.w) (lamCxN X A outer s H E scope f c) E :=
  L2C.passes (X := lamCxN X A outer s H E scope f c) (L2C.takes_of rfl rfl rfl rfl)
theorem fourV {a b c d : V} : ([a, b, c, d] : List V).length ≤ sizeLine := by show 4 ≤ sizeLine; decide
theorem fiveV {a b c d e : V} : ([a, b, c, d, e] : List V).length ≤ sizeLine := by show 5 ≤ sizeLine; decide
theorem tabs_set {T : List (Addr × Str)} {H H' : Hp} {D : Addr} {xs : List V} (t : LamX.Tabs T H) (hD : H D = some (.lst xs)) (e : ∀ b o, b ≠ D → H b = some o → H' b = some o) : LamX.Tabs T H' := fun p hp => by
  obtain ⟨ps, h1, h2, h3⟩ := t p hp
  refine ⟨ps, e _ _ (fun z => by rw [z, hD] at h1; cases h1) h1, h2, fun pos cv ec => ?_⟩
  obtain ⟨c, rfl, hc⟩ := h3 pos cv ec
  exact ⟨c, rfl, e _ _ (fun z => by rw [z, hD] at hc; cases hc) hc⟩
theorem passD {P : Program} {w : World} {K : PySem.W.Frag} {mg : Str → Option Value} {base : Heap} {N : List Str} {q : Str} {sc : Scope} {f : Addr} {cdv : Value} {A : Around} {outer : List Env} {s : Shared} {H : Hp} {E : XK} : Passes (L2N.CX P w) (cxOf (L2N.CX P w) P w K mg base N q sc f cdv A outer s H E) E :=
  L2N.passes_call (X := cxOf (L2N.CX P w) P w K mg base N q sc f cdv A outer s H E) (W := fun cls d _ H => E cls d H) (L2N.takes_of rfl rfl rfl rfl) fun _ _ _ _ h => h
/-! ### nested tuples of any form -/
mutual
def tupD : PyData → Bool
  | .tuple xs => tupL xs
  | .none | .bool _ | .int _ | .str _ | .list _ | .dict _ => false
def tupL : List PyData → Bool
  | [] => true
  | x :: xs => tupD x && tupL xs
end
mutual
def ndD : PyData → Nat
  | .tuple xs => ndL xs + 1
  | .none | .bool _ | .int _ | .str _ | .list _ | .dict _ => 1
def ndL : List PyData → Nat
  | [] => 0
  | x :: xs => ndD x + ndL xs
end
def add2 : Option Nat → Option Nat → Option Nat
  | some a, some b => some (a + b)
  | _, _ => none
theorem add2_none (o : Option Nat) : add2 o none = none := by cases o <;> rfl
theorem add2_assoc (a b c : Option Nat) : add2 (add2 a b) c = add2 a (add2 b c) := by
  cases a <;> cases b <;> cases c <;> first | rfl | exact congrArg some (Nat.add_assoc _ _ _)
theorem add2_zero (a : Option Nat) : add2 a (some 0) = a := by cases a <;> rfl
/-- how many generators, where the depth is at most b -/
def szD : Nat → PyData → Option Nat
  | _, .tuple [] => some 1
  | b + 1, .tuple [x, y] => add2 (szD b x) (szD b y)
  | _, _ => none
def okd (d : PyData) : Bool := match szD 6 d with
  | some n => decide (n ≤ 12)
  | none => false
def isPr : PyData → Bool
  | .tuple [_, _] => true
  | _ => false
def isE : PyData → Bool
  | .tuple [] => true
  | _ => false
theorem eqvE {d : PyData} (h : tupD d = true) : PyData.eqv d (.tuple []) = isE d := by
  cases d with
  | tuple xs => cases xs <;> rfl
  | none => exact absurd h (by decide)
  | bool _ => exact absurd h (by simp [tupD])
  | int _ => exact absurd h (by simp [tupD])
  | str _ => exact absurd h (by simp [tupD])
  | list _ => exact absurd h (by simp [tupD])
  | dict _ => exact absurd h (by simp [tupD])
theorem szD_E (b : Nat) : szD b (.tuple []) = some 1 := by cases b <;> rfl
theorem szD_pr (b : Nat) (x y : PyData) : szD (b + 1) (.tuple [x, y]) = add2 (szD b x) (szD b y) := rfl
theorem szD_bad {b : Nat} {d : PyData} (h1 : isE d = false) (h2 : isPr d = false ∨ b = 0) : szD b d = none := by
  cases d with
  | tuple xs =>
    match xs, b, h1, h2 with
    | [], _, h1, _ => exact absurd h1 (by decide)
    | [x, y], 0, _, _ => rfl
    | [x, y], b + 1, _, .inl h => exact Bool.noConfusion h
    | [x], 0, _, _ => rfl
    | [x], b + 1, _, _ => rfl
    | x :: y :: z :: r, 0, _, _ => rfl
    | x :: y :: z :: r, b + 1, _, _ => rfl
  | none => cases b <;> rfl
  | bool _ => cases b <;> rfl
  | int _ => cases b <;> rfl
  | str _ => cases b <;> rfl
  | list _ => cases b <;> rfl
  | dict _ => cases b <;> rfl
def rem : List (V × PyData × Nat) → Option Nat
  | [] => some 0
  | p :: ps => add2 (szD (6 - p.2.2) p.2.1) (rem ps)
theorem rem_app : ∀ ps qs : List (V × PyData × Nat), rem (ps ++ qs) = add2 (rem ps) (rem qs)
  | [], qs => by
    show rem qs = add2 (some 0) (rem qs)
    cases rem qs with
    | none => rfl
    | some n => exact congrArg some (Nat.zero_add n).symm
  | p :: ps, qs => by
    show add2 (szD (6 - p.2.2) p.2.1) (rem (ps ++ qs)) = add2 (add2 (szD (6 - p.2.2) p.2.1) (rem ps)) (rem qs)
    rw [rem_app ps qs, add2_assoc]
theorem rem_snoc (ps : List (V × PyData × Nat)) (p : V × PyData × Nat) : rem (ps ++ [p]) = add2 (rem ps) (szD (6 - p.2.2) p.2.1) := by
  rw [rem_app]
  show add2 (rem ps) (add2 _ (some 0)) = _
  rw [add2_zero]
def fnl (n : Nat) : Option Nat → Bool
  | some m => decide (n + m ≤ 12)
  | none => false
theorem fnl_one (n : Nat) (o : Option Nat) : fnl n (add2 o (some 1)) = fnl (n + 1) o := by
  cases o with
  | none => rfl
  | some m =>
    show decide (n + (m + 1) ≤ 12) = decide (n + 1 + m ≤ 12)
    rw [show n + (m + 1) = n + 1 + m by omega]
theorem fnl_big {n : Nat} (h : 12 < n) (o : Option Nat) : fnl n o = false := by
  cases o with
  | none => rfl
  | some m => exact decide_eq_false (by omega)
theorem okd_fnl (v : V) (d : PyData) : okd d = fnl 0 (rem [(v, d, 0)]) := by
  show okd d = fnl 0 (add2 (szD 6 d) (some 0))
  rw [add2_zero]
  unfold okd
  cases szD 6 d with
  | none => rfl
  | some n =>
    show decide (n ≤ 12) = decide (0 + n ≤ 12)
    rw [Nat.zero_add]
def ndn (ps : List (V × PyData × Nat)) : Nat := (ps.map fun p => ndD p.2.1).sum
theorem ndn_snoc (ps : List (V × PyData × Nat)) (p) : ndn (ps ++ [p]) = ndn ps + ndD p.2.1 := by
  unfold ndn
  rw [List.map_append, List.sum_append]
  simp
theorem ndD_pos : ∀ d : PyData, 0 < ndD d := by
  intro d
  cases d with
  | tuple xs => exact Nat.succ_pos _
  | none => decide
  | bool _ => exact Nat.one_pos
  | int _ => exact Nat.one_pos
  | str _ => exact Nat.one_pos
  | list _ => exact Nat.one_pos
  | dict _ => exact Nat.one_pos
theorem ndn_len : ∀ ps : List (V × PyData × Nat), ps.length ≤ ndn ps
  | [] => Nat.zero_le _
  | p :: ps => by
    have h := ndn_len ps
    have h2 := ndD_pos p.2.1
    show ps.length + 1 ≤ (ndD p.2.1 :: ps.map fun p => ndD p.2.1).sum
    rw [List.sum_cons]
    unfold ndn at h
    omega
/-- a value that is a nested tuple -/
structure NT (K : PySem.W.Frag) (H : Hp) (v : V) (d : PyData) : Prop where
  dp : Dp K H v d
  tup : tupD d = true
  shp : SeqAt.shaped d = true
mutual
theorem dp_tp {K : PySem.W.Frag} {H H' : Hp} (e : Tp H H') : ∀ (d : PyData) {v : V}, tupD d = true → Dp K H v d → Dp K H' v d
  | .tuple ds, _, t, h => by
    cases h with
    | tup hs ha => exact .tup (e.sqT hs) (dpAll_tpD e ds t ha)
  | .none, _, t, _ => absurd t (by decide)
  | .bool _, _, t, _ => absurd t (by simp [tupD])
  | .int _, _, t, _ => absurd t (by simp [tupD])
  | .str _, _, t, _ => absurd t (by simp [tupD])
  | .list _, _, t, _ => absurd t (by simp [tupD])
  | .dict _, _, t, _ => absurd t (by simp [tupD])
theorem dpAll_tpD {K : PySem.W.Frag} {H H' : Hp} (e : Tp H H') : ∀ (ds : List PyData) {vs : List V}, tupL ds = true → DpAll K H vs ds → DpAll K H' vs ds
  | [], _, _, h => by
    cases h
    exact .nil
  | d :: ds, _, t, h => by
    have t' : tupD d = true ∧ tupL ds = true := Bool.and_eq_true_iff.mp t
    cases h with
    | cons h1 h2 => exact .cons (dp_tp e d t'.1 h1) (dpAll_tpD e ds t'.2 h2)
end
theorem NT.tp {K : PySem.W.Frag} {H H' : Hp} {v : V} {d : PyData} (e : Tp H H') (h : NT K H v d) : NT K H' v d := ⟨dp_tp e d h.tup h.dp, h.tup, h.shp⟩
theorem NT.inv {K : PySem.W.Frag} {H : Hp} {v : V} {d : PyData} (h : NT K H v d) : ∃ a xs ds, v = .ref a ∧ d = .tuple ds ∧ SqT K H a xs ∧ DpAll K H xs ds := by
  obtain ⟨h1, h2, _⟩ := h
  cases h1 with
  | tup hs ha => exact ⟨_, _, _, rfl, rfl, hs, ha⟩
  | non => exact absurd h2 (by decide)
  | bl b => exact absurd h2 (by simp [tupD])
  | int i => exact absurd h2 (by simp [tupD])
  | str z => exact absurd h2 (by simp [tupD])
  | lst _ _ => exact absurd h2 (by simp [tupD])
theorem shaped_sub {ds : List PyData} {d : PyData} (h : SeqAt.shaped (.tuple ds) = true) (hm : d ∈ ds) : SeqAt.shaped d = true := by
  have hc : PyData.canLayAll0 ds = true := SeqAt.canLay_of_shaped h
  have hd := SeqAt.depth_of_shaped h
  have hd' : (PyData.tuple ds).depth = PyData.depthAll ds + 1 := rfl
  have hdi := depth_at hm
  unfold SeqAt.shaped
  rw [shaped_at hc hm, decide_eq_true (by omega)]
  rfl
theorem NT.pr {K : PySem.W.Frag} {H : Hp} {v : V} {d : PyData} (h : NT K H v d) (hp : isPr d = true) : ∃ a x y d1 d2, v = .ref a ∧ d = .tuple [d1, d2] ∧ SqT K H a [x, y] ∧ NT K H x d1 ∧ NT K H y d2 := by
  obtain ⟨a, xs, ds, rfl, rfl, hS, hA⟩ := h.inv
  obtain ⟨d1, d2, rfl⟩ : ∃ d1 d2, ds = [d1, d2] := by
    rcases ds with _ | ⟨d1, _ | ⟨d2, _ | ⟨d3, r⟩⟩⟩
    · exact absurd hp (by simp [isPr])
    · exact absurd hp (by simp [isPr])
    · exact ⟨d1, d2, rfl⟩
    · exact absurd hp (by simp [isPr])
  cases hA with
  | cons h1 h2 =>
    cases h2 with
    | cons h2 h3 =>
      cases h3
      have t : (tupD d1 && (tupD d2 && true)) = true := h.tup
      have t1 := Bool.and_eq_true_iff.mp t
      have t2 := Bool.and_eq_true_iff.mp t1.2
      exact ⟨a, _, _, d1, d2, rfl, rfl, hS, ⟨h1, t1.1, shaped_sub h.shp (by simp)⟩, ⟨h2, t2.1, shaped_sub h.shp (by simp)⟩⟩
theorem tree_tup : ∀ t : Tree, tupD t.d = true
  | .L => rfl
  | .N l r => by
    show (tupD l.d && (tupD r.d && true)) = true
    rw [tree_tup l, tree_tup r]
    rfl
theorem tree_nd : ∀ t : Tree, ndD t.d = t.nodes
  | .L => rfl
  | .N l r => by
    show ndD l.d + (ndD r.d + 0) + 1 = l.nodes + r.nodes + 1
    rw [tree_nd l, tree_nd r]
    omega
theorem tree_nodes : ∀ t : Tree, t.nodes + 1 = 2 * t.sz
  | .L => rfl
  | .N l r => by
    have h1 := tree_nodes l
    have h2 := tree_nodes r
    show l.nodes + r.nodes + 1 + 1 = 2 * (l.sz + r.sz)
    omega
theorem tree_szD : ∀ (t : Tree) (b : Nat), szD b t.d = if t.dp ≤ b then some t.sz else none
  | .L, b => by
    show szD b (.tuple []) = if 0 ≤ b then some 1 else none
    rw [if_pos (Nat.zero_le _)]
    exact szD_E b
  | .N l r, 0 => by
    show none = if max l.dp r.dp + 1 ≤ 0 then some (l.sz + r.sz) else none
    rw [if_neg (by omega)]
  | .N l r, b + 1 => by
    show add2 (szD b l.d) (szD b r.d) = if max l.dp r.dp + 1 ≤ b + 1 then some (l.sz + r.sz) else none
    rw [tree_szD l b, tree_szD r b]
    by_cases h1 : l.dp ≤ b
    · by_cases h2 : r.dp ≤ b
      · rw [if_pos h1, if_pos h2, if_pos (by omega)]
        rfl
      · rw [if_neg h2, add2_none, if_neg (show ¬ (max l.dp r.dp + 1 ≤ b + 1) by omega)]
    · rw [if_neg h1, if_neg (show ¬ (max l.dp r.dp + 1 ≤ b + 1) by omega)]
      rfl
theorem tree_okd (t : Tree) : okd t.d = (decide (t.dp ≤ 6) && decide (t.sz ≤ 12)) := by
  unfold okd
  rw [tree_szD]
  by_cases h : t.dp ≤ 6
  · rw [if_pos h, decide_eq_true h]
    rfl
  · rw [if_neg h, decide_eq_false h]
    rfl
theorem szD_tree : ∀ (b : Nat) (d : PyData) (n : Nat), szD b d = some n → ∃ t : Tree, d = t.d ∧ t.sz = n ∧ t.dp ≤ b := by
  intro b
  induction b with
  | zero =>
    intro d n h
    by_cases e : isE d = true
    · cases d with
      | tuple xs =>
        cases xs with
        | nil => exact ⟨.L, rfl, Option.some.inj h, Nat.zero_le _⟩
        | cons _ _ => exact absurd e (by simp [isE])
      | none => exact absurd e (by simp [isE])
      | bool _ => exact absurd e (by simp [isE])
      | int _ => exact absurd e (by simp [isE])
      | str _ => exact absurd e (by simp [isE])
      | list _ => exact absurd e (by simp [isE])
      | dict _ => exact absurd e (by simp [isE])
    · rw [szD_bad (by simpa using e) (.inr rfl)] at h
      cases h
  | succ b ih =>
    intro d n h
    by_cases e : isE d = true
    · cases d with
      | tuple xs =>
        cases xs with
        | nil => exact ⟨.L, rfl, Option.some.inj h, Nat.zero_le _⟩
        | cons _ _ => exact absurd e (by simp [isE])
      | none => exact absurd e (by simp [isE])
      | bool _ => exact absurd e (by simp [isE])
      | int _ => exact absurd e (by simp [isE])
      | str _ => exact absurd e (by simp [isE])
      | list _ => exact absurd e (by simp [isE])
      | dict _ => exact absurd e (by simp [isE])
    · by_cases e2 : isPr d = true
      · cases d with
        | tuple xs =>
          match xs, e2, h with
          | [x, y], _, h =>
            have h0 : add2 (szD b x) (szD b y) = some n := h
            clear h
            cases h1 : szD b x with
            | none => rw [h1] at h0; cases h0
            | some m =>
              cases h2 : szD b y with
              | none => rw [h2, add2_none] at h0; cases h0
              | some k =>
                rw [h1, h2] at h0
                have h' : m + k = n := Option.some.inj h0
                obtain ⟨t1, rfl, q1, r1⟩ := ih x m h1
                obtain ⟨t2, rfl, q2, r2⟩ := ih y k h2
                exact ⟨.N t1 t2, rfl, by show t1.sz + t2.sz = n; omega, by show max t1.dp t2.dp + 1 ≤ b + 1; omega⟩
        | none => exact absurd e2 (by simp [isPr])
        | bool _ => exact absurd e2 (by simp [isPr])
        | int _ => exact absurd e2 (by simp [isPr])
        | str _ => exact absurd e2 (by simp [isPr])
        | list _ => exact absurd e2 (by simp [isPr])
        | dict _ => exact absurd e2 (by simp [isPr])
      · rw [szD_bad (by simpa using e) (.inl (by simpa using e2))] at h
        cases h
theorem okd_tree {d : PyData} (h : okd d = true) : ∃ t : Tree, d = t.d ∧ t.sz ≤ 12 ∧ t.dp ≤ 6 := by
  unfold okd at h
  cases e : szD 6 d with
  | none => rw [e] at h; cases h
  | some n =>
    rw [e] at h
    obtain ⟨t, h1, h2, h3⟩ := szD_tree 6 d n e
    exact ⟨t, h1, by rw [h2]; exact of_decide_eq_true h, h3⟩
theorem NT.of {K : PySem.W.Frag} {H : Hp} {v : V} {t : Tree} (h : TA K H v t) (hd : t.dp ≤ 63) : NT K H v t.d := ⟨h, tree_tup t, Tree.shaped hd⟩
def spIsPairD (K : PySem.W.Frag) : Sp := fun vs H Q _ => ∃ (v : V) (d : PyData), vs = [v] ∧ NT K H v d ∧ Q (.bl (isPr d)) H
def spIsTerm (K : PySem.W.Frag) : Sp := fun vs H Q _ => ∃ (v : V) (d : PyData), vs = [v] ∧ NT K H v d ∧ ndD d ≤ 1000 ∧ ∀ H', Same H H' → Q (.bl (okd d)) H'
/-- check_term: nothing, or the error -/
def spChk (K : PySem.W.Frag) (C : Addr) : Sp := fun vs H Q E => ∃ (v : V) (d : PyData), vs = [v] ∧ NT K H v d ∧ ndD d ≤ 1000 ∧ (okd d = true → ∀ H', Same H H' → Q .non H') ∧ (okd d = false → ∀ H', Same H H' → E (.ref C) none H')
def ItemD (K : PySem.W.Frag) (H : Hp) (p : V × PyData × Nat) : Prop := ∃ (a : Addr) (u : V), p.1 = .ref a ∧ SqT K H a [u, .int p.2.2] ∧ NT K H u p.2.1 ∧ p.2.2 ≤ 6
theorem ItemD.mono {K : PySem.W.Frag} {H H' : Hp} (e : Tp H H') {p : V × PyData × Nat} (h : ItemD K H p) : ItemD K H' p := by
  obtain ⟨a, u, h1, h2, h3, h4⟩ := h
  exact ⟨a, u, h1, e.sqT h2, h3.tp e, h4⟩
/-! ### picking -/
theorem But.sqL {K : PySem.W.Frag} {r l : Addr} {H H' : Hp} {xs : List V} (e : But r H H') (n : l ≠ r) (h : SqL K H l xs) : SqL K H' l xs := by
  rcases h with (h | ⟨o, h⟩) | h
  · exact .inl (.inl (e _ _ n h))
  · exact .inl (.inr ⟨o, e _ _ n h⟩)
  · exact .inr h
theorem But.sqT {K : PySem.W.Frag} {r l : Addr} {H H' : Hp} {xs : List V} (e : But r H H') (n : l ≠ r) (h : SqT K H l xs) : SqT K H' l xs := by
  rcases h with (h | ⟨o, h⟩) | h
  · exact .inl (.inl (e _ _ n h))
  · exact .inl (.inr ⟨o, e _ _ n h⟩)
  · exact .inr h
def spPick (K : PySem.W.Frag) : Sp := fun vs H Q _ => ∃ (r l : Addr) (xs : List V), vs = [.ref r, .ref l] ∧ Rng H r ∧ (SqL K H l xs ∨ SqT K H l xs) ∧ 0 < xs.length ∧ xs.length ≤ 10000 ∧ l ≠ r ∧ ∀ v H', v ∈ xs → Rng H' r → But r H H' → Q v H'
theorem rix_in {K : PySem.W.Frag} {H : Hp} {a : Addr} {xs : List V} {n : Int} {Q : VK} (h : SqL K H a xs ∨ SqT K H a xs) (h0 : 0 ≤ n) (h1 : n < xs.length) (q : ∀ v, v ∈ xs → Q v H) : rIx K (.ref a) (.int n) H Q := by
  have lt : n.toNat < xs.length := by omega
  obtain ⟨v, hi⟩ : ∃ v, xs[n.toNat]? = some v := ⟨_, List.getElem?_eq_getElem lt⟩
  have hq := q v (List.mem_of_getElem? hi)
  have e : atI xs n = some v := by
    have e : n = ((n.toNat : Nat) : Int) := by omega
    rw [e]
    exact atI_nat hi
  rcases h with h | h
  · exact .inl ⟨a, xs, n, v, rfl, rfl, h, e, hq⟩
  · exact .inr (.inl ⟨a, xs, n, v, rfl, rfl, h, e, hq⟩)
/-! ### written nested tuples -/
def Mk (K : PySem.W.Frag) (te : TE) (d : PyData) : Prop := ∀ σ H (Q : VK), (∀ v H', Same H H' → Dp K H' v d → Q v H') → te σ H Q
theorem mk0 {K : PySem.W.Frag} : Mk K (tTup tNil) (.tuple []) := fun σ H Q q => ⟨zero_le', fun p np => q _ _ (Same.new np _) (Dp.tup (SqT.here upd_same) .nil)⟩
theorem mk1 {K : PySem.W.Frag} {e : TE} {d : PyData} (h : Mk K e d) : Mk K (tTup (tCons e tNil)) (.tuple [d]) := fun σ H Q q =>
  h σ H _ fun v H1 s1 h1 => ⟨one_le, fun p np => q _ _ (s1.trans (Same.new np _)) (Dp.tup (SqT.here upd_same) (.cons (dp_same (Same.new np _) _ h1) .nil))⟩
theorem mk2 {K : PySem.W.Frag} {e1 e2 : TE} {d1 d2 : PyData} (h : Mk K e1 d1) (h' : Mk K e2 d2) : Mk K (tTup (tCons e1 (tCons e2 tNil))) (.tuple [d1, d2]) := fun σ H Q q =>
  h σ H _ fun v H1 s1 h1 => h' σ H1 _ fun v2 H2 s2 h2 => ⟨two_le, fun p np => q _ _ ((s1.trans s2).trans (Same.new np _)) (Dp.tup (SqT.here upd_same) (.cons (dp_same (s2.trans (Same.new np _)) _ h1) (.cons (dp_same (Same.new np _) _ h2) .nil)))⟩
theorem mk3 {K : PySem.W.Frag} {e1 e2 e3 : TE} {d1 d2 d3 : PyData} (h : Mk K e1 d1) (h' : Mk K e2 d2) (h'' : Mk K e3 d3) : Mk K (tTup (tCons e1 (tCons e2 (tCons e3 tNil)))) (.tuple [d1, d2, d3]) := fun σ H Q q =>
  h σ H _ fun v H1 s1 h1 => h' σ H1 _ fun v2 H2 s2 h2 => h'' σ H2 _ fun v3 H3 s3 h3 => ⟨by show 3 ≤ sizeLine; decide, fun p np => q _ _ (((s1.trans s2).trans s3).trans (Same.new np _)) (Dp.tup (SqT.here upd_same) (.cons (dp_same ((s2.trans s3).trans (Same.new np _)) _ h1) (.cons (dp_same (s3.trans (Same.new np _)) _ h2) (.cons (dp_same (Same.new np _) _ h3) .nil))))⟩
theorem lst5 {K : PySem.W.Frag} {e1 e2 e3 e4 e5 : TE} {d1 d2 d3 d4 d5 : PyData} (h1 : Mk K e1 d1) (h2 : Mk K e2 d2) (h3 : Mk K e3 d3) (h4 : Mk K e4 d4) (h5 : Mk K e5 d5) {i : Nat} {B : TS} {D : Ends} {σ : L2.St} {H : Hp}
    (q : ∀ a v1 v2 v3 v4 v5 H', Same H H' → H a = none → H' a = some (.lst [v1, v2, v3, v4, v5]) → DpAll K H' [v1, v2, v3, v4, v5] [d1, d2, d3, d4, d5] → B D (σ.set i (some (.ref a))) H') : tSeq (tAsg (tLst (tCons e1 (tCons e2 (tCons e3 (tCons e4 (tCons e5 tNil)))))) (gName i)) B D σ H :=
  h1 σ H _ fun v1 H1 s1 k1 => h2 σ H1 _ fun v2 H2 s2 k2 => h3 σ H2 _ fun v3 H3 s3 k3 => h4 σ H3 _ fun v4 H4 s4 k4 => h5 σ H4 _ fun v5 H5 s5 k5 => ⟨fiveV, fun a na => by
    have sa := Same.new na (.lst [v1, v2, v3, v4, v5])
    exact q a v1 v2 v3 v4 v5 _ (s1.trans (s2.trans (s3.trans (s4.trans (s5.trans sa))))) ((s1.trans (s2.trans (s3.trans (s4.trans s5)))).free na) upd_same
      (.cons (dp_same (s2.trans (s3.trans (s4.trans (s5.trans sa)))) _ k1) (.cons (dp_same (s3.trans (s4.trans (s5.trans sa))) _ k2) (.cons (dp_same (s4.trans (s5.trans sa)) _ k3) (.cons (dp_same (s5.trans sa) _ k4) (.cons (dp_same sa _ k5) .nil)))))⟩
/-- a value that no term is -/
def BadV (K : PySem.W.Frag) (H : Hp) (v : V) : Prop := ∃ d, NT K H v d ∧ ndD d ≤ 1000 ∧ okd d = false
theorem BadV.tp {K : PySem.W.Frag} {H H' : Hp} {v : V} (e : Tp H H') (h : BadV K H v) : BadV K H' v := by
  obtain ⟨d, h1, h2⟩ := h
  exact ⟨d, h1.tp e, h2⟩
def spBadT (K : PySem.W.Frag) : Sp := fun vs H Q _ => ∃ r : Addr, vs = [.ref r] ∧ Rng H r ∧ ∀ v H', BadV K H' v → Rng H' r → But r H H' → Q v H'
theorem BadV.tree {K : PySem.W.Frag} {H : Hp} {v : V} {t : Tree} (h : TA K H v t) (hd : t.dp ≤ 63) (hz : t.sz ≤ 100) (no : 6 < t.dp ∨ 12 < t.sz) : BadV K H v := by
  have e := tree_nodes t
  refine ⟨t.d, NT.of h hd, by rw [tree_nd]; omega, ?_⟩
  rw [tree_okd]
  rcases no with no | no
  · rw [decide_eq_false (by omega)]
    rfl
  · rw [decide_eq_false (show ¬ t.sz ≤ 12 by omega), Bool.and_false]
section OPN
open PySem.Spec PyProof.Rows
/-! ### t[::-1] -/
section
variable {prog : Program} {w : World} {A : Around} {E : Value → Shared → Prop} {s : Shared}
theorem sliceApplied_rev {sl : Addr} {vs : Value} {n : Nat} {Q : Int × Int × Nat → Shared → Prop} (hs : s.heap.IsSliceOf sl .none .none vs) (ps : IsPart vs (some (-1))) (h : Q ((n : Int) - 1, -1, n) s) : wpAny (model prog w) A (Builtin.Slice.sliceApplied (.ref sl) (pure (n : Int))) Q E s := by
  obtain ⟨os, hos, hcs, hds⟩ := id hs
  unfold Builtin.Slice.sliceApplied Builtin.Slice.sliceFields
  refine wpAny_bind (wpAny_bind (wpAny_field hos hds (x := .none) rfl (wpAny_bind (wpAny_field hos hds (x := .none) rfl (wpAny_bind (wpAny_field hos hds (x := vs) rfl (wpAny_pure ?_)))))))
  refine wpAny_bind (HT.slicePart_ ps ?_)
  show wpAny _ _ (if ((-1 : Int) == 0) = true then _ else _) _ _ s
  rw [if_neg (by decide)]
  refine wpAny_bind (HT.slicePart_ .none (wpAny_bind (HT.slicePart_ .none (wpAny_bind (wpAny_pure ?_)))))
  show wpAny _ _ (pure ((n : Int) - 1, (-1 : Int), Builtin.Slice.slicePlaces ((n : Int) - 1) (-1) (-1))) _ _ s
  have e : Builtin.Slice.slicePlaces ((n : Int) - 1) (-1) (-1) = n := by
    unfold Builtin.Slice.slicePlaces
    have h1 : ¬ ((-1 : Int) > 0) := by decide
    rw [if_neg h1, show (- -1 : Int) = 1 by decide]
    simp only [Int.ediv_one]
    split <;> omega
  rw [e]
  exact wpAny_pure h
theorem pick_rev (xs : Array Value) : ((List.range xs.size).filterMap fun (m : Nat) => xs[(((xs.size : Nat) : Int) - 1 + (m : Int) * -1).toNat]?).toArray = xs.toList.reverse.toArray := by
  congr 1
  rw [← PySem.W.krv_all xs, ← List.filterMap_reverse, ← PySem.W.krv_range, List.filterMap_map]
  have key : ∀ l : List Nat, (∀ m ∈ l, m < xs.size) → l.filterMap (fun (m : Nat) => xs[(((xs.size : Nat) : Int) - 1 + (m : Int) * -1).toNat]?) = l.filterMap ((fun x => xs[x]?) ∘ fun k => xs.size - 1 - k) := by
    intro l
    induction l with
    | nil => intro _; rfl
    | cons a r ih =>
      intro h
      have ha := h a List.mem_cons_self
      rw [List.filterMap_cons, List.filterMap_cons, ih fun m hm => h m (List.mem_cons_of_mem _ hm)]
      have e : (((xs.size : Nat) : Int) - 1 + (a : Int) * -1).toNat = xs.size - 1 - a := by omega
      rw [e]
      rfl
  exact key _ fun m hm => List.mem_range.mp hm
theorem getItem_tuple_rev {t sl : Addr} {items : Array Value} {vs : Value} {Q : Value → Shared → Prop} (ht : IsTup s.heap t items) (hs : s.heap.IsSliceOf sl .none .none vs) (ps : IsPart vs (some (-1)))
    (h : Q (.ref s.heap.objs.size) { s with heap := s.heap.push { cls := .type "tuple", data := .seq items.toList.reverse.toArray } })
    (hsz : items.size ≤ sizeLine) : wpAny (model prog w) A (getItem (.ref t) (.ref sl)) Q E s := by
  have htake : sizeOk (.seq items.toList.reverse.toArray) := by
    show items.toList.reverse.toArray.size ≤ sizeLine
    rw [List.size_toArray, List.length_reverse, Array.length_toList]
    exact hsz
  obtain ⟨os, hos, hcs, hds⟩ := id hs
  have hTs : s.TypeIs (.ref sl) "slice" := ⟨os, hos, hcs⟩
  unfold getItem
  try with_reducible refine wpAny_holding ?_
  first | refine wpAny_bind (wpAny_pure ?_) | skip
  refine wpAny_bind (wpAny_sequenceKey ht.typeIs (by decide) ?_)
  refine wpAny_bind (wpAny_callSpecial?_slot (name := Str.ofString "__getitem__") ht.typeIs PyProof.Rows.slot_tuple_getitem
    (wpAny_call_entry PyProof.Rows.slot_tuple_getitem ht.typeIs entry_tuple_getitem ?_ (args_tuple_getitem _ _)))
  show wpAny _ _ (Builtin.Tuple.tupleItemsOf (.ref t) >>= _) _ _ s
  refine wpAny_bind (tupleItemsOf_ ht ?_)
  refine wpAny_bind (wpAny_typeOf hTs ?_)
  rw [if_pos (by decide)]
  refine wpAny_bind (sliceApplied_rev hs ps ?_)
  have hno : ¬ ((((items.size : Nat) : Int) - 1 == 0 && (-1 : Int) == 1 && items.size == items.size) = true) := by
    intro q
    rw [Bool.and_eq_true, Bool.and_eq_true] at q
    exact absurd q.1.2 (by decide)
  show wpAny _ _ (if (((items.size : Nat) : Int) - 1 == 0 && (-1 : Int) == 1 && items.size == items.size) = true then _ else _) _ _ s
  rw [if_neg hno, pick_rev]
  first
    | exact wpAny_bind (m := Builtin.Tuple.tupleExact _) (wpAny_newObj_type (wpAny_pure ⟨_, rfl, wpAny_pure h⟩) htake)
    | exact wpAny_bind (m := Builtin.Tuple.tupleExact _) (wpAny_newObj_type (wpAny_bind (wpAny_pure (wpAny_pure ⟨_, rfl, wpAny_pure h⟩))) htake)
    | exact wpAny_bind (wpAny_bind (m := Builtin.Tuple.tupleExact _) (wpAny_newObj_type (wpAny_pure (wpAny_pure ⟨_, rfl, wpAny_pure h⟩)) htake))
    | exact wpAny_bind (wpAny_bind (m := Builtin.Tuple.tupleExact _) (wpAny_newObj_type (wpAny_pure ⟨_, rfl, wpAny_pure h⟩) htake))
end
def tRevT (K : PySem.W.Frag) (te : TE) : TE := fun σ H Q => te σ H fun x H1 => ∃ a xs, x = .ref a ∧ SqT K H1 a xs ∧ ∀ p, H1 p = none → Q (.ref p) (upd H1 p (.tup xs.reverse))
theorem pe_revT {X : Cx} {e : Expr} {te : TE} {k : Nat} {p1 p2 p3 pos : Pos} (he : PE X e te) : PE X (.Subscript e (.Slice none none (some (.UnaryOp .USub (.Constant (.int 1) k p1) p2)) p3) pos) (tRevT X.K te) := by
  refine ⟨fun pins s σ H Q I h => ?_⟩
  refine Subscript_ (thn (he.run pins s σ H _ I h) fun v s1 ⟨x, H1, I1, r1, q1⟩ => ?_)
  obtain ⟨a, xs, ex, hx, q⟩ := q1
  subst ex
  cases r1
  have hst : PO X (some (.UnaryOp .USub (.Constant (.int 1) k p1) p2)) (tPart (tUn (rU fun i => .int (-i)) (tC (.int 1)))) := po_some (pe_un un_neg pe_int)
  refine wpAny_Slice (thn (po_none.run pins s1 σ H1 (fun o H2 => o = none ∧ H2 = H1) I1 ⟨rfl, rfl⟩) fun vl s2 ⟨l, H2, I2, pl, el, e2⟩ => ?_)
  subst el e2
  refine thn (po_none.run pins s2 σ H2 (fun o H3 => o = none ∧ H3 = H2) I2 ⟨rfl, rfl⟩) fun vu s3 ⟨u, H3, I3, pu, eu, e3⟩ => ?_
  subst eu e3
  refine thn (hst.run pins s3 σ H3 (fun o H4 => o = some (-1) ∧ H4 = H3) I3 ⟨1, rfl, -1, rfl, rfl, rfl⟩) fun vs s4 ⟨o, H4, I4, ps, eo, e4⟩ => ?_
  subst eo e4
  cases pl
  cases pu
  have I5 : Inv X pins σ H4 { s4 with heap := s4.heap.push { cls := .type "slice", data := .fields #[.none, .none, vs] } } := I4.kept (t' := s4.toks) fun b ob q => Heap.get?_push_of_some _ q
  obtain ⟨its, r, ht, hz⟩ := I5.tuple hx
  have hlen := r.length
  show wpAny (model X.prog X.w) X.A (subscriptTail e (.Slice none none (some (.UnaryOp .USub (.Constant (.int 1) k p1) p2)) p3) (.ref a) (.ref s4.heap.objs.size)) (EP X pins σ Q) X.xe { s4 with heap := s4.heap.push { cls := .type "slice", data := .fields #[.none, .none, vs] } }
  refine tail_any (ops := [.ref a, .ref s4.heap.objs.size]) ht.typeIs (PyProof.Rows.slot_tuple_getitem.lookup) ?_ (by with_unfolding_all rfl)
  refine getItem_tuple_rev ht (Heap.IsSliceOf.new _ .none .none vs) ps ?_ (by rw [List.size_toArray]; omega)
  refine ⟨.ref _, _, I5.laid (t' := s4.toks) (o := .tup xs.reverse) (fun b ob q => Heap.get?_push_of_some _ q) (Nat.le_refl _) ?_, rfl, q _ (I5.hok.fresh (Nat.le_refl _))⟩
  exact ⟨by rw [List.length_reverse]; exact hz, _, r.reverse, IsTup.new _ _⟩
/-! ### comprehensions that map -/
theorem take_snoc {α : Type} {l : List α} {i : Nat} {x : α} (h : l[i]? = some x) : l.take (i + 1) = l.take i ++ [x] := by
  rw [List.take_add_one, h]
  rfl
section
variable {K : PySem.W.Frag} {a : Addr} {xs : List V} {ψ : V → V} {g : TG} {te : TE} {vs : List Nat} {σ : L2.St} {H1 : Hp} {D : Addr} {Qd : Hp → Prop}
theorem lc_mapT (hD : H1 D = none) (hS : SqT K H1 a xs) (hl : xs.length ≤ 10000)
    (hs : ∀ x G (R : V → Hp → Prop), x ∈ xs → Same H1 G → (∀ H4, Same G H4 → R (ψ x) H4) → g x (wipe σ vs) G fun σ2 H2 => wipe σ2 vs = wipe σ vs ∧ te σ2 H2 R)
    (hd : ∀ G, Same H1 G → G D = some (.lst (xs.map ψ)) → Qd G) :
    ∃ W : Nat → Nat → Hp → Prop, (∃ m, W 0 m (upd H1 D (.lst []))) ∧ ∀ i m H, W i m H →
      ((Itt K a).stop i H ∧ Qd H) ∨ ((Itt K a).go i H ∧ ∃ Nx : Hp → Prop, (∀ H', Nx H' → ∃ m', m' < m ∧ W (i + 1) m' H') ∧ ∀ x H', (Itt K a).yld i H x H' → g x (wipe σ vs) H' fun σ2 H2 => wipe σ2 vs = wipe σ vs ∧ tYes σ2 H2 fun b H3 =>
        if b = true then te σ2 H3 fun y H4 => ∃ acc, H4 D = some (.lst acc) ∧ acc.length < sizeLine ∧ Nx (upd H4 D (.lst (acc ++ [y]))) else Nx H3) := by
  refine lc_tup (K := K) (a := a) (xs := xs) (tt := tYes) (fun i G => Same H1 G ∧ G D = some (.lst ((xs.take i).map ψ))) ⟨Same.new hD _, upd_same⟩ (fun i G _ z => (Tp.same z.1).sqT hS) ?_ ?_
  · rintro i x G hi ⟨sm, hl2⟩
    refine hs x G _ (List.mem_of_getElem? hi) sm fun H4 s4 => ⟨_, s4 _ _ hl2, ?_, fun b o z => ?_, ?_⟩
    · have := (List.getElem?_eq_some_iff.mp hi).1
      rw [List.length_map, List.length_take]
      exact Nat.lt_of_lt_of_le (by omega : _ < 10001) (by decide)
    · rw [upd_ne (ne_of_none z hD)]
      exact s4 _ _ (sm _ _ z)
    · rw [upd_same, take_snoc hi, List.map_append]
      rfl
  · rintro G ⟨sm, h⟩
    rw [List.take_of_length_le (Nat.le_refl _)] at h
    exact hd G sm h
theorem lc_mapL (hD : H1 D = none) (hS : SqL K H1 a xs) (hl : xs.length ≤ 10000)
    (hs : ∀ x G (R : V → Hp → Prop), x ∈ xs → Same H1 G → (∀ H4, Same G H4 → R (ψ x) H4) → g x (wipe σ vs) G fun σ2 H2 => wipe σ2 vs = wipe σ vs ∧ te σ2 H2 R)
    (hd : ∀ G, Same H1 G → G D = some (.lst (xs.map ψ)) → Qd G) :
    ∃ W : Nat → Nat → Hp → Prop, (∃ m, W 0 m (upd H1 D (.lst []))) ∧ ∀ i m H, W i m H →
      ((Itl K a).stop i H ∧ Qd H) ∨ ((Itl K a).go i H ∧ ∃ Nx : Hp → Prop, (∀ H', Nx H' → ∃ m', m' < m ∧ W (i + 1) m' H') ∧ ∀ x H', (Itl K a).yld i H x H' → g x (wipe σ vs) H' fun σ2 H2 => wipe σ2 vs = wipe σ vs ∧ tYes σ2 H2 fun b H3 =>
        if b = true then te σ2 H3 fun y H4 => ∃ acc, H4 D = some (.lst acc) ∧ acc.length < sizeLine ∧ Nx (upd H4 D (.lst (acc ++ [y]))) else Nx H3) := by
  refine lc_list (K := K) (a := a) (xs := xs) (tt := tYes) (fun i G => Same H1 G ∧ G D = some (.lst ((xs.take i).map ψ))) ⟨Same.new hD _, upd_same⟩ (fun i G _ z => z.1.seq hS) ?_ ?_
  · rintro i x G hi ⟨sm, hl2⟩
    refine hs x G _ (List.mem_of_getElem? hi) sm fun H4 s4 => ⟨_, s4 _ _ hl2, ?_, fun b o z => ?_, ?_⟩
    · have := (List.getElem?_eq_some_iff.mp hi).1
      rw [List.length_map, List.length_take]
      exact Nat.lt_of_lt_of_le (by omega : _ < 10001) (by decide)
    · rw [upd_ne (ne_of_none z hD)]
      exact s4 _ _ (sm _ _ z)
    · rw [upd_same, take_snoc hi, List.map_append]
      rfl
  · rintro G ⟨sm, h⟩
    rw [List.take_of_length_le (Nat.le_refl _)] at h
    exact hd G sm h
theorem lc_mapRT (hD : H1 D = none) (hS : SqT K H1 a xs) (hl : xs.length ≤ 10000)
    (hs : ∀ x G (R : V → Hp → Prop), x ∈ xs → Same H1 G → (∀ H4, Same G H4 → R (ψ x) H4) → g x (wipe σ vs) G fun σ2 H2 => wipe σ2 vs = wipe σ vs ∧ te σ2 H2 R)
    (hd : ∀ G, Same H1 G → G D = some (.lst (xs.reverse.map ψ)) → Qd G) :
    ∃ W : Nat → Nat → Hp → Prop, (∃ m, W 0 m (upd H1 D (.lst []))) ∧ ∀ i m H, W i m H →
      ((RT.ItvT K a xs.length).stop i H ∧ Qd H) ∨ ((RT.ItvT K a xs.length).go i H ∧ ∃ Nx : Hp → Prop, (∀ H', Nx H' → ∃ m', m' < m ∧ W (i + 1) m' H') ∧ ∀ x H', (RT.ItvT K a xs.length).yld i H x H' → g x (wipe σ vs) H' fun σ2 H2 => wipe σ2 vs = wipe σ vs ∧ tYes σ2 H2 fun b H3 =>
        if b = true then te σ2 H3 fun y H4 => ∃ acc, H4 D = some (.lst acc) ∧ acc.length < sizeLine ∧ Nx (upd H4 D (.lst (acc ++ [y]))) else Nx H3) := by
  refine ⟨fun i m G => m = xs.length - i ∧ i ≤ xs.length ∧ Same H1 G ∧ G D = some (.lst ((xs.reverse.take i).map ψ)), ⟨_, rfl, Nat.zero_le _, Same.new hD _, upd_same⟩, ?_⟩
  rintro i m G ⟨rfl, hi, sm, hl2⟩
  rcases Nat.lt_or_ge i xs.length with lt | ge
  · have hS' := (Tp.same sm).sqT hS
    have lt' : xs.length - 1 - i < xs.length := by omega
    have hx : xs[xs.length - 1 - i]? = some xs[xs.length - 1 - i] := List.getElem?_eq_getElem lt'
    have hr : xs.reverse[i]? = some xs[xs.length - 1 - i] := by rw [List.getElem?_reverse lt]; exact hx
    refine .inr ⟨⟨lt, xs, _, hS', hx⟩, fun G => Same H1 G ∧ G D = some (.lst ((xs.reverse.take (i + 1)).map ψ)), fun H' z => ⟨_, (by omega : xs.length - (i + 1) < xs.length - i), rfl, by omega, z.1, z.2⟩, ?_⟩
    rintro x G' ⟨rfl, hy⟩
    have ex := (hy xs hS').symm.trans hx
    cases ex
    refine hs _ G' _ (List.getElem_mem lt') sm fun H4 s4 => ⟨_, s4 _ _ hl2, ?_, fun b o z => ?_, ?_⟩
    · rw [List.length_map, List.length_take, List.length_reverse]
      exact Nat.lt_of_lt_of_le (by omega : _ < 10001) (by decide)
    · rw [upd_ne (ne_of_none z hD)]
      exact s4 _ _ (sm _ _ z)
    · rw [upd_same, take_snoc hr, List.map_append]
      rfl
  · refine .inl ⟨ge, hd G sm ?_⟩
    rw [hl2, List.take_of_length_le (by rw [List.length_reverse]; exact ge)]
end
/-! ### words -/
def ab (n : Int) : Int := if n < 0 then -n else n
def isLet (n : Int) : Bool := decide (n ≠ 0) && decide (ab n ≤ 40)
def okW (ns : List Int) : Bool := decide (ns.length ≤ 300) && ns.all isLet
def inv (ns : List Int) : List Int := ns.reverse.map fun n => -n
def sgn (m l : Int) : Int := if 0 < l then m else -m
def shf (k : Int) (ns : List Int) : List Int := ns.map fun n => sgn (ab n + k) n
abbrev WT (K : PySem.W.Frag) (H : Hp) (a : Addr) (ns : List Int) : Prop := SqT K H a (ns.map V.int)
theorem cat_ok {K : PySem.W.Frag} {H : Hp} {a b : Addr} {xs ys : List V} {Q : VK} (ha : SqT K H a xs) (hb : SqT K H b ys) (hl : xs.length + ys.length ≤ sizeLine) (q : ∀ p H', Same H H' → SqT K H' p (xs ++ ys) → Q (.ref p) H') : rCatA K (.ref a) (.ref b) H Q := by
  refine ⟨a, b, xs, ys, rfl, rfl, ha, hb, hl, fun e => ?_, fun _ e => ?_, fun _ _ p np => ?_⟩
  · subst e
    exact q b H (Same.refl _) hb
  · subst e
    exact q a H (Same.refl _) (by rw [List.append_nil]; exact ha)
  · exact q p _ (Same.new np _) (SqT.here upd_same)
def vInt : V → Int
  | .int n => n
  | _ => 0
theorem map_int {ψ : Int → V} (ns : List Int) : (ns.map V.int).map (fun v => ψ (vInt v)) = ns.map ψ := by
  rw [List.map_map]
  rfl
theorem mem_int {ns : List Int} {x : V} (h : x ∈ ns.map V.int) : ∃ n, n ∈ ns ∧ x = .int n := by
  obtain ⟨n, h1, h2⟩ := List.mem_map.mp h
  exact ⟨n, h1, h2.symm⟩
def spLet : Sp := fun vs H Q _ => ∃ n : Int, vs = [.int n] ∧ Q (.bl (isLet n)) H
def spAre (K : PySem.W.Frag) : Sp := fun vs H Q _ => ∃ (a : Addr) (ns : List Int), vs = [.ref a] ∧ WT K H a ns ∧ ns.length ≤ 10000 ∧ ∀ H', Same H H' → Q (.bl (ns.all isLet)) H'
def spChkW (K : PySem.W.Frag) (C : Addr) : Sp := fun vs H Q E => ∃ (a : Addr) (ns : List Int), vs = [.ref a] ∧ WT K H a ns ∧ ns.length ≤ 10000 ∧ (okW ns = true → ∀ H', Same H H' → Q .non H') ∧ (okW ns = false → ∀ H', Same H H' → E (.ref C) none H')
/-- a def over one word that gives a new one -/
def spWW (K : PySem.W.Frag) (φ : List Int → List Int) : Sp := fun vs H Q _ => ∃ (a : Addr) (ns : List Int), vs = [.ref a] ∧ WT K H a ns ∧ ns.length ≤ 10000 ∧ ∀ p H', Same H H' → WT K H' p (φ ns) → Q (.ref p) H'
def spSgn : Sp := fun vs H Q _ => ∃ m l : Int, vs = [.int m, .int l] ∧ Q (.int (sgn m l)) H
def spShf (K : PySem.W.Frag) : Sp := fun vs H Q _ => ∃ (a : Addr) (ns : List Int) (k : Int), vs = [.ref a, .int k] ∧ WT K H a ns ∧ ns.length ≤ 10000 ∧ ∀ p H', Same H H' → WT K H' p (shf k ns) → Q (.ref p) H'
/-- inverse: the word, or the error -/
def spInvE (K : PySem.W.Frag) (C : Addr) : Sp := fun vs H Q E => ∃ (a : Addr) (ns : List Int), vs = [.ref a] ∧ WT K H a ns ∧ ns.length ≤ 10000 ∧ (okW ns = true → ∀ p H', Same H H' → WT K H' p (inv ns) → Q (.ref p) H') ∧ (okW ns = false → ∀ H', Same H H' → E (.ref C) none H')
/-- shifted: the word, or the first error -/
def spShfE (K : PySem.W.Frag) (CW CS : Addr) : Sp := fun vs H Q E => ∃ (a : Addr) (ns : List Int) (k : Int), vs = [.ref a, .int k] ∧ WT K H a ns ∧ ns.length ≤ 10000 ∧ (okW ns = true → 0 ≤ k → k ≤ 20 → (shf k ns).all isLet = true → ∀ p H', Same H H' → WT K H' p (shf k ns) → Q (.ref p) H') ∧
  (okW ns = false → ∀ H', Same H H' → E (.ref CW) none H') ∧ (okW ns = true → ¬ (0 ≤ k ∧ k ≤ 20) → ∀ H', Same H H' → E (.ref CS) none H') ∧ (okW ns = true → 0 ≤ k → k ≤ 20 → (shf k ns).all isLet = false → ∀ H', Same H H' → E (.ref CW) none H')
/-- the law's sign, step by sign -/
def lsg (n : Int) : Int := if 0 < n then 1 else -1
theorem shf_law (k n : Int) : n + k * lsg n = sgn (ab n + k) n := by
  unfold lsg sgn ab
  by_cases h : 0 < n
  · rw [if_pos h, if_pos h, if_neg (by omega), Int.mul_one]
  · rw [if_neg h, if_neg h]
    by_cases h2 : n < 0
    · rw [if_pos h2, Int.mul_neg, Int.mul_one]
      omega
    · rw [if_neg h2, Int.mul_neg, Int.mul_one]
      omega
def spSign : Sp := fun vs H Q _ => ∃ n : Int, vs = [.int n] ∧ Q (.int (lsg n)) H
/-- the law's own shift: a step below 2 ^ 64 -/
def spShfL (K : PySem.W.Frag) : Sp := fun vs H Q _ => ∃ (a : Addr) (ns : List Int) (k : Int), vs = [.ref a, .int k] ∧ WT K H a ns ∧ ns.length ≤ 10000 ∧ -1000 ≤ k ∧ k ≤ 1000 ∧ ∀ p H', Same H H' → WT K H' p (shf k ns) → Q (.ref p) H'
theorem shf_len (k : Int) (ns : List Int) : (shf k ns).length = ns.length := by unfold shf; rw [List.length_map]
theorem inv_len (ns : List Int) : (inv ns).length = ns.length := by unfold inv; rw [List.length_map, List.length_reverse]
structure BltW (mg : Str → Option Value) : Prop where
  abs : mg "abs" = none
  reversed : mg "reversed" = none
  any : mg "any" = none
structure CstW (mg : Str → Option Value) : Prop where
  MAX_LETTER : ∃ t, mg "MAX_LETTER" = some (.int 40 t)
  MAX_LETTERS : ∃ t, mg "MAX_LETTERS" = some (.int 300 t)
end OPN
section WDT
def wD (ns : List Int) : PyData := .tuple (ns.map .int)
theorem dp_ints {K : PySem.W.Frag} {H : Hp} : ∀ ns : List Int, DpAll K H (ns.map V.int) (ns.map PyData.int)
  | [] => .nil
  | n :: ns => .cons (.int n) (dp_ints ns)
theorem dp_wt {K : PySem.W.Frag} {H : Hp} {p : Addr} {ns : List Int} (h : WT K H p ns) : Dp K H (.ref p) (wD ns) := Dp.tup h (dp_ints ns)
theorem lay_ints : ∀ ns : List Int, PyData.canLayAll0 (ns.map .int) = true
  | [] => rfl
  | n :: ns => by
    show (PyData.canLay0 (.int n) && PyData.canLayAll0 (ns.map .int)) = true
    rw [lay_ints ns]
    rfl
theorem depth_ints : ∀ ns : List Int, PyData.depthAll (ns.map .int) ≤ 1
  | [] => Nat.zero_le _
  | n :: ns => by
    have h := depth_ints ns
    have e : (PyData.int n).depth ≤ 1 := by first | exact Nat.le_refl _ | exact Nat.zero_le _
    show max (PyData.int n).depth (PyData.depthAll (ns.map .int)) ≤ 1
    omega
theorem wD_depth (ns : List Int) : (wD ns).depth ≤ 2 := by
  have h := depth_ints ns
  show PyData.depthAll (ns.map .int) + 1 ≤ 2
  omega
theorem wD_shaped (ns : List Int) : SeqAt.shaped (wD ns) = true := by
  have h := wD_depth ns
  unfold SeqAt.shaped
  rw [show (wD ns).canLay0 = PyData.canLayAll0 (ns.map .int) from rfl, lay_ints, decide_eq_true (by omega)]
  rfl
theorem wide_ints : ∀ ns : List Int, wideAll (ns.map .int) = true
  | [] => rfl
  | n :: ns => by
    show (wide (.int n) && wideAll (ns.map .int)) = true
    rw [wide_ints ns]
    rfl
theorem wD_wide {ns : List Int} (h : ns.length ≤ 1000) : wide (wD ns) = true := by
  show (decide ((ns.map PyData.int).length ≤ 1000) && wideAll (ns.map .int)) = true
  rw [List.length_map, decide_eq_true h, wide_ints]
  rfl
/-- the same word twice -/
theorem same_w {K : PySem.W.Frag} {H : Hp} {p q : Addr} {ns : List Int} {Q : VK} {E : XK} (h1 : WT K H p ns) (h2 : WT K H q ns) (hl : ns.length ≤ 1000) (k : ∀ H', Same H H' → Q (.bl true) H') : spSame K 12 [.ref p, .ref q] H Q E :=
  ⟨_, _, wD ns, rfl, dp_wt h1, dp_wt h2, wD_shaped ns, by have := wD_depth ns; omega, wD_wide hl, k⟩
theorem ne_w {K : PySem.W.Frag} {H : Hp} {p q : Addr} {ns : List Int} {Q : VK} (h1 : WT K H p ns) (h2 : WT K H q ns) (k : Q (.bl false) H) : rNeD K (.ref p) (.ref q) H Q := by
  refine ⟨wD ns, wD ns, dp_wt h1, dp_wt h2, wD_shaped ns, wD_shaped ns, ?_⟩
  rw [SeqAt.eqv_refl _ (SeqAt.canLay_of_shaped (wD_shaped ns))]
  exact k
theorem eq_w {K : PySem.W.Frag} {H : Hp} {p q : Addr} {ns : List Int} {Q : VK} (h1 : WT K H p ns) (h2 : WT K H q ns) (k : Q (.bl true) H) : rEqD K (.ref p) (.ref q) H Q := by
  refine ⟨wD ns, wD ns, dp_wt h1, dp_wt h2, wD_shaped ns, wD_shaped ns, ?_⟩
  rw [SeqAt.eqv_refl _ (SeqAt.canLay_of_shaped (wD_shaped ns))]
  exact k
end WDT
theorem Tp.extN {H H' : Hp} (e : LamX.ExtN H H') : Tp H H' := fun b xs h => by
  rcases h with h | ⟨o, h⟩
  · exact .inl (e _ _ h (fun _ => by intro y; cases y))
  · exact .inr ⟨o, e _ _ h (fun _ => by intro y; cases y)⟩
theorem Rng.extN {H H' : Hp} {r : Addr} (e : LamX.ExtN H H') (h : Rng H r) : Rng H' r := by
  obtain ⟨c, ns, i, b, s, h1, h2, h3⟩ := h
  exact ⟨c, ns, i, b, s, e _ _ h1 (fun _ => by intro y; cases y), e _ _ h2 (fun _ => by intro y; cases y), h3⟩
theorem tabs1 {Pt : Addr} {q : Str} {H : Hp} (h : H Pt = some (.tbl #[])) : LamX.Tabs [(Pt, q)] H := fun p hp => by
  rw [List.mem_singleton.mp hp]
  exact ⟨#[], h, by trivial, fun _ _ z => (nomatch z)⟩
/-- an error's word and no field -/
def eD (j : Nat) : PyData := .tuple [.str (en j), .none]
theorem eD_shaped : ∀ j < 20, SeqAt.shaped (eD j) = true := by decide +kernel
theorem eq_e {K : PySem.W.Frag} {H : Hp} {p q : Addr} {j : Nat} {Q : VK} (hj : j < 20) (h1 : SqT K H p [.str (en j), .non]) (h2 : SqT K H q [.str (en j), .non]) (k : Q (.bl true) H) : rEqD K (.ref p) (.ref q) H Q := by
  refine ⟨eD j, eD j, Dp.tup h1 (.cons (.str _) (.cons .non .nil)), Dp.tup h2 (.cons (.str _) (.cons .non .nil)), eD_shaped j hj, eD_shaped j hj, ?_⟩
  rw [SeqAt.eqv_refl _ (SeqAt.canLay_of_shaped (eD_shaped j hj))]
  exact k
/-! ### the word of a term -/
def wd : Tree → List Int
  | .L => []
  | .N l r => ((wd l ++ shf 1 (wd r)) ++ [1]) ++ shf 1 (inv (wd l))
def lwd : Tree → List Int
  | .L => []
  | .N l r => ((lwd l ++ shf 1 (lwd r)) ++ [1]) ++ inv (shf 1 (lwd l))
theorem wd_lenN (l r : Tree) : (wd (.N l r)).length = 2 * (wd l).length + (wd r).length + 1 := by
  show (((wd l ++ shf 1 (wd r)) ++ [1]) ++ shf 1 (inv (wd l))).length = _
  rw [List.length_append, List.length_append, List.length_append, shf_len, shf_len, inv_len, List.length_singleton]
  omega
def wtab : List (List Nat) := [[0, 0, 0, 0, 0, 0, 0, 0, 0, 0, 0, 0, 0], [0, 0, 1, 1, 1, 1, 1, 1, 1, 1, 1, 1, 1], [0, 0, 1, 3, 4, 4, 4, 4, 4, 4, 4, 4, 4], [0, 0, 1, 3, 7, 9, 10, 12, 13, 13, 13, 13, 13], [0, 0, 1, 3, 7, 15, 19, 21, 25, 27, 28, 32, 34], [0, 0, 1, 3, 7, 15, 31, 39, 43, 51, 55, 57, 65], [0, 0, 1, 3, 7, 15, 31, 63, 79, 87, 103, 111, 115]]
def wt (d n : Nat) : Nat := (wtab.getD d []).getD n 0
theorem wt_all : ((List.range 6).all fun d => (List.range 12).all fun a => (List.range 12).all fun b => decide (0 < a → 0 < b → a + b ≤ 12 → 2 * wt d a + wt d b + 1 ≤ wt (d + 1) (a + b))) = true := by decide +kernel
theorem wt_step (d : Nat) (hd : d < 6) (a : Nat) (ha : a < 12) (b : Nat) (hb : b < 12) : 0 < a → 0 < b → a + b ≤ 12 → 2 * wt d a + wt d b + 1 ≤ wt (d + 1) (a + b) := by
  have h1 := List.all_eq_true.mp wt_all d (List.mem_range.mpr hd)
  have h2 := List.all_eq_true.mp h1 a (List.mem_range.mpr ha)
  have h3 := List.all_eq_true.mp h2 b (List.mem_range.mpr hb)
  exact of_decide_eq_true h3
theorem wd_tab : ∀ (d : Nat), d ≤ 6 → ∀ t : Tree, t.dp ≤ d → t.sz ≤ 12 → (wd t).length ≤ wt d t.sz
  | d, _, .L, _, _ => Nat.zero_le _
  | 0, _, .N l r, h, _ => absurd (show max l.dp r.dp + 1 ≤ 0 from h) (by omega)
  | d + 1, hd, .N l r, h, hz => by
    have h : max l.dp r.dp + 1 ≤ d + 1 := h
    have hz : l.sz + r.sz ≤ 12 := hz
    have p1 := l.sz_pos
    have p2 := r.sz_pos
    have h1 := wd_tab d (by omega) l (by omega) (by omega)
    have h2 := wd_tab d (by omega) r (by omega) (by omega)
    have h3 := wt_step d (by omega) l.sz (by omega) r.sz (by omega) p1 p2 hz
    rw [wd_lenN]
    show _ ≤ wt (d + 1) (l.sz + r.sz)
    omega
theorem wt_top : ∀ n < 13, wt 6 n ≤ 115 := by decide +kernel
theorem wd_len {t : Tree} (hd : t.dp ≤ 6) (hz : t.sz ≤ 12) : (wd t).length ≤ 115 := Nat.le_trans (wd_tab 6 (Nat.le_refl _) t hd hz) (wt_top _ (by omega))
theorem ab_pos {n : Int} (h : 0 < n) : ab n = n := if_neg (by omega)
theorem ab_neg {n : Int} (h : n < 0) : ab n = -n := if_pos h
theorem shf_let {k n : Int} (hk : 0 ≤ k) (h : n ≠ 0) : sgn (ab n + k) n ≠ 0 ∧ ab (sgn (ab n + k) n) = ab n + k := by
  unfold sgn
  rcases Int.lt_or_gt_of_ne h with h | h
  · rw [if_neg (by omega), ab_neg h, ab_neg (by omega)]
    omega
  · rw [if_pos h, ab_pos h, ab_pos (by omega)]
    omega
theorem inv_let {n : Int} (h : n ≠ 0) : -n ≠ 0 ∧ ab (-n) = ab n := by
  rcases Int.lt_or_gt_of_ne h with h | h
  · rw [ab_neg h, ab_pos (by omega)]
    omega
  · rw [ab_pos h, ab_neg (by omega)]
    omega
/-- every letter is no 0 and at most m -/
def Lets (m : Int) (ns : List Int) : Prop := ∀ n ∈ ns, n ≠ 0 ∧ ab n ≤ m
theorem Lets.mono {m m' : Int} {ns : List Int} (h : m ≤ m') (l : Lets m ns) : Lets m' ns := fun n hn => ⟨(l n hn).1, Int.le_trans (l n hn).2 h⟩
theorem Lets.app {m : Int} {ns ms : List Int} (h1 : Lets m ns) (h2 : Lets m ms) : Lets m (ns ++ ms) := fun n hn => (List.mem_append.mp hn).elim (h1 n) (h2 n)
theorem Lets.shf {m k : Int} (hk : 0 ≤ k) {ns : List Int} (h : Lets m ns) : Lets (m + k) (shf k ns) := fun n hn => by
  obtain ⟨x, hx, rfl⟩ := List.mem_map.mp hn
  have a := h x hx
  have b := shf_let hk a.1
  exact ⟨b.1, by rw [b.2]; omega⟩
theorem Lets.inv {m : Int} {ns : List Int} (h : Lets m ns) : Lets m (inv ns) := fun n hn => by
  obtain ⟨x, hx, rfl⟩ := List.mem_map.mp hn
  have a := h x (List.mem_reverse.mp hx)
  have b := inv_let a.1
  exact ⟨b.1, by rw [b.2]; exact a.2⟩
theorem Lets.all {m : Int} (hm : m ≤ 40) {ns : List Int} (h : Lets m ns) : ns.all isLet = true := by
  rw [List.all_eq_true]
  intro n hn
  have a := h n hn
  unfold isLet
  rw [decide_eq_true a.1, decide_eq_true (by omega)]
  rfl
theorem okW_of {m : Int} (hm : m ≤ 40) {ns : List Int} (h : Lets m ns) (hl : ns.length ≤ 300) : okW ns = true := by
  unfold okW
  rw [decide_eq_true hl, h.all hm]
  rfl
theorem wd_lets : ∀ t : Tree, Lets t.dp (wd t)
  | .L => fun n hn => by cases hn
  | .N l r => by
    have h1 := wd_lets l
    have h2 := wd_lets r
    have e : ((Tree.N l r).dp : Int) = ((max l.dp r.dp + 1 : Nat) : Int) := rfl
    rw [e]
    refine Lets.app (Lets.app (Lets.app (h1.mono (by omega)) ((h2.shf (by omega)).mono (by omega))) ?_) ((h1.inv.shf (by omega)).mono (by omega))
    intro n hn
    rw [List.mem_singleton.mp hn, ab_pos (by decide)]
    exact ⟨by decide, by omega⟩
theorem shf_inv {k : Int} {ns : List Int} (h : ∀ n ∈ ns, n ≠ 0) : inv (shf k ns) = shf k (inv ns) := by
  unfold inv shf
  rw [← List.map_reverse, List.map_map, List.map_map]
  apply List.map_congr_left
  intro n hn
  have h0 := h n (List.mem_reverse.mp hn)
  show -(sgn (ab n + k) n) = sgn (ab (-n) + k) (-n)
  rw [(inv_let h0).2]
  unfold sgn
  rcases Int.lt_or_gt_of_ne h0 with h | h
  · rw [if_neg (by omega), if_pos (by omega)]
    omega
  · rw [if_pos h, if_neg (by omega)]
theorem lwd_eq : ∀ t : Tree, lwd t = wd t
  | .L => rfl
  | .N l r => by
    show ((lwd l ++ shf 1 (lwd r)) ++ [1]) ++ inv (shf 1 (lwd l)) = ((wd l ++ shf 1 (wd r)) ++ [1]) ++ shf 1 (inv (wd l))
    rw [lwd_eq l, lwd_eq r, shf_inv fun n hn => (wd_lets l n hn).1]
def spWd (K : PySem.W.Frag) (g : Tree → List Int) (n : Nat) : Sp := fun vs H Q _ => ∃ (v : V) (t : Tree), vs = [v] ∧ TA K H v t ∧ t.dp < n ∧ t.dp ≤ 6 ∧ t.sz ≤ 12 ∧ ∀ p H', Same H H' → WT K H' p (g t) → Q (.ref p) H'
theorem spWd_no {K : PySem.W.Frag} {g : Tree → List Int} : ∀ vs H Q E, ¬ spWd K g 0 vs H Q E := fun vs H Q E h => by
  obtain ⟨v, t, _, _, h, _⟩ := h
  omega
/-- word_of: the word, or the error -/
def spWordE (K : PySem.W.Frag) (C : Addr) : Sp := fun vs H Q E => ∃ (v : V) (d : PyData), vs = [v] ∧ NT K H v d ∧ ndD d ≤ 1000 ∧ (∀ t : Tree, d = t.d → t.sz ≤ 12 → t.dp ≤ 6 → ∀ p H', Same H H' → WT K H' p (wd t) → Q (.ref p) H') ∧ (okd d = false → ∀ H', Same H H' → E (.ref C) none H')
theorem wfits {a b : List Int} (h : a.length + b.length ≤ 10000) : (a.map V.int).length + (b.map V.int).length ≤ sizeLine := by
  rw [List.length_map, List.length_map]
  exact Nat.le_trans h (by decide)
theorem cat_w {K : PySem.W.Frag} {H : Hp} {a b : Addr} {ns ms : List Int} {Q : VK} (ha : WT K H a ns) (hb : WT K H b ms) (hl : ns.length + ms.length ≤ 10000) (q : ∀ p H', Same H H' → WT K H' p (ns ++ ms) → Q (.ref p) H') : rCatA K (.ref a) (.ref b) H Q :=
  cat_ok ha hb (wfits hl) fun p H' sm h => q p H' sm (by rw [WT, List.map_append]; exact h)
theorem d_inj : ∀ {t u : Tree}, t.d = u.d → t = u
  | .L, .L, _ => rfl
  | .L, .N _ _, h => by
    have h : PyData.tuple [] = .tuple [_, _] := h
    injection h with h
    cases h
  | .N _ _, .L, h => by
    have h : PyData.tuple [_, _] = .tuple [] := h
    injection h with h
    cases h
  | .N l r, .N l' r', h => by
    have h : PyData.tuple [l.d, r.d] = .tuple [l'.d, r'.d] := h
    injection h with h
    injection h with h1 h2
    injection h2 with h2 _
    rw [d_inj h1, d_inj h2]
/-! ### the draws' state, its list of cells named -/
def RngC (H : Hp) (r c : Addr) : Prop := ∃ (ns : List Int) (i b s : Int), H r = some (.lst [.ref c, .int i, .int b, .int s]) ∧ H c = some (.lst (ns.map V.int)) ∧ c ≠ r ∧ 0 ≤ i ∧ 0 ≤ b ∧ 0 ≤ s ∧ s < 2147483647
theorem Rng.toC {H : Hp} {r : Addr} (h : Rng H r) : ∃ c, RngC H r c := by
  obtain ⟨c, h⟩ := h
  exact ⟨c, h⟩
theorem RngC.rng {H : Hp} {r c : Addr} (h : RngC H r c) : Rng H r := ⟨c, h⟩
theorem RngC.keep {H H' : Hp} {r c : Addr} (h : RngC H r c) (e1 : ∀ o, H r = some o → H' r = some o) (e2 : ∀ o, H c = some o → H' c = some o) : RngC H' r c := by
  obtain ⟨ns, i, b, s, h1, h2, h3⟩ := h
  exact ⟨ns, i, b, s, e1 _ h1, e2 _ h2, h3⟩
theorem RngC.same {H H' : Hp} {r c : Addr} (e : Same H H') (h : RngC H r c) : RngC H' r c := h.keep (e _) (e _)
theorem RngC.lst {H : Hp} {r c : Addr} (h : RngC H r c) : ∃ ys, H r = some (.lst ys) := h.rng.lst
theorem RngC.ne {H : Hp} {r c p : Addr} (h : RngC H r c) (e : H p = none) : p ≠ r ∧ p ≠ c := by
  obtain ⟨ns, i, b, s, h1, h2, h3⟩ := h
  refine ⟨fun z => ?_, fun z => ?_⟩
  · rw [z, h1] at e
    cases e
  · rw [z, h2] at e
    cases e
theorem RngC.set {H : Hp} {r c p : Addr} {o : HO} (h : RngC H r c) (n : p ≠ r ∧ p ≠ c) : RngC (upd H p o) r c :=
  h.keep (fun o e => by rw [upd_ne (Ne.symm n.1)]; exact e) (fun o e => by rw [upd_ne (Ne.symm n.2)]; exact e)
theorem RngC.extN {H H' : Hp} {r c : Addr} (e : LamX.ExtN H H') (h : RngC H r c) : RngC H' r c := by
  obtain ⟨ns, i, b, s, h1, h2, h3⟩ := h
  exact ⟨ns, i, b, s, e _ _ h1 (fun _ => by intro y; cases y), e _ _ h2 (fun _ => by intro y; cases y), h3⟩
theorem RngC.tp {H H' : Hp} {r c : Addr} (R : RngC H r c) (b : But r H H') : Tp H H' := by
  obtain ⟨ys, hy⟩ := R.lst
  exact Tp.but hy b
theorem RngC.tabs {T : List (Addr × Str)} {H H' : Hp} {r c : Addr} (R : RngC H r c) (b : But r H H') (t : LamX.Tabs T H) : LamX.Tabs T H' := by
  obtain ⟨ys, hy⟩ := R.lst
  exact tabs_set t hy b
theorem tabs_same {T : List (Addr × Str)} {H H' : Hp} (e : Same H H') (t : LamX.Tabs T H) : LamX.Tabs T H' := fun p hp => by
  obtain ⟨ps, h1, h2, h3⟩ := t p hp
  refine ⟨ps, e _ _ h1, h2, fun pos cv ec => ?_⟩
  obtain ⟨c, rfl, hc⟩ := h3 pos cv ec
  exact ⟨c, rfl, e _ _ hc⟩
def spDrawC : Sp := fun vs H Q _ => ∃ (r : Addr) (n : Int) (c : Addr), vs = [.ref r, .int n] ∧ RngC H r c ∧ 0 < n ∧ n < 1073741824 ∧ ∀ (v : Int) (H' : Hp), 0 ≤ v → v < n → RngC H' r c → But r H H' → Q (.int v) H'
theorem spDraw_C {vs : List V} {H : Hp} {Q : VK} {E : XK} (h : spDraw vs H Q E) : spDrawC vs H Q E := by
  obtain ⟨r, n, rfl, R, h1, h2, q⟩ := h
  obtain ⟨c, R⟩ := R.toC
  exact ⟨r, n, c, rfl, R, h1, h2, fun v H' v0 v1 R' b' => q v H' v0 v1 R'.rng b'⟩
def spPickC (K : PySem.W.Frag) : Sp := fun vs H Q _ => ∃ (r l c : Addr) (xs : List V), vs = [.ref r, .ref l] ∧ RngC H r c ∧ (SqL K H l xs ∨ SqT K H l xs) ∧ 0 < xs.length ∧ xs.length ≤ 10000 ∧ l ≠ r ∧ ∀ v H', v ∈ xs → RngC H' r c → But r H H' → Q v H'
theorem spPick_C {K : PySem.W.Frag} {vs : List V} {H : Hp} {Q : VK} {E : XK} (h : spPick K vs H Q E) : spPickC K vs H Q E := by
  obtain ⟨r, l, xs, rfl, R, h1, h2, h3, h4, q⟩ := h
  obtain ⟨c, R⟩ := R.toC
  exact ⟨r, l, c, xs, rfl, R, h1, h2, h3, h4, fun v H' hv R' b' => q v H' hv R'.rng b'⟩
def spTermC (K : PySem.W.Frag) (n : Nat) : Sp := fun vs H Q _ => ∃ (r : Addr) (many : Int) (k : Nat) (c : Addr), k < n ∧ vs = [.ref r, .int many, .int (2 ^ k)] ∧ k ≤ 6 ∧ 1 ≤ many ∧ many ≤ 2 ^ k ∧ RngC H r c ∧
  ∀ (v : V) (t : Tree) (H' : Hp), TA K H' v t → (t.sz : Int) = many → t.dp ≤ k → RngC H' r c → But r H H' → Q v H'
theorem spTerm_C {K : PySem.W.Frag} {n : Nat} {vs : List V} {H : Hp} {Q : VK} {E : XK} (h : spTerm K n vs H Q E) : spTermC K n vs H Q E := by
  obtain ⟨r, m, k, hk, e, h1, h2, h3, R, q⟩ := h
  obtain ⟨c, R⟩ := R.toC
  exact ⟨r, m, k, c, hk, e, h1, h2, h3, R, fun v t H' a b d R' b' => q v t H' a b d R'.rng b'⟩
def spAnyC (K : PySem.W.Frag) : Sp := fun vs H Q _ => ∃ (r : Addr) (top : Int) (c : Addr), vs = [.ref r, .int top] ∧ 1 ≤ top ∧ top ≤ 64 ∧ RngC H r c ∧
  ∀ (v : V) (t : Tree) (H' : Hp), TA K H' v t → (t.sz : Int) ≤ top → t.dp ≤ 6 → RngC H' r c → But r H H' → Q v H'
theorem spAny_C {K : PySem.W.Frag} {vs : List V} {H : Hp} {Q : VK} {E : XK} (h : spAny K vs H Q E) : spAnyC K vs H Q E := by
  obtain ⟨r, m, e, h1, h2, R, q⟩ := h
  obtain ⟨c, R⟩ := R.toC
  exact ⟨r, m, c, e, h1, h2, R, fun v t H' a b d R' b' => q v t H' a b d R'.rng b'⟩
/-! ### tuple * int, also where the tuple itself is given back -/
section OPR
open PySem.Spec PyProof.Rows
theorem tuple_mul_same (l : Addr) (items : Array Value) (n : Nat) (dd : Option Addr) (sl : Array (Option Value)) (x : Int) (u : Tok) (c0 : (decide (x < -(2 ^ 63)) || decide (x ≥ 2 ^ 63)) = false) (c1 : (items.isEmpty || x == 1) = true) :
    Meets (Builtin.«tuple.__mul__» ⟨[.ref l, .int x u], []⟩) (fun _ R s => s.heap.get? l = some { cls := .type "tuple", dict := dd, data := .seq items n, slots := sl } ∧ R (.ok (.ret (Value.ref l))) { s with heap := s.heap, toks := s.toks }) :=
  .of_wp fun prog w A R s h => by
    obtain ⟨hp, g, d, tk, os⟩ := s
    obtain ⟨hl, h⟩ := h
    have f1 := AutoSeq1.idx_int
    wp_walk using wpAny_loadPart' hl
    repeat (first
      | (refine wpAny_ite_false (decide_eq_false (by rw [c0]; exact Bool.false_ne_true)) ?_; wp_walk using wpAny_loadPart' hl)
      | (refine wpAny_ite_true (decide_eq_true c1) ?_; wp_walk using wpAny_loadPart' hl))
    exact ⟨_, rfl, h⟩
theorem op_repS {X : Cx} : OpR X (binaryOp .Mult) (fun x y H Q => ∃ l k xs, x = .ref l ∧ y = .int k ∧ SqT X.K H l xs ∧ (xs = [] ∨ k = 1) ∧ 1 ≤ k ∧ k ≤ 1000 ∧ Q (.ref l) H) := by
  intro pins s σ H x y v u Q I rx ry h
  obtain ⟨l, k, xs, rfl, rfl, hT, hne, h1, h2, q⟩ := h
  cases rx
  obtain ⟨t, rfl⟩ := ry
  obtain ⟨its, r, ⟨⟨cls, dd, data, sl⟩, ho, hc, n, hd⟩, hs⟩ := I.tuple hT
  simp only at hc hd
  subst hc hd
  have c0 : (decide (k < -(2 ^ 63)) || decide (k ≥ 2 ^ 63)) = false := by
    rw [decide_eq_false (by omega), decide_eq_false (by omega)] <;> rfl
  have c1 : (its.toArray.isEmpty || k == 1) = true := by
    rcases hne with e | e
    · subst e
      cases r
      rfl
    · rw [e]
      simp
  exact wpAny_binaryOp_repeat_ref (T := "tuple") (U := "int") (by decide) ⟨_, ho, rfl⟩ (fun s' => typeIs_int s' k t) noFill_tuple_mul PySem.F.fills_int_mul PySem.F.slot_int_rmul repeat_tuple PySem.F.slot_int_index.lookup
    (call_meets PySem.F.slot_int_rmul (typeIs_int s k t) PySem.F.entry_int_rmul (PySem.F.args_int_rmul_2 _ _) (int_rmul_tuple k t l its.toArray n dd sl)
      ⟨ho, rfl, ⟨_, ho, rfl⟩, call_meets PySem.F.slot_tuple_mul ⟨_, ho, rfl⟩ PySem.F.entry_tuple_mul (PySem.F.args_tuple_mul_2 _ _) (tuple_mul_same l its.toArray n dd sl k t c0 c1) ⟨ho, ⟨.ref l, H, I, rfl, q⟩⟩⟩)
def rRepA (K : PySem.W.Frag) : R2 := fun x y H Q => ∃ l k xs, x = .ref l ∧ y = .int k ∧ SqT K H l xs ∧ 1 ≤ k ∧ k ≤ 1000 ∧ xs.length ≤ 1000 ∧ ∀ p H', Same H H' → SqT K H' p (List.replicate k.toNat xs).flatten → Q (.ref p) H'
theorem op_repA {X : Cx} : OpR X (binaryOp .Mult) (rRepA X.K) := by
  intro pins s σ H x y v u Q I rx ry h
  obtain ⟨l, k, xs, rfl, rfl, hT, h1, h2, hz, q⟩ := h
  by_cases hx : xs = []
  · refine op_repS pins s σ H _ _ v u Q I rx ry ⟨l, k, xs, rfl, rfl, hT, .inl hx, h1, h2, q l H (Same.refl _) ?_⟩
    have e : (List.replicate k.toNat xs).flatten = xs := by
      rw [hx]
      simp
    rw [e]
    exact hT
  · by_cases hk : k = 1
    · refine op_repS pins s σ H _ _ v u Q I rx ry ⟨l, k, xs, rfl, rfl, hT, .inr hk, h1, h2, q l H (Same.refl _) ?_⟩
      have e : (List.replicate k.toNat xs).flatten = xs := by
        rw [hk]
        simp
      rw [e]
      exact hT
    · exact op_repT pins s σ H _ _ v u Q I rx ry ⟨l, k, xs, rfl, rfl, hT, hx, by omega, h2, hz, fun p np => q p _ (Same.new np _) (SqT.here upd_same)⟩
end OPR
/-- a word repeated -/
def repW (k : Int) (ns : List Int) : List Int := (List.replicate k.toNat ns).flatten
theorem repW_map (k : Int) (ns : List Int) : (List.replicate k.toNat (ns.map V.int)).flatten = (repW k ns).map V.int := by
  unfold repW
  rw [List.map_flatten, List.map_replicate]
theorem repW_len (k : Int) (ns : List Int) : (repW k ns).length = k.toNat * ns.length := by
  unfold repW
  rw [List.length_flatten, List.map_replicate, List.sum_replicate_nat]
theorem repW_mem {k : Int} {ns : List Int} {n : Int} (h : n ∈ repW k ns) : n ∈ ns := by
  unfold repW at h
  obtain ⟨l, h1, h2⟩ := List.mem_flatten.mp h
  rw [List.eq_of_mem_replicate h1] at h2
  exact h2
theorem rep_w {K : PySem.W.Frag} {H : Hp} {a : Addr} {ns : List Int} {k : Int} {Q : VK} (ha : WT K H a ns) (h1 : 1 ≤ k) (h2 : k ≤ 1000) (hl : ns.length ≤ 1000) (q : ∀ p H', Same H H' → WT K H' p (repW k ns) → Q (.ref p) H') : rRepA K (.ref a) (.int k) H Q :=
  ⟨a, k, _, rfl, rfl, ha, h1, h2, by rw [List.length_map]; exact hl, fun p H' sm h => q p H' sm (by rw [WT, ← repW_map]; exact h)⟩
/-! ### words that are drawn -/
theorem Tp.rng {r : Addr} {H H' : Hp} (R : Rng H r) (b : But r H H') : Tp H H' := by
  obtain ⟨ys, hy⟩ := R.lst
  exact Tp.but hy b
def spAnyW (K : PySem.W.Frag) : Sp := fun vs H Q _ => ∃ (r : Addr) (top wide : Int) (c : Addr), vs = [.ref r, .int top, .int wide] ∧ 0 ≤ top ∧ top ≤ 1000 ∧ 1 ≤ wide ∧ wide ≤ 1000 ∧ RngC H r c ∧
  ∀ (p : Addr) (ns : List Int) (H' : Hp), WT K H' p ns → (ns.length : Int) ≤ top → Lets wide ns → RngC H' r c → But r H H' → Q (.ref p) H'
def spBadW (K : PySem.W.Frag) : Sp := fun vs H Q _ => ∃ r c : Addr, vs = [.ref r] ∧ RngC H r c ∧ ∀ (p : Addr) (ns : List Int) (H' : Hp), WT K H' p ns → okW ns = false → ns.length ≤ 400 → RngC H' r c → But r H H' → Q (.ref p) H'
theorem okW_mem {ns : List Int} {n : Int} (h : n ∈ ns) (hb : isLet n = false) : okW ns = false := by
  unfold okW
  have : ns.all isLet = false := by
    rw [List.all_eq_false]
    exact ⟨n, h, by rw [hb]; decide⟩
  rw [this, Bool.and_false]
theorem okW_long {ns : List Int} (h : 300 < ns.length) : okW ns = false := by
  unfold okW
  rw [decide_eq_false (by omega)]
  rfl
theorem inv_inv (ns : List Int) : inv (inv ns) = ns := by
  unfold inv
  rw [← List.map_reverse, List.map_map, List.reverse_reverse]
  have e : ((fun n : Int => -n) ∘ fun n => -n) = id := by
    funext n
    exact Int.neg_neg n
  rw [e, List.map_id]
theorem okW_inv {m : Int} (hm : m ≤ 40) {ns : List Int} (h : Lets m ns) (hl : ns.length ≤ 300) : okW (inv ns) = true := okW_of hm h.inv (by rw [inv_len]; exact hl)
theorem shf_all {k : Int} (hk : 0 ≤ k) {ns : List Int} (h : Lets 40 ns) : (shf k ns).all isLet = !(ns.any fun n => decide (40 < ab n + k)) := by
  induction ns with
  | nil => rfl
  | cons n ns ih =>
    have h1 := h n List.mem_cons_self
    have h2 := ih fun x hx => h x (List.mem_cons_of_mem _ hx)
    have h3 := shf_let hk h1.1
    show (isLet (sgn (ab n + k) n) && (shf k ns).all isLet) = !(decide (40 < ab n + k) || ns.any fun n => decide (40 < ab n + k))
    rw [h2, Bool.not_or]
    congr 1
    unfold isLet
    rw [decide_eq_true h3.1, h3.2, Bool.true_and]
    by_cases z : ab n + k ≤ 40
    · rw [decide_eq_true z, decide_eq_false (by omega)]
      rfl
    · rw [decide_eq_false z, decide_eq_true (by omega)]
      rfl
def vD (d : PyData) : PyData := .tuple [.str ("value" : Str), d]
theorem vD_shaped (ns : List Int) : SeqAt.shaped (vD (wD ns)) = true := by
  have h := wD_depth ns
  have hs := wD_shaped ns
  have e1 : (vD (wD ns)).canLay0 = (PyData.canLay0 (.str ("value" : Str)) && (PyData.canLay0 (wD ns) && true)) := rfl
  have e2 : (vD (wD ns)).depth = max (PyData.depth (.str ("value" : Str))) (max (wD ns).depth 0) + 1 := rfl
  have e3 : PyData.depth (.str ("value" : Str)) ≤ 1 := by first | exact Nat.le_refl _ | exact Nat.zero_le _
  unfold SeqAt.shaped
  rw [e1, SeqAt.canLay_of_shaped hs, decide_eq_true (by omega)]
  decide +kernel
theorem vD_wide {ns : List Int} (h : ns.length ≤ 1000) : wide (vD (wD ns)) = true := by
  show (decide (2 ≤ 1000) && (true && (wide (wD ns) && true))) = true
  rw [wD_wide h]
  decide
theorem vD_depth (ns : List Int) : (vD (wD ns)).depth < 12 := by
  have h := wD_depth ns
  have e2 : (vD (wD ns)).depth = max (PyData.depth (.str ("value" : Str))) (max (wD ns).depth 0) + 1 := rfl
  have e3 : PyData.depth (.str ("value" : Str)) ≤ 1 := by first | exact Nat.le_refl _ | exact Nat.zero_le _
  omega
theorem dp_vD {K : PySem.W.Frag} {H : Hp} {q p : Addr} {ns : List Int} (h : SqT K H q [.str ("value" : Str), .ref p]) (w : WT K H p ns) : Dp K H (.ref q) (vD (wD ns)) := Dp.tup h (.cons (.str _) (.cons (dp_wt w) .nil))
theorem dp_eD {K : PySem.W.Frag} {H : Hp} {q : Addr} {j : Nat} (h : SqT K H q [.str (en j), .non]) : Dp K H (.ref q) (eD j) := Dp.tup h (.cons (.str _) (.cons .non .nil))
theorem eD_wide (j : Nat) : wide (eD j) = true := rfl
theorem eD_depth : ∀ j < 20, (eD j).depth < 12 := by decide +kernel
section OPL
open PySem.Spec PyProof.Rows
/-! ### a lambda whose only parameter has a written int for default, and is not read -/
structure LamSD (N : List Str) (sc scope : Scope) : Prop where
  kind : scope.kind = .function
  co : scope.isCoroutine = false
  gen : scope.isGenerator = false
  own : ∀ y ∈ scope.names, y.2 ≠ .cell ∧ (y.2 = .local → y.1 ∉ N)
  free : ∀ y ∈ scope.names, y.2 = .free → sc.names.lookup y.1 = some .cell ∨ sc.names.lookup y.1 = some .free
def lamSDB (N : List Str) (sc scope : Scope) : Bool :=
  decide (scope.kind = .function) && !scope.isCoroutine && !scope.isGenerator && scope.names.all fun y => !decide (y.2 = .cell) && (!decide (y.2 = .local) || !decide (y.1 ∈ N)) && (!decide (y.2 = .free) || decide (sc.names.lookup y.1 = some .cell) || decide (sc.names.lookup y.1 = some .free))
theorem lamSD_by {N : List Str} {sc scope : Scope} (h : lamSDB N sc scope = true) : LamSD N sc scope := by
  unfold lamSDB at h
  simp only [Bool.and_eq_true, Bool.or_eq_true, Bool.not_eq_true', decide_eq_true_eq, decide_eq_false_iff_not, List.all_eq_true] at h
  obtain ⟨⟨⟨h1, h2⟩, h3⟩, h4⟩ := h
  refine ⟨h1, h2, h3, fun y hy => ⟨(h4 y hy).1.1, fun e => ?_⟩, fun y hy e => ?_⟩
  · rcases (h4 y hy).1.2 with z | z
    · exact absurd e z
    · exact z
  · rcases (h4 y hy).2 with (z | z) | z
    · exact absurd e z
    · exact .inl z
    · exact .inr z
theorem LamSD.has {X : Cx} {N : List Str} {scope : Scope} (L : LamSD N X.env.scope scope) (ok : X.Ok) : ∀ y ∈ scope.names, y.2 = .free → ∃ c, X.env.cells.lookup y.1 = some c := fun y hy e => by
  rcases L.free y hy e with k | k
  · exact ok.has _ (.inl k)
  · exact ok.has _ (.inr k)
section
variable {X : Cx} {pins : List (Addr × Obj)} {σ : L2.St} {H HZ : Hp} {s s1 : Shared}
theorem lam_startD {A : Around} {outer : List Env} {E : XK} {scope : Scope} {f c' : Addr} {h₁ : Heap} {tk : Nat} {mb : Str → Option Value} (I : Inv X pins σ H s) (L : LamSD X.N X.env.scope scope) (e0 : Env0 X.prog X.w X.K X.mg X.base A outer s1 HZ) (hd : A.handled = none)
    (un : Un (frs X.stack) [] H HZ s.heap s1.heap) (hns : h₁.Ns s1.heap.objs.size mb) (kp : ∀ b o, s1.heap.get? b = some o → h₁.get? b = some o) :
    Inv (LamX.lamCx X A outer s1 HZ E scope f c') [] σ HZ { s1 with heap := h₁, toks := tk } := by
  have hfree := L.has I.ok
  have cm : ∀ {y c}, (cloFrom X.env.cells scope.names []).lookup y = some c → X.env.cells.lookup y = some c := fun {y c} e => by
    rcases cloFrom_mem (PySem.mem_of_lookup e) with hm | ⟨h1, h2⟩
    · cases hm
    · obtain ⟨c1, hc⟩ := hfree _ h1 rfl
      have hc : X.env.cells.lookup y = some c1 := hc
      have e2 : c = c1 := by
        rw [h2, hc] <;> rfl
      rw [e2]
      exact hc
  have look : ∀ {y}, scope.names.lookup y = some .free → ∃ c, (cloFrom X.env.cells scope.names []).lookup y = some c := fun {y} hl => by
    have hy : (y, NameKind.free) ∈ scope.names := PySem.mem_of_lookup hl
    exact mem_lookup (cloFrom_has (cells := X.env.cells) (acc := []) hy)
  have cellK : ∀ {c : Addr} {v : Option Value}, H c = none → s.heap.IsCell c v → h₁.IsCell c v := fun {c v} n ⟨o, ho, hd⟩ => by
    obtain ⟨sl, q⟩ := un.any ho n (by simp)
    exact ⟨_, kp _ _ q, hd⟩
  have noA : ∀ b : Addr, b ∉ (LamX.lamCx X A outer s1 HZ E scope f c').ex := fun b z => absurd (show b ∈ ([] : List Addr) from z) (by simp)
  refine ⟨⟨e0.mod, L.kind, rfl, rfl, Nat.le_refl _, fun y z c e1 e2 => I.ok.inj y z c (cm e1) (cm e2), fun y hy => ?_, fun y c z _ => ?_, fun _ => hd, Around.frames_deeper e0.frames, .inr ⟨rfl, rfl⟩, fun b z => absurd z (noA b), e0.bs, e0.bsz, fun b _ _ => noA b,
      fun b z => absurd z (noA b), e0.funs, e0.frf⟩,
    rfl, e0.bare, Un.kept kp, ⟨_, hns, fun i y v e1 e2 e3 => ?_⟩, fun y c e => ?_, e0.hok.fresh (Nat.le_refl _), fun y c e => ?_, fun q hq => absurd (show q ∈ ([] : List (Addr × Obj)) ++ [] from hq) (by simp), e0.hok.kept kp, I.len⟩
  · have hy : scope.names.lookup y = some .cell ∨ scope.names.lookup y = some .free := hy
    rcases hy with hy | hy
    · exact absurd rfl (L.own _ (PySem.mem_of_lookup hy)).1
    · exact look hy
  · have z : false = true := z
    cases z
  · have e3 : Vis scope y := e3
    have e1' : X.N[i]? = some y := e1
    rcases e3 with k | k | k
    · exact absurd (List.mem_of_getElem? e1') ((L.own _ (PySem.mem_of_lookup k)).2 rfl)
    · exact absurd rfl (L.own _ (PySem.mem_of_lookup k)).1
    · obtain ⟨m, hn, hl⟩ := I.loc
      have hvis : Vis X.env.scope y := (L.free _ (PySem.mem_of_lookup k) rfl).elim (fun k => .inr (.inl k)) (fun k => .inr (.inr k))
      obtain ⟨w', r, q⟩ := hl i y v e1 e2 hvis
      obtain ⟨c2, h2⟩ := look k
      refine ⟨w', r, .inr ⟨.inr k, c2, h2, ?_⟩⟩
      have c1 := cm h2
      rcases q with ⟨k', _⟩ | ⟨_, c3, e', z⟩
      · have k' : X.env.scope.names.lookup y = some .local := k'
        rcases L.free _ (PySem.mem_of_lookup k) rfl with k2 | k2 <;> rw [show X.env.scope.names.lookup y = _ from k2] at k' <;> cases k'
      · rw [c1] at e'
        cases e'
        exact cellK (I.freeC y _ c1) z
  · obtain ⟨w', z⟩ := I.cell y c (cm e)
    exact ⟨w', cellK (I.freeC y c (cm e)) z⟩
  · obtain ⟨v, o, ho, hd⟩ := I.cell y c (cm e)
    exact un.free c o ho (I.freeC y c (cm e)) (by simp)
theorem lam_makeD {T : List (Addr × Str)} {c P : Addr} {params : Arguments} {body : Expr} {scope : Scope} {pos pz : Pos} {z : Int} {jz : Nat} {Q : Value → Shared → Prop} (I : Inv X pins σ H s) (TB : LamX.TabB X.base X.mg c P) (hcode : X.env.code = .ref c)
    (hm : (P, X.env.qual ++ "<lambda>") ∈ T) (hu : ∀ p ∈ T, p.1 = P → p.2 = X.env.qual ++ "<lambda>") (hT : LamX.Tabs T H) (hd1 : params.defaults = [.Constant (.int z) jz pz]) (hk0 : params.kw_defaults = []) (hfree : ∀ y ∈ scope.names, y.2 = .free → ∃ c, X.env.cells.lookup y.1 = some c)
    (h : ∀ (f c' T0 : Addr) (u doc pm ctv : Value) (H1 : Hp) (s' : Shared), Inv X pins σ H1 s' → LamX.ExtN H H1 → LamX.Tabs T H1 →
      s'.heap.get? f = some (PySem.W.kdv_obj "<lambda>" (X.env.qual ++ "<lambda>") params (.expr body) scope (cloFrom X.env.cells scope.names []) (.ref T0) doc pm c' ctv) → H1 f = none → f ∉ frs X.stack → s'.heap.get? T0 = some (PySem.W.kdv_tup [u]) → H1 T0 = none → T0 ∉ frs X.stack → H1 c' = some (LamX.CodeO c' (X.env.qual ++ "<lambda>")) → Q (.ref f) s') :
    wpAny (model X.prog X.w) X.A (eval (.Lambda params body scope pos) X.env) Q X.xe s := by
  refine PySem.W.kdv_lam (by rw [hd1]; rfl) hk0 ?_
  rw [hd1]
  refine PySem.W.kdv_all1 (thn (pe_int.run pins s σ H (fun v H' => v = .int z ∧ H' = H) I ⟨rfl, rfl⟩) fun u s0 ⟨v, H0, I0, r0, ev, eH⟩ => PySem.W.kdv_all0 ?_)
  subst ev eH
  rw [makeFunction_eq]
  simp only [List.zip_nil_right, List.filterMap_nil, List.isEmpty_nil, if_true, pure_bind, List.isEmpty_cons, Bool.false_eq_true, if_false]
  refine wpAny_bind (wpAny_newTextTuple ?_)
  obtain ⟨ps, hP, ht, ha⟩ := hT _ hm
  have I2 : Inv X pins σ H0 { s0 with heap := s0.heap.push (PySem.W.kdv_tup [u]) } := I0.kept (t' := s0.toks) fun b o e => Heap.get?_push_of_some _ e
  have hT0 : (s0.heap.push (PySem.W.kdv_tup [u])).get? s0.heap.objs.size = some (PySem.W.kdv_tup [u]) := Heap.get?_push_size _ rfl
  have hT0n : H0 s0.heap.objs.size = none := I0.hok.fresh (Nat.le_refl _)
  have bP : (s0.heap.push (PySem.W.kdv_tup [u])).BuiltinsAt X.mg P := TB.bm.keeps I2.bk
  have hP' : (s0.heap.push (PySem.W.kdv_tup [u])).get? P = some { cls := .none, data := .fields ps } := I2.hok P _ hP
  have nofr : ∀ f, s0.heap.objs.size ≤ f → f ∉ frs X.stack := fun f hf z => by
    rcases List.mem_cons.mp (I0.stkSub _ z) with e | e
    · have h1 := I0.lt
      rw [← e] at h1
      exact Nat.lt_irrefl _ (Nat.lt_of_lt_of_le h1 hf)
    · exact I0.nofs hf e
  have sz2 : s0.heap.objs.size ≤ (s0.heap.push (PySem.W.kdv_tup [u])).objs.size := by rw [Heap.size_push]; omega
  have ltT : s0.heap.objs.size < (s0.heap.push (PySem.W.kdv_tup [u])).objs.size := by rw [Heap.size_push]; omega
  have nTP : s0.heap.objs.size ≠ P := fun z => by
    rw [← z, hT0n] at hP
    cases hP
  cases hc : codeAmong pos ps.toList with
  | none =>
    refine PySem.W.kdv_makeTail (s := { s0 with heap := s0.heap.push (PySem.W.kdv_tup [u]) }) (mg := X.mg) (c := c) (P := P) (ps := ps) (closure_ok hfree) I2.ok.glob (I2.mod.glob.keeps I2.bk) hcode (TB.code.keeps I2.bk) hP' ht hc TB.gP bP fun c' ctv doc h' tk hx hge hlt hrec htb => ?_
    obtain ⟨c2, oc, vs, t, e2, hoc, hd, hv⟩ := hrec
    cases e2
    have hsz : (s0.heap.push (PySem.W.kdv_tup [u])).objs.size ≤ h'.objs.size := Nat.le_trans hge (Nat.le_of_lt hlt)
    have nC : H0 c' = none := I2.hok.fresh hge
    have I1 := LamX.inv_table (t' := tk) (more := #[rawInt pos.line, rawInt pos.col, .ref c']) (h' := h'.push (PySem.W.kdv_obj "<lambda>" (X.env.qual ++ "<lambda>") params (.expr body) scope (cloFrom X.env.cells scope.names []) (.ref s0.heap.objs.size) doc ((X.mg "__name__").getD .none) c' ctv)) I2 hP
      (fun b o hb e => Heap.get?_push_of_some _ (hx b o hb e)) (Heap.get?_push_of_some _ htb) hge ⟨oc, vs, t, Heap.get?_push_of_some _ hoc, hd, hv⟩
    have hE : LamX.ExtN H0 (upd (upd H0 P (.tbl (ps ++ #[rawInt pos.line, rawInt pos.col, .ref c']))) c' (LamX.CodeO c' (X.env.qual ++ "<lambda>"))) := fun b o e n => by
      rw [upd_ne (ne_of_none e nC), upd_ne (fun z => n ps (Option.some.inj (e.symm.trans (by rw [z]; exact hP))))]
      exact e
    have eL : (ps ++ #[rawInt pos.line, rawInt pos.col, .ref c']).toList = ps.toList ++ [rawInt pos.line, rawInt pos.col, .ref c'] := by simp
    have nTc : s0.heap.objs.size ≠ c' := Nat.ne_of_lt (Nat.lt_of_lt_of_le ltT hge)
    refine h h'.objs.size c' s0.heap.objs.size u doc ((X.mg "__name__").getD .none) ctv _ _ I1 hE (fun p hp => ?_) (Heap.get?_push_size _ rfl) ?_ (nofr _ (Nat.le_trans sz2 hsz)) (Heap.get?_push_of_some _ (hx _ _ nTP hT0)) ?_ (nofr _ (Nat.le_refl _)) upd_same
    · by_cases hb : p.1 = P
      · rw [hu p hp hb, hb]
        refine ⟨_, by rw [upd_ne (ne_of_none hP nC), upd_same], by rw [eL]; exact PySem.TriplesOk_snoc _ _ _ _ ht, fun p' cv hcv => ?_⟩
        rw [eL] at hcv
        rcases LamX.among_app _ ht hcv with z | z
        · obtain ⟨c0, e1, e2⟩ := ha p' cv z
          exact ⟨c0, e1, hE _ _ e2 LamX.codeO_ne⟩
        · exact ⟨c', z, upd_same⟩
      · obtain ⟨ps', a1, a2, a3⟩ := hT p hp
        refine ⟨ps', by rw [upd_ne (ne_of_none a1 nC), upd_ne hb]; exact a1, a2, fun p' cv hcv => ?_⟩
        obtain ⟨c0, e1, e2⟩ := a3 p' cv hcv
        exact ⟨c0, e1, hE _ _ e2 LamX.codeO_ne⟩
    · have n1 : h'.objs.size ≠ c' := Nat.ne_of_gt hlt
      have n2 : h'.objs.size ≠ P := Nat.ne_of_gt (Nat.lt_of_lt_of_le (Heap.lt_size hP') hsz)
      rw [upd_ne n1, upd_ne n2]
      exact I2.hok.fresh hsz
    · rw [upd_ne nTc, upd_ne nTP]
      exact hT0n
  | some cv =>
    obtain ⟨c', e, hco⟩ := ha pos cv hc
    subst e
    refine PySem.W.kdv_makeTailHit (s := { s0 with heap := s0.heap.push (PySem.W.kdv_tup [u]) }) (mg := X.mg) (c := c) (P := P) (ps := ps) (closure_ok hfree) I2.ok.glob (I2.mod.glob.keeps I2.bk) hcode (TB.code.keeps I2.bk) hP' ht hc bP fun ctv doc h' tk hx hsz => ?_
    have I1 : Inv X pins σ H0 { s0 with heap := h'.push (PySem.W.kdv_obj "<lambda>" (X.env.qual ++ "<lambda>") params (.expr body) scope (cloFrom X.env.cells scope.names []) (.ref s0.heap.objs.size) doc ((X.mg "__name__").getD .none) c' ctv), toks := tk } := I2.kept fun b o e => Heap.get?_push_of_some _ (hx b o e)
    exact h h'.objs.size c' s0.heap.objs.size u doc ((X.mg "__name__").getD .none) ctv H0 _ I1 (LamX.ExtN.refl H0) hT (Heap.get?_push_size _ rfl) (I2.hok.fresh hsz) (nofr _ (Nat.le_trans sz2 hsz)) (Heap.get?_push_of_some _ (hx _ _ hT0)) hT0n (nofr _ (Nat.le_refl _)) hco
theorem pe_actD {CXg : CXT} {Eg : XK} {Ng : List Str} {qg : Str} {sg : Scope} {g f c T0 : Addr} {u doc cdg pm ctv : Value} {params : Arguments} {body : Expr} {scope : Scope} {k i : Nat} {a a0 : Str} {pn : List (Addr × Obj)} {xe : Value → Shared → Prop} {W : WX} {E : L2.St → XK} {tb : XK → TE} {p1 p2 : Pos}
    (I : Inv X pins σ H s) (L : LamSD X.N X.env.scope scope) (hf : s.heap.get? f = some (PySem.W.kdv_obj "<lambda>" (X.env.qual ++ "<lambda>") params (.expr body) scope (cloFrom X.env.cells scope.names []) (.ref T0) doc pm c ctv)) (hfn : H f = none) (hfr : f ∉ frs X.stack)
    (hT0 : s.heap.get? T0 = some (PySem.W.kdv_tup [u])) (hTn : H T0 = none) (hTr : T0 ∉ frs X.stack) (hl0 : scope.names.lookup a0 = some .local)
    (hbind : ∀ (q : Str) (cl : List (Str × Addr)) (dV doc pm cv ctv : Value), ∃ k, bindArgs (PySem.W.kdv_fn "<lambda>" q params (.expr body) scope cl dV doc pm cv ctv) ⟨[], []⟩ = seqItems? dV >>= k ∧ ∀ u, k (some #[u]) = pure [(a0, u)])
    (tk : L2C.Takes ((cxOf CXg X.prog X.w X.K X.mg X.base Ng qg sg g cdg X.A X.stack s H Eg).tr pn xe) W) (hW : ∀ cls d σ2 H2, E σ2 cls d H2 → W cls d σ2 H2) (hr : Room (k + 1) (X.A.deeper (envOfC qg sg s.heap.objs.size g cdg)))
    (hbody : ∀ (A : Around) (outer : List Env) (s : Shared) (H : Hp) (E : XK), Room k (A.deeper (LamX.lamEnv X scope s.heap.objs.size f c)) → PE (lamCxN X A outer s H E scope f c) body (tb E))
    (hN : Ng[i]? = some a) (hv : Vis sg a) (hd : (a == ("__debug__" : Str)) = false := by decide) (hcd : (a == ("__classdict__" : Str)) = false := by decide) :
    PE ((cxOf CXg X.prog X.w X.K X.mg X.base Ng qg sg g cdg X.A X.stack s H Eg).tr pn xe) (.Call (.Name a p1) [] [] p2) (fun σZ HZ Q => σZ[i]? = some (some (.ref f)) ∧ HZ c = some (LamX.CodeO c (X.env.qual ++ "<lambda>")) ∧ tb (E σZ) σ HZ Q) := by
  refine ⟨fun pz sz σz Hz Q Iz ⟨hs, hc, y⟩ => ?_⟩
  refine wpAny_Call_Name_kw (thn ((pe_var (pos := p1) (i := i) hN hv hd hcd).run pz sz σz Hz (fun v H1 => v = .ref f ∧ H1 = Hz) Iz ⟨.ref f, hs, rfl, rfl⟩) fun u' s1 ⟨v, H1, I1, r1, ev, eH⟩ => ?_)
  subst ev eH
  cases (show u' = Value.ref f from r1)
  have of1 := I1.base.keep f _ hf hfn hfr (fun z => nomatch (show f ∈ ([] : List Addr) from z))
  have oT1 := I1.base.keep T0 _ hT0 hTn hTr (fun z => nomatch (show T0 ∈ ([] : List Addr) from z))
  refine PySem.W.callWith_F0 ⟨_, _, _, _, of1⟩ ?_
  obtain ⟨⟨oc, vs, t, hoc, hdc, hvc⟩, _, _⟩ := I1.hok c _ hc
  have run : codeAny (model X.prog X.w) (X.A.deeper (envOfC qg sg s.heap.objs.size g cdg)) (.call (.ref f) ⟨[], []⟩) (CR (L2C.CX X.prog X.w) (envOfC qg sg s.heap.objs.size g cdg :: X.stack) X.prog X.w H1 s1 Q (E σz)) s1 := by
    obtain ⟨kk, hb1, hb2⟩ := hbind (X.env.qual ++ "<lambda>") (cloFrom X.env.cells scope.names []) (.ref T0) doc pm (.ref c) ctv
    have hB : BindsTo s1 (PySem.W.kdv_fn "<lambda>" (X.env.qual ++ "<lambda>") params (.expr body) scope (cloFrom X.env.cells scope.names []) (.ref T0) doc pm (.ref c) ctv) ⟨[], []⟩ [(a0, u)] := BindsTo.of_defaults rfl oT1 rfl hb1 (hb2 u)
    refine PySem.W.kla_callFunE hr.depth of1 rfl L.co L.gen rfl ⟨c, oc, vs, t, rfl, hoc, hdc, hvc⟩ (hB _ _ _ _ ?_)
    refine wpAny_newFunctionEnv (fun y hy => (L.own y hy).1) (fun y hy => by rw [List.mem_singleton.mp hy]; exact hl0) (fun g1 hns hsb => ⟨I1.nolimit.fresh _ hsb, ?_⟩) L.kind
    have kp : ∀ b o, s1.heap.get? b = some o → g1.get? b = some o := fun b o e => hsb.extBut b o (Nat.ne_of_lt (Heap.lt_size e)) (Heap.get?_push_of_some _ e)
    have J := lam_startD (E := E σz) (f := f) (c' := c) (tk := s1.toks + ([(a0, u)] : List (Str × Value)).length) I L I1.env0 hr.hd I1.base hns kp
    refine PySem.W.kla_codeExpr (wpAny_mono ((hbody _ _ s1 H1 (E σz) (hr.deeper _)).run [] _ _ H1 Q (J.wish _) y) (fun v s3 ⟨w3, H3, J3, rv, q⟩ => ⟨w3, H3, J3.os, J3.bare, J3.base, J3.hok, rv, q⟩) fun e s3 z => z)
  refine wpAny_call (codeAny_mono run fun rs s2 hq => ?_)
  cases rs with
  | error e => exact tk e s2 (L2C.XE.of_call I1 (fun cls d H' h => hW cls d σz H' h) hq)
  | ok fl =>
    cases fl with
    | ret u => exact I1.after hq
    | next => exact False.elim hq
    | brk => exact False.elim hq
    | cont => exact False.elim hq
end
theorem pe_lamD {X : Cx} {T : List (Addr × Str)} {TT : (XK → Hp → VK → Prop) → Hp → VK → Prop} {x a a0 : Str} {g c P : Addr} {k : Nat} {pg : Arguments} {bg : List Stmt} {sg : Scope} {dV kV doc pm cdv ct oc : Value} {an od : Option Addr} {osl : Array (Option Value)} {Ng : List Str}
    {params : Arguments} {body : Expr} {scope : Scope} {t : XK → TE} {p lpos pos pz : Pos} {z : Int} {jz : Nat} (hg : Gl X x) (hm : X.mg x = some (.ref g)) (hk : PySem.W.keepIn X.K (.ref g) = true)
    (lk : X.K.lookup g = some ⟨oc, od, .func (PySem.W.fnOf x x pg bg sg dV kV doc pm an cdv ct), osl⟩) (hcg : PySem.W.codeIn X.K cdv x = true) (hb : Binds X.K (PySem.W.fnOf x x pg bg sg dV kV doc pm an cdv ct) [a] []) (Sg : FnScope Ng [a] sg) (hNg : Ng[0]? = some a) (hva : Vis sg a)
    (hG : GivesN X Ng x sg g cdv bg a (X.env.qual ++ "<lambda>") TT) (TB : LamX.TabB X.base X.mg c P) (hcode : X.env.code = .ref c) (hmT : (P, X.env.qual ++ "<lambda>") ∈ T) (hu : ∀ p ∈ T, p.1 = P → p.2 = X.env.qual ++ "<lambda>") (hr : Room (k + 2) X.A) (k40 : 40 ≤ k + 1) (L : LamSD X.N X.env.scope scope) (hd1 : params.defaults = [.Constant (.int z) jz pz]) (hk0 : params.kw_defaults = []) (hl0 : scope.names.lookup a0 = some .local)
    (hbind : ∀ (q : Str) (cl : List (Str × Addr)) (dV doc pm cv ctv : Value), ∃ k, bindArgs (PySem.W.kdv_fn "<lambda>" q params (.expr body) scope cl dV doc pm cv ctv) ⟨[], []⟩ = seqItems? dV >>= k ∧ ∀ u, k (some #[u]) = pure [(a0, u)])
    (hbody : ∀ (A : Around) (outer : List Env) (s : Shared) (H : Hp) (E : XK) (f c2 : Addr), Room k (A.deeper (LamX.lamEnv X scope s.heap.objs.size f c2)) → PE (lamCxN X A outer s H E scope f c2) body (t E))
    (hdb : (x == ("__debug__" : Str)) = false := by decide) (hd : (a == ("__debug__" : Str)) = false := by decide) (hcd : (a == ("__classdict__" : Str)) = false := by decide) :
    PE X (.Call (.Name x p) [.Lambda params body scope lpos] [] pos) (LamX.tLam T TT t) := by
  refine ⟨fun pins s σ H Q I ⟨hT, y⟩ => ?_⟩
  refine wpAny_Call_Name_kw (ld_glob I hg hm (PySem.W.callWith_K (h₀ := X.base) I.ok.mod.kin hk ?_ (by rfl) (by rfl)) hdb)
  show wpAny _ _ (spliced ((false, eval (.Lambda params body scope lpos) X.env) :: backTo pos (starEach [] X.env))) _ _ s
  refine Calls.spliced_cons (lam_makeD I TB hcode hmT hu hT hd1 hk0 (L.has I.ok) fun f c2 T0 u doc2 pm2 ctv H1 s1 I1 eN T1 hf hfn hfr hT0 hTn hTr hco => Calls.spliced_nil ⟨I1.kIn, ?_⟩)
  have run : codeAny (model X.prog X.w) X.A (.call (.ref g) ⟨[.ref f], []⟩) (CR CX0 X.stack X.prog X.w H1 s1 Q E0) s1 := by
    refine LamX.run_ofS (N := Ng) (ps := [a]) (us := [.ref f]) (vs := [.ref f]) lk hcg Sg hr I1.env0 (hb s1 [.ref f] I1.kIn rfl) (.cons rfl .nil) rfl fun hr2 => ?_
    obtain ⟨t2, ht2, hq2⟩ := hG _ f c2 s1 H1 Q (fun E H' Q' => t E σ H' Q') hr2 k40 (fun W pn xe E p1 p2 tk hW => pe_actD (i := 0) I1 L hf hfn hfr hT0 hTn hTr hl0 hbind tk hW hr2 (fun A outer s H E hr3 => hbody A outer s H E f c2 hr3) hNg hva hd hcd) hco (y H1 eN T1)
    exact ⟨t2, ht2.nox, hq2⟩
  refine wpAny_call (codeAny_mono run fun rs s2 hq => ?_)
  cases rs with
  | error e => exact (show False from hq).elim
  | ok fl =>
    cases fl with
    | ret u => exact I1.after hq
    | next => exact False.elim hq
    | brk => exact False.elim hq
    | cont => exact False.elim hq
end OPL
/-! ### free reduction: stacks with the top at the head -/
def pu (st : List Int) (p : Int) : List Int := match st with
  | [] => [p]
  | q :: r => if q = -p then r else p :: q :: r
def Rdd : List Int → Prop
  | [] => True
  | [_] => True
  | a :: b :: r => a ≠ -b ∧ Rdd (b :: r)
theorem Rdd.tl {a : Int} {r : List Int} (h : Rdd (a :: r)) : Rdd r := by
  cases r with
  | nil => trivial
  | cons b r => exact h.2
theorem pu_rdd {st : List Int} (p : Int) (h : Rdd st) : Rdd (pu st p) := by
  cases st with
  | nil => trivial
  | cons q r =>
    unfold pu
    dsimp only
    by_cases e : q = -p
    · rw [if_pos e]
      exact h.tl
    · rw [if_neg e]
      exact ⟨fun z => e (by omega), h⟩
theorem pu_pu {st : List Int} {p : Int} (h : Rdd st) : pu (pu st p) (-p) = st := by
  cases st with
  | nil =>
    unfold pu
    dsimp only
    rw [if_pos (by omega)]
  | cons q r =>
    by_cases e : q = -p
    · have e1 : pu (q :: r) p = r := if_pos e
      rw [e1]
      cases r with
      | nil =>
        unfold pu
        dsimp only
        rw [e]
      | cons a r =>
        unfold pu
        dsimp only
        have := h.1
        rw [if_neg (by omega), e]
    · have e1 : pu (q :: r) p = p :: q :: r := if_neg e
      rw [e1]
      unfold pu
      dsimp only
      rw [if_pos (by omega)]
def ac (st : List Int) (l : List Int) : List Int := l.foldl pu st
theorem ac_app (st l m : List Int) : ac st (l ++ m) = ac (ac st l) m := List.foldl_append
theorem ac_rdd : ∀ (l : List Int) {st : List Int}, Rdd st → Rdd (ac st l)
  | [], _, h => h
  | p :: l, _, h => ac_rdd l (pu_rdd p h)
theorem inv_app (l m : List Int) : inv (l ++ m) = inv m ++ inv l := by
  unfold inv
  rw [List.reverse_append, List.map_append]
theorem inv_cons (p : Int) (l : List Int) : inv (p :: l) = inv l ++ [-p] := by
  unfold inv
  rw [List.reverse_cons, List.map_append]
  rfl
theorem ac_inv : ∀ (l : List Int) {st : List Int}, Rdd st → ac (ac st l) (inv l) = st
  | [], _, _ => rfl
  | p :: l, st, h => by
    rw [inv_cons, ac_app]
    show ac (ac (ac (pu st p) l) (inv l)) [-p] = st
    rw [ac_inv l (pu_rdd p h)]
    exact pu_pu h
theorem ac_inv' (l : List Int) {st : List Int} (h : Rdd st) : ac (ac st (inv l)) l = st := by
  have := ac_inv (inv l) h
  rw [inv_inv] at this
  exact this
/-- the reduced list -/
def rdc (l : List Int) : List Int := (ac [] l).reverse
/-- a walk by any steps that undo each other -/
def fw (f : Int → List Int → List Int) (st : List Int) (l : List Int) : List Int := l.foldl (fun s p => f p s) st
theorem fw_app (f : Int → List Int → List Int) (st l m : List Int) : fw f st (l ++ m) = fw f (fw f st l) m := List.foldl_append
theorem fw_rdd {f : Int → List Int → List Int} (hR : ∀ p st, Rdd st → Rdd (f p st)) : ∀ (l : List Int) {st : List Int}, Rdd st → Rdd (fw f st l)
  | [], _, h => h
  | p :: l, _, h => fw_rdd hR l (hR p _ h)
theorem fw_red {f : Int → List Int → List Int} (hR : ∀ p st, Rdd st → Rdd (f p st)) (hc : ∀ p st, Rdd st → f (-p) (f p st) = st) : ∀ (l s st : List Int), Rdd st → fw f st (s.reverse ++ l) = fw f st (ac s l).reverse
  | [], s, st, _ => by
    rw [List.append_nil]
    rfl
  | p :: l, s, st, h => by
    have ih := fw_red hR hc l (pu s p) st h
    show _ = fw f st (ac (pu s p) l).reverse
    rw [← ih]
    cases s with
    | nil => rfl
    | cons q r =>
      by_cases e : q = -p
      · have e1 : pu (q :: r) p = r := if_pos e
        rw [e1, List.reverse_cons, List.append_assoc, fw_app, fw_app]
        show fw f (f p (f q (fw f st r.reverse))) l = _
        rw [e]
        have z := hc (-p) (fw f st r.reverse) (fw_rdd hR _ h)
        rw [show - -p = p by omega] at z
        rw [z, fw_app]
      · have e1 : pu (q :: r) p = p :: q :: r := if_neg e
        rw [e1, List.reverse_cons (a := p), List.append_assoc]
        rfl
theorem ac_fw (st l : List Int) : ac st l = fw (fun p s => pu s p) st l := rfl
theorem ac_rdc (l : List Int) {st : List Int} (h : Rdd st) : ac st (rdc l) = ac st l := by
  have := fw_red (f := fun p s => pu s p) (fun p st h => pu_rdd p h) (fun p st h => pu_pu h) l [] st h
  rw [ac_fw, ac_fw, rdc]
  exact this.symm
/-- two lists that reduce alike act alike -/
theorem ac_of_rdc {l m : List Int} (e : rdc l = rdc m) {st : List Int} (h : Rdd st) : ac st l = ac st m := by
  rw [← ac_rdc l h, ← ac_rdc m h, e]
theorem rdc_of_ac {l m : List Int} (e : ac [] l = ac [] m) : rdc l = rdc m := by unfold rdc; rw [e]
theorem ac_inv_eq {l m : List Int} (e : ∀ st, Rdd st → ac st l = ac st m) {st : List Int} (h : Rdd st) : ac st (inv l) = ac st (inv m) := by
  have h1 := ac_rdd (inv m) h
  have h2 := e _ h1
  rw [ac_inv' m h] at h2
  rw [← ac_inv l h1, h2]
/-! ### what a letter makes of a symbol -/
def im0 (k s : Int) : List Int := if s = ab k then (if k > 0 then [ab k, ab k + 1, -ab k] else [ab k + 1]) else if s = ab k + 1 then (if k > 0 then [ab k] else [-(ab k + 1), ab k, ab k + 1]) else [s]
def im (k s : Int) : List Int := if s < 0 then inv (im0 k (-s)) else im0 k s
theorem ab_nn (k : Int) : 0 ≤ ab k := by unfold ab; split <;> omega
theorem ab_pos' {k : Int} (h : k ≠ 0) : 0 < ab k := by unfold ab; split <;> omega
theorem im_neg {k : Int} (hk : k ≠ 0) (s : Int) : im k (-s) = inv (im k s) := by
  have hp := ab_pos' hk
  unfold im
  by_cases h : s < 0
  · rw [if_pos h, if_neg (by omega), inv_inv]
  · rw [if_neg h]
    by_cases h0 : s = 0
    · subst h0
      rw [if_neg (by omega)]
      unfold im0
      rw [show (-0 : Int) = 0 from rfl, if_neg (by omega), if_neg (by omega)]
      rfl
    · rw [if_pos (by omega), show - -s = s by omega]
def ph (k : Int) (l : List Int) : List Int := l.flatMap (im k)
theorem ph_cons (k p : Int) (l : List Int) : ph k (p :: l) = im k p ++ ph k l := List.flatMap_cons
theorem ph_app (k : Int) (l m : List Int) : ph k (l ++ m) = ph k l ++ ph k m := List.flatMap_append
theorem ph_inv {k : Int} (hk : k ≠ 0) : ∀ l : List Int, ph k (inv l) = inv (ph k l)
  | [] => rfl
  | p :: l => by
    rw [inv_cons, ph_app, ph_inv hk l, ph_cons k p l, inv_app, ph_cons, im_neg hk]
    show _ ++ (_ ++ []) = _
    rw [List.append_nil]
theorem ac_ph (k : Int) : ∀ (l st : List Int), ac st (ph k l) = fw (fun p s => ac s (im k p)) st l
  | [], st => rfl
  | p :: l, st => by
    rw [ph_cons, ac_app, ac_ph k l]
    rfl
theorem ac_ph_rdc {k : Int} (hk : k ≠ 0) (l : List Int) {st : List Int} (h : Rdd st) : ac st (ph k (rdc l)) = ac st (ph k l) := by
  have := fw_red (f := fun p s => ac s (im k p)) (fun p st h => ac_rdd _ h) (fun p st h => by
    show ac (ac st (im k p)) (im k (-p)) = st
    rw [im_neg hk]
    exact ac_inv _ h) l [] st h
  rw [ac_ph, ac_ph, rdc]
  exact this.symm
/-- a letter's map of reduced lists -/
def tm (k : Int) (l : List Int) : List Int := rdc (ph k l)
theorem tm_rdc {k : Int} (hk : k ≠ 0) (l : List Int) : tm k (rdc l) = tm k l := rdc_of_ac (ac_ph_rdc hk l trivial)
theorem rdc_rdc (l : List Int) : rdc (rdc l) = rdc l := rdc_of_ac (ac_rdc l trivial)
theorem tm_tm {j : Int} (hj : j ≠ 0) (k : Int) (l : List Int) : tm j (tm k l) = rdc (ph j (ph k l)) := tm_rdc hj (ph k l)
theorem tm_tm3 {i j : Int} (hi : i ≠ 0) (hj : j ≠ 0) (k : Int) (l : List Int) : tm i (tm j (tm k l)) = rdc (ph i (ph j (ph k l))) := by
  rw [tm_tm hj]
  exact tm_rdc hi _
/-- two maps of symbols that agree up to reduction at each symbol agree at each list -/
theorem fw_eq {g h : Int → List Int} (hg : ∀ p, g (-p) = inv (g p)) (hh : ∀ p, h (-p) = inv (h p)) (e : ∀ p, 0 ≤ p → rdc (g p) = rdc (h p)) : ∀ (l : List Int) {st : List Int}, Rdd st → ac st (l.flatMap g) = ac st (l.flatMap h)
  | [], _, _ => rfl
  | p :: l, st, hs => by
    have key : ac st (g p) = ac st (h p) := by
      by_cases hp : 0 ≤ p
      · exact ac_of_rdc (e p hp) hs
      · have := ac_inv_eq (l := g (-p)) (m := h (-p)) (fun st z => ac_of_rdc (e (-p) (by omega)) z) hs
        rw [hg, hh, inv_inv, inv_inv] at this
        exact this
    rw [List.flatMap_cons, List.flatMap_cons, ac_app, ac_app, key]
    exact fw_eq hg hh e l (ac_rdd _ hs)
theorem fm_ph (j k : Int) (l : List Int) : ph j (ph k l) = l.flatMap fun p => ph j (im k p) := by
  unfold ph
  rw [List.flatMap_assoc]
theorem fm_ph3 (i j k : Int) (l : List Int) : ph i (ph j (ph k l)) = l.flatMap fun p => ph i (ph j (im k p)) := by
  rw [fm_ph j k, ph, List.flatMap_assoc]
  rfl
theorem ab_p {k : Int} (h : 0 < k) : ab k = k := by unfold ab; rw [if_neg (by omega)]
theorem ab_n (k : Int) : ab (-k) = ab k := by unfold ab; split <;> split <;> omega
theorem im_lo {k : Int} (h : 0 < k) : im k k = [k, k + 1, -k] := by
  unfold im im0
  rw [if_neg (by omega), ab_p h, if_pos rfl, if_pos h]
theorem im_hi {k : Int} (h : 0 < k) : im k (k + 1) = [k] := by
  unfold im im0
  rw [if_neg (by omega), ab_p h, if_neg (by omega), if_pos rfl, if_pos h]
theorem im_loN {k : Int} (h : 0 < k) : im (-k) k = [k + 1] := by
  unfold im im0
  rw [if_neg (by omega), ab_n, ab_p h, if_pos rfl, if_neg (by omega)]
theorem im_hiN {k : Int} (h : 0 < k) : im (-k) (k + 1) = [-(k + 1), k, k + 1] := by
  unfold im im0
  rw [if_neg (by omega), ab_n, ab_p h, if_neg (by omega), if_pos rfl, if_neg (by omega)]
theorem im_ot {k s : Int} (hs : 0 ≤ s) (h1 : s ≠ ab k) (h2 : s ≠ ab k + 1) : im k s = [s] := by
  unfold im im0
  rw [if_neg (by omega), if_neg h1, if_neg h2]
theorem im_fix {k : Int} (hk : k ≠ 0) {s : Int} (h1 : ab s ≠ ab k) (h2 : ab s ≠ ab k + 1) : im k s = [s] := by
  by_cases hs : 0 ≤ s
  · refine im_ot hs (fun z => h1 ?_) (fun z => h2 ?_)
    · rw [← z]; unfold ab; rw [if_neg (by omega)]
    · rw [← z]; unfold ab; rw [if_neg (by omega)]
  · have e : im k (-s) = [-s] := im_ot (by omega) (fun z => h1 (by unfold ab at z ⊢; rw [if_pos (by omega)]; exact z)) (fun z => h2 (by unfold ab at z ⊢; rw [if_pos (by omega)]; exact z))
    have := im_neg hk (-s)
    rw [e, show - -s = s by omega] at this
    rw [this]
    show [- -s] = [s]
    rw [show - -s = s by omega]
theorem ph_inv2 {j k : Int} (hj : j ≠ 0) (hk : k ≠ 0) (p : Int) : ph j (im k (-p)) = inv (ph j (im k p)) := by rw [im_neg hk, ph_inv hj]
/-- a letter and its inverse -/
theorem tm_back {k : Int} (hk : k ≠ 0) (l : List Int) : tm k (tm (-k) l) = rdc l := by
  have hk' : -k ≠ 0 := by omega
  rw [tm_tm hk, fm_ph]
  have z : l = l.flatMap fun p => [p] := by induction l with
    | nil => rfl
    | cons a l ih => rw [List.flatMap_cons, ← ih]; rfl
  refine rdc_of_ac ?_
  conv => rhs; rw [z]
  refine fw_eq (fun p => ph_inv2 hk hk' p) (fun p => rfl) (fun p hp => ?_) l trivial
  have hab := ab_pos' hk
  have han := ab_n k
  by_cases h1 : p = ab k
  · subst h1
    by_cases hs : 0 < k
    · rw [ab_p hs, im_loN hs, ph_cons, im_hi hs]
      rfl
    · obtain ⟨m, rfl⟩ : ∃ m, k = -m := ⟨-k, by omega⟩
      have hm : 0 < m := by omega
      rw [ab_n, ab_p hm, show - -m = m by omega, im_lo hm, ph_cons, ph_cons, ph_cons, im_loN hm, im_hiN hm, im_neg hk, im_loN hm]
      show rdc ([m + 1] ++ ([-(m + 1), m, m + 1] ++ ([-(m + 1)] ++ []))) = rdc [m]
      unfold rdc ac
      simp only [List.cons_append, List.nil_append, List.foldl_cons, List.foldl_nil, pu]
      simp
      rw [if_neg (by omega)]
      simp
  · by_cases h2 : p = ab k + 1
    · subst h2
      by_cases hs : 0 < k
      · rw [ab_p hs, im_hiN hs, ph_cons, ph_cons, ph_cons, im_neg hk, im_hi hs, im_lo hs]
        show rdc ([-k] ++ ([k, k + 1, -k] ++ ([k] ++ []))) = rdc [k + 1]
        unfold rdc ac
        simp only [List.cons_append, List.nil_append, List.foldl_cons, List.foldl_nil, pu]
        simp
        rw [if_neg (by omega)]
        simp
      · obtain ⟨m, rfl⟩ : ∃ m, k = -m := ⟨-k, by omega⟩
        have hm : 0 < m := by omega
        rw [ab_n, ab_p hm, show - -m = m by omega, im_hi hm, ph_cons, im_loN hm]
        rfl
    · rw [im_ot hp (by rw [han]; exact h1) (by rw [han]; exact h2), ph_cons, im_ot hp h1 h2]
      rfl
/-- letters far from each other -/
theorem tm_swap {j k : Int} (hj : j ≠ 0) (hk : k ≠ 0) (h : ab (ab j - ab k) > 1) (l : List Int) : tm j (tm k l) = tm k (tm j l) := by
  rw [tm_tm hj, tm_tm hk, fm_ph, fm_ph]
  have aj := ab_pos' hj
  have ak := ab_pos' hk
  have hd : ab j > ab k + 1 ∨ ab k > ab j + 1 := by
    rw [show ab (ab j - ab k) = if ab j - ab k < 0 then -(ab j - ab k) else ab j - ab k from rfl] at h
    split at h <;> omega
  have key : ∀ {j k : Int}, j ≠ 0 → k ≠ 0 → (ab j > ab k + 1 ∨ ab k > ab j + 1) → ∀ p, 0 ≤ p → (p = ab k ∨ p = ab k + 1) → ph j (im k p) = im k p ∧ im j p = [p] := fun {j k} hj hk hd p hp hpk => by
    have ak := ab_pos' hk
    have aj := ab_pos' hj
    have f1 : ∀ s, ab s = ab k ∨ ab s = ab k + 1 → im j s = [s] := fun s hs => im_fix hj (by omega) (by omega)
    have e0 : ab (ab k) = ab k := ab_p ak
    have e1 : ab (ab k + 1) = ab k + 1 := ab_p (by omega)
    refine ⟨?_, f1 p (by rcases hpk with rfl | rfl <;> omega)⟩
    unfold im
    rw [if_neg (by omega)]
    unfold im0
    have g0 := f1 (ab k) (.inl e0)
    have g1 := f1 (ab k + 1) (.inr e1)
    have g2 := f1 (-ab k) (.inl (by rw [ab_n]; exact e0))
    have g3 := f1 (-(ab k + 1)) (.inr (by rw [ab_n]; exact e1))
    rcases hpk with rfl | rfl
    · rw [if_pos rfl]
      by_cases s : k > 0
      · rw [if_pos s, ph_cons, ph_cons, ph_cons, g0, g1, g2]
        rfl
      · rw [if_neg s, ph_cons, g1]
        rfl
    · rw [if_neg (by omega), if_pos rfl]
      by_cases s : k > 0
      · rw [if_pos s, ph_cons, g0]
        rfl
      · rw [if_neg s, ph_cons, ph_cons, ph_cons, g0, g1, g3]
        rfl
  refine rdc_of_ac (fw_eq (fun p => ph_inv2 hj hk p) (fun p => ph_inv2 hk hj p) (fun p hp => ?_) l trivial)
  have c1 : ∀ k : Int, ∀ p : Int, ph k [p] = im k p := fun k p => by rw [ph_cons]; exact List.append_nil _
  by_cases h1 : p = ab k ∨ p = ab k + 1
  · have := key hj hk hd p hp h1
    rw [this.1, this.2, c1]
  · by_cases h2 : p = ab j ∨ p = ab j + 1
    · have := key hk hj (by omega) p hp h2
      rw [this.1, this.2, c1]
    · have e1 : im k p = [p] := im_ot hp (fun z => h1 (.inl z)) (fun z => h1 (.inr z))
      have e2 : im j p = [p] := im_ot hp (fun z => h2 (.inl z)) (fun z => h2 (.inr z))
      rw [e1, e2, c1, c1, e1, e2]
theorem tm_brd {m : Int} (hm : 0 < m) (l : List Int) : tm m (tm (m + 1) (tm m l)) = tm (m + 1) (tm m (tm (m + 1) l)) := by
  have h0 : m ≠ 0 := by omega
  have h1 : m + 1 ≠ 0 := by omega
  have hn : 0 < m + 1 := by omega
  rw [tm_tm3 h0 h1, tm_tm3 h1 h0, fm_ph3, fm_ph3]
  refine rdc_of_ac (fw_eq (fun p => by rw [im_neg h0, ph_inv h1, ph_inv h0]) (fun p => by rw [im_neg h1, ph_inv h0, ph_inv h1]) (fun p hp => ?_) l trivial)
  have a0 := ab_p hm
  have a1 := ab_p hn
  have c1 : ∀ k : Int, ∀ p : Int, ph k [p] = im k p := fun k p => by rw [ph_cons]; exact List.append_nil _
  have f0 : im (m + 1) m = [m] := im_ot (by omega) (by omega) (by omega)
  have f2 : im m (m + 1 + 1) = [m + 1 + 1] := im_ot (by omega) (by omega) (by omega)
  have n0 : im (m + 1) (-m) = [-m] := by rw [im_neg h1, f0]; rfl
  have n1 : im m (-m) = [m, -(m + 1), -m] := by rw [im_neg h0, im_lo hm]; show [- -m, _, _] = _; rw [show - -m = m by omega]
  have n2 : im m (-(m + 1)) = [-m] := by rw [im_neg h0, im_hi hm]; rfl
  by_cases e0 : p = m
  · subst e0
    rw [im_lo hm, f0, c1, im_lo hm, ph_cons, ph_cons, ph_cons, f0, n0, im_lo hn]
    show rdc (ph p [p, p + 1, p + 1 + 1, -(p + 1), -p]) = rdc [p, p + 1, p + 1 + 1, -(p + 1), -p]
    rw [ph_cons, ph_cons, ph_cons, ph_cons, ph_cons, im_lo hm, im_hi hm, f2, n1, n2]
    show rdc ([p, p + 1, -p] ++ ([p] ++ ([p + 1 + 1] ++ ([-p] ++ ([p, -(p + 1), -p] ++ []))))) = _
    unfold rdc ac
    simp only [List.cons_append, List.nil_append, List.foldl_cons, List.foldl_nil, pu]
    simp [show ¬ (p = -(p + 1)) by omega, show ¬ (p + 1 = - -p) by omega, show ¬ (p + 1 = -(p + 1 + 1)) by omega, show ¬ (p + 1 + 1 = -p) by omega, show ¬ (p + 1 + 1 = - -p) by omega, show ¬(p + 1 + 1 = - -(p+1)) by omega, show ¬ (-(p+1) = - - p) by omega, show p + 1 ≠ p by omega, show p + 1 + 1 ≠ p + 1 by omega, show p+1+1 ≠ p by omega, show -(p+1) ≠ p by omega]
  · by_cases e1 : p = m + 1
    · subst e1
      rw [im_hi hm, c1, f0, c1, im_lo hm, im_lo hn, ph_cons, ph_cons, ph_cons, im_hi hm, f2, n2]
      show _ = rdc (ph (m + 1) [m, m + 1 + 1, -m])
      rw [ph_cons, ph_cons, ph_cons, f0, im_hi hn, n0]
      rfl
    · by_cases e2 : p = m + 1 + 1
      · subst e2
        rw [f2, c1, im_hi hn, c1, im_hi hm, c1, f0]
      · have g0 : im m p = [p] := im_ot hp (by omega) (by omega)
        have g1 : im (m + 1) p = [p] := im_ot hp (by omega) (by omega)
        rw [g0, c1, g1, c1, g0, c1, g1]
/-! ### the image of a word -/
def img (w : List Int) (l : List Int) : List Int := w.foldr tm l
theorem img_app (u v l : List Int) : img (u ++ v) l = img u (img v l) := List.foldr_append
def Rl (l : List Int) : Prop := rdc l = l
theorem tm_rl (k : Int) (l : List Int) : Rl (tm k l) := rdc_rdc _
theorem img_rl : ∀ (w : List Int) {l : List Int}, Rl l → Rl (img w l)
  | [], _, h => h
  | k :: _, _, _ => tm_rl k _
theorem rl_one (s : Int) : Rl [s] := rfl
/-- two words whose images agree -/
def Eqv (u v : List Int) : Prop := ∀ l, Rl l → img u l = img v l
theorem Eqv.refl (u : List Int) : Eqv u u := fun _ _ => rfl
theorem Eqv.trans {u v x : List Int} (a : Eqv u v) (b : Eqv v x) : Eqv u x := fun l h => (a l h).trans (b l h)
theorem Eqv.symm {u v : List Int} (a : Eqv u v) : Eqv v u := fun l h => (a l h).symm
theorem Eqv.in {u v : List Int} (a b : List Int) (e : Eqv u v) : Eqv (a ++ u ++ b) (a ++ v ++ b) := fun l h => by
  rw [img_app, img_app, img_app, img_app, e _ (img_rl b h)]
theorem tm_back' {k : Int} (hk : k ≠ 0) (l : List Int) : tm (-k) (tm k l) = rdc l := by
  have := tm_back (k := -k) (by omega) l
  rw [show - -k = k by omega] at this
  exact this
theorem eqv_ins {k : Int} (hk : k ≠ 0) : Eqv [] [k, -k] := fun l h => ((tm_back hk l).trans h).symm
theorem eqv_swap {j k : Int} (hj : j ≠ 0) (hk : k ≠ 0) (h : ab (ab j - ab k) > 1) : Eqv [j, k] [k, j] := fun l _ => tm_swap hj hk h l
section
variable {X X' Y Y' : List Int → List Int} (rx : ∀ l, Rl (X l)) (rx' : ∀ l, Rl (X' l)) (ry : ∀ l, Rl (Y l)) (ry' : ∀ l, Rl (Y' l))
  (xx : ∀ l, Rl l → X (X' l) = l) (xx' : ∀ l, Rl l → X' (X l) = l) (yy : ∀ l, Rl l → Y (Y' l) = l) (yy' : ∀ l, Rl l → Y' (Y l) = l) (b : ∀ l, X (Y (X l)) = Y (X (Y l)))
include rx rx' ry ry' xx xx' yy yy' b
theorem br1 {l : List Int} (h : Rl l) : X (Y (X' l)) = Y' (X (Y l)) := by
  have e := xx l h
  generalize X' l = k at *
  subst e
  rw [b, yy' _ (rx _)]
theorem br2 {l : List Int} (h : Rl l) : X' (Y (X l)) = Y (X (Y' l)) := by
  have e := yy l h
  generalize Y' l = k at *
  subst e
  rw [← b, xx' _ (ry _)]
theorem br3 {l : List Int} (h : Rl l) : X (Y' (X' l)) = Y' (X' (Y l)) := by
  have e := xx l h
  have hk := rx' l
  generalize X' l = k at *
  subst e
  have e := yy k hk
  generalize Y' k = j at *
  subst e
  rw [← b, xx' _ (ry _), yy' _ (rx _)]
theorem br4 {l : List Int} (h : Rl l) : X' (Y' (X l)) = Y (X' (Y' l)) := by
  have e := yy l h
  have hk := ry' l
  generalize Y' l = k at *
  subst e
  have e := xx k hk
  generalize X' k = j at *
  subst e
  rw [b, yy' _ (rx _), xx' _ (ry _)]
theorem br5 {l : List Int} (h : Rl l) : X' (Y' (X' l)) = Y' (X' (Y' l)) := by
  have e : X (Y (X (X' (Y' (X' l))))) = l := by rw [xx _ (ry' _), yy _ (rx' _), xx _ h]
  have hi := rx' (Y' (X' l))
  generalize X' (Y' (X' l)) = i at *
  rw [← e, b, yy' _ (rx _), xx' _ (ry _), yy' _ hi]
end
theorem tm_brd' {j k : Int} (hj : 0 < j) (hk : 0 < k) (h : ab (j - k) = 1) (l : List Int) : tm j (tm k (tm j l)) = tm k (tm j (tm k l)) := by
  have hd : k = j + 1 ∨ j = k + 1 := by
    unfold ab at h
    split at h <;> omega
  rcases hd with rfl | rfl
  · exact tm_brd hj l
  · exact (tm_brd hk l).symm
/-- what the law makes of three letters -/
def brd (a b c : Int) : Option (List Int) := if ab c ≠ ab a ∨ ab (ab a - ab b) ≠ 1 then none else if c = 0 - a then some [0 - lsg a * ab b, lsg b * ab a, lsg a * ab b] else if lsg b = lsg a then some [b, a, b] else none
theorem sgn_ab {a : Int} (h : a ≠ 0) : (0 < a ∧ a = ab a ∧ lsg a = 1) ∨ (a < 0 ∧ a = -ab a ∧ lsg a = -1) := by
  unfold ab lsg
  by_cases z : 0 < a
  · left
    refine ⟨z, ?_, if_pos z⟩
    rw [if_neg (by omega)]
  · right
    refine ⟨by omega, ?_, if_neg z⟩
    rw [if_pos (by omega)]
    omega
theorem eqv_brd {a b c : Int} (ha : a ≠ 0) (hb : b ≠ 0) {r : List Int} (e : brd a b c = some r) : Eqv [a, b, c] r := by
  intro l hl
  have pa := ab_pos' ha
  have pb := ab_pos' hb
  unfold brd at e
  by_cases h1 : ab c ≠ ab a ∨ ab (ab a - ab b) ≠ 1
  · rw [if_pos h1] at e
    cases e
  rw [if_neg h1] at e
  have hc : ab c = ab a := Classical.byContradiction fun z => h1 (.inl z)
  have hd : ab (ab a - ab b) = 1 := Classical.byContradiction fun z => h1 (.inr z)
  have bb := fun l => tm_brd' pa pb hd l
  have sa := sgn_ab ha
  have sb := sgn_ab hb
  have hc' : c = 0 - a ∨ c = a := by
    have hc := hc
    unfold ab at hc
    split at hc <;> split at hc <;> omega
  clear h1 hc hd
  generalize ab a = x at *
  generalize ab b = y at *
  have x0 : x ≠ 0 := by omega
  have y0 : y ≠ 0 := by omega
  have x1 := fun l => tm_rl x l
  have x2 := fun l => tm_rl (-x) l
  have y1 := fun l => tm_rl y l
  have y2 := fun l => tm_rl (-y) l
  have xx := fun l (h : Rl l) => (tm_back x0 l).trans h
  have xx' := fun l (h : Rl l) => (tm_back' x0 l).trans h
  have yy := fun l (h : Rl l) => (tm_back y0 l).trans h
  have yy' := fun l (h : Rl l) => (tm_back' y0 l).trans h
  by_cases hz : c = 0 - a
  · rw [if_pos hz] at e
    cases e
    rcases sa with ⟨_, ea, la⟩ | ⟨_, ea, la⟩ <;> rcases sb with ⟨_, eb, lb⟩ | ⟨_, eb, lb⟩ <;> rw [la, lb]
    · rw [hz, ea, eb, show 0 - x = -x by omega, show 0 - 1 * y = -y by omega, Int.one_mul, Int.one_mul]
      exact br1 x1 x2 y1 y2 xx xx' yy yy' bb hl
    · rw [hz, ea, eb, show 0 - x = -x by omega, show 0 - 1 * y = -y by omega, show -1 * x = -x by omega, Int.one_mul]
      exact br3 x1 x2 y1 y2 xx xx' yy yy' bb hl
    · rw [hz, ea, eb, show 0 - -x = x by omega, show 0 - -1 * y = y by omega, show -1 * y = -y by omega, Int.one_mul]
      exact br2 x1 x2 y1 y2 xx xx' yy yy' bb hl
    · rw [hz, ea, eb, show 0 - -x = x by omega, show 0 - -1 * y = y by omega, show -1 * y = -y by omega, show -1 * x = -x by omega]
      exact br4 x1 x2 y1 y2 xx xx' yy yy' bb hl
  · rw [if_neg hz] at e
    have ec : c = a := hc'.resolve_left hz
    rcases sa with ⟨_, ea, la⟩ | ⟨_, ea, la⟩ <;> rcases sb with ⟨_, eb, lb⟩ | ⟨_, eb, lb⟩ <;> rw [la, lb] at e
    · rw [if_pos rfl] at e
      cases e
      rw [ec, ea, eb]
      exact bb l
    · rw [if_neg (by omega)] at e
      cases e
    · rw [if_neg (by omega)] at e
      cases e
    · rw [if_pos rfl] at e
      cases e
      rw [ec, ea, eb]
      exact br5 x1 x2 y1 y2 xx xx' yy yy' bb hl
/-! ### the law's moves -/
def mvC (ns : List Int) (i : Nat) : Option (List Int) := match ns[i]?, ns[i + 1]? with
  | some a, some b => if a = 0 - b then some [] else none
  | _, _ => none
def mvS (ns : List Int) (i : Nat) : Option (List Int) := match ns[i]?, ns[i + 1]? with
  | some a, some b => if ab (ab a - ab b) > 1 then some [b, a] else none
  | _, _ => none
def mvB (ns : List Int) (i : Nat) : Option (List Int) := match ns[i]?, ns[i + 1]?, ns[i + 2]? with
  | some a, some b, some c => brd a b c
  | _, _, _ => none
/-- the word of a move: 0 cancel, 1 swap, 2 braid -/
def mvK (w : Nat) (ns : List Int) (i : Nat) : Option (List Int) := if w = 0 then mvC ns i else if w = 1 then mvS ns i else mvB ns i
def mvN (w : Nat) : Nat := if w = 0 then 2 else if w = 1 then 2 else 3
def mvF (w : Nat) (ns : List Int) (i : Nat) : Option (List Int) := (mvK w ns i).map fun m => ns.take i ++ m ++ ns.drop (i + mvN w)
theorem split2' {ts : List Int} {j : Nat} {a b : Int} (ha : ts[j]? = some a) (hb : ts[j + 1]? = some b) : ts = ts.take j ++ [a, b] ++ ts.drop (j + 2) := by
  have h1 := (List.getElem?_eq_some_iff.mp ha).1
  have h2 := (List.getElem?_eq_some_iff.mp hb).1
  have e1 : ts[j] = a := (List.getElem?_eq_some_iff.mp ha).2
  have e2 : ts[j + 1] = b := (List.getElem?_eq_some_iff.mp hb).2
  have h3 : ts.drop j = [a, b] ++ ts.drop (j + 2) := by
    rw [List.drop_eq_getElem_cons h1, List.drop_eq_getElem_cons h2, e1, e2]
    rfl
  calc ts = ts.take j ++ ts.drop j := (List.take_append_drop j ts).symm
    _ = _ := by rw [h3, List.append_assoc]
theorem split3' {ts : List Int} {j : Nat} {a b c : Int} (ha : ts[j]? = some a) (hb : ts[j + 1]? = some b) (hc : ts[j + 2]? = some c) : ts = ts.take j ++ [a, b, c] ++ ts.drop (j + 3) := by
  have h3 := (List.getElem?_eq_some_iff.mp hc).1
  have e3 : ts[j + 2] = c := (List.getElem?_eq_some_iff.mp hc).2
  have e := split2' ha hb
  rw [List.drop_eq_getElem_cons h3, e3] at e
  calc ts = _ := e
    _ = _ := by simp
theorem mvF_eqv {w : Nat} {ns : List Int} {i : Nat} {r : List Int} (h0 : ∀ n ∈ ns, n ≠ 0) (e : mvF w ns i = some r) : Eqv ns r := by
  unfold mvF at e
  obtain ⟨m, e1, rfl⟩ := Option.map_eq_some_iff.mp e
  unfold mvK at e1
  by_cases w0 : w = 0
  · subst w0
    rw [if_pos rfl] at e1
    unfold mvC at e1
    cases ha : ns[i]? with
    | none => rw [ha] at e1; cases e1
    | some a =>
      cases hb : ns[i + 1]? with
      | none => rw [ha, hb] at e1; cases e1
      | some b =>
        rw [ha, hb] at e1
        dsimp only at e1
        by_cases z : a = 0 - b
        · rw [if_pos z] at e1
          cases e1
          have z2 : b = -a := by omega
          have := (eqv_ins (h0 a (List.mem_of_getElem? ha))).in (ns.take i) (ns.drop (i + 2))
          rw [← z2, ← split2' ha hb] at this
          exact this.symm
        · rw [if_neg z] at e1; cases e1
  rw [if_neg w0] at e1
  by_cases w1 : w = 1
  · subst w1
    rw [if_pos rfl] at e1
    unfold mvS at e1
    cases ha : ns[i]? with
    | none => rw [ha] at e1; cases e1
    | some a =>
      cases hb : ns[i + 1]? with
      | none => rw [ha, hb] at e1; cases e1
      | some b =>
        rw [ha, hb] at e1
        dsimp only at e1
        by_cases z : ab (ab a - ab b) > 1
        · rw [if_pos z] at e1
          cases e1
          have := (eqv_swap (h0 a (List.mem_of_getElem? ha)) (h0 b (List.mem_of_getElem? hb)) z).in (ns.take i) (ns.drop (i + 2))
          rw [← split2' ha hb] at this
          exact this
        · rw [if_neg z] at e1; cases e1
  rw [if_neg w1] at e1
  unfold mvB at e1
  cases ha : ns[i]? with
  | none => rw [ha] at e1; cases e1
  | some a =>
    cases hb : ns[i + 1]? with
    | none => rw [ha, hb] at e1; cases e1
    | some b =>
      cases hc : ns[i + 2]? with
      | none => rw [ha, hb, hc] at e1; cases e1
      | some c =>
        rw [ha, hb, hc] at e1
        have := (eqv_brd (h0 a (List.mem_of_getElem? ha)) (h0 b (List.mem_of_getElem? hb)) e1).in (ns.take i) (ns.drop (i + 3))
        rw [← split3' ha hb hc] at this
        rw [show mvN w = 3 by unfold mvN; rw [if_neg w0, if_neg w1]]
        exact this
/-! ### a word with 1 and without -1 takes 1 to what ends with -1 -/
theorem rdd_snoc : ∀ {l : List Int} {b : Int}, Rdd l → (∀ a, l.getLast? = some a → a ≠ -b) → Rdd (l ++ [b])
  | [], _, _, _ => trivial
  | [a], b, _, h => ⟨h a rfl, trivial⟩
  | a :: c :: l, b, h, z => ⟨h.1, rdd_snoc h.2 fun x hx => z x (by rw [List.getLast?_cons_cons]; exact hx)⟩
theorem rdd_rev : ∀ {l : List Int}, Rdd l → Rdd l.reverse
  | [], _ => trivial
  | a :: l, h => by
    rw [List.reverse_cons]
    refine rdd_snoc (rdd_rev h.tl) fun x hx => ?_
    rw [List.getLast?_reverse] at hx
    cases l with
    | nil => cases hx
    | cons c l =>
      cases hx
      have := h.1
      omega
theorem ac_flat : ∀ {x st : List Int}, Rdd x → (∀ p q, x.head? = some p → st.head? = some q → q ≠ -p) → ac st x = x.reverse ++ st
  | [], _, _, _ => rfl
  | p :: x, st, h, z => by
    have e : pu st p = p :: st := by
      cases st with
      | nil => rfl
      | cons q r => exact if_neg (z p q rfl rfl)
    show ac (pu st p) x = _
    rw [e, ac_flat h.tl fun p' q e1 e2 => ?_, List.reverse_cons, List.append_assoc]
    · rfl
    · cases e2
      cases x with
      | nil => cases e1
      | cons a x =>
        cases e1
        exact h.1
theorem rl_rdd {l : List Int} (h : Rl l) : Rdd l := by
  have h1 := ac_rdd l (st := []) trivial
  have h2 := rdd_rev h1
  have h : rdc l = l := h
  unfold rdc at h
  rw [h] at h2
  exact h2
theorem rdd_rl {l : List Int} (h : Rdd l) : Rl l := by
  show rdc l = l
  unfold rdc
  rw [ac_flat h fun _ _ _ z => (by cases z), List.append_nil, List.reverse_reverse]
theorem rdd_left : ∀ {l m : List Int}, Rdd (l ++ m) → Rdd l
  | [], _, _ => trivial
  | [_], _, _ => trivial
  | _ :: b :: l, m, h => ⟨h.1, rdd_left (l := b :: l) h.2⟩
theorem rdd_right : ∀ {l m : List Int}, Rdd (l ++ m) → Rdd m
  | [], _, h => h
  | _ :: l, m, h => rdd_right (l := l) (Rdd.tl h)
/-- how often a magnitude stands in a list -/
def cn (q : Int) (l : List Int) : Nat := l.countP fun x => decide (ab x = ab q)
theorem cn_app (q : Int) (l m : List Int) : cn q (l ++ m) = cn q l + cn q m := List.countP_append
theorem cn_pu (q : Int) (st : List Int) (p : Int) : cn q (pu st p) ≤ cn q st + cn q [p] := by
  cases st with
  | nil =>
    show cn q [p] ≤ cn q [] + cn q [p]
    omega
  | cons a r =>
    by_cases e : a = -p
    · rw [show pu (a :: r) p = r from if_pos e, show a :: r = [a] ++ r from rfl, cn_app]
      omega
    · rw [show pu (a :: r) p = p :: a :: r from if_neg e, show p :: a :: r = [p] ++ (a :: r) from rfl, cn_app]
      omega
theorem cn_ac (q : Int) : ∀ (l st : List Int), cn q (ac st l) ≤ cn q st + cn q l
  | [], _ => Nat.le_refl _
  | p :: l, st => by
    have h1 := cn_ac q l (pu st p)
    have h2 := cn_pu q st p
    rw [show p :: l = [p] ++ l from rfl, cn_app]
    show cn q (ac (pu st p) l) ≤ _
    omega
theorem cn_rev (q : Int) (l : List Int) : cn q l.reverse = cn q l := List.countP_reverse
theorem ab_ab (k : Int) : ab (ab k) = ab k := by
  have := ab_nn k
  rw [show ab (ab k) = if ab k < 0 then -ab k else ab k from rfl, if_neg (by omega)]
theorem cn_im {k q : Int} (hk : k ≠ 0) (h1 : ab q ≠ ab k) (h2 : ab q ≠ ab k + 1) (s : Int) : cn q (im k s) = cn q [s] := by
  have hp := ab_pos' hk
  have e0 : ab (ab k) = ab k := ab_ab k
  have e1 : ab (ab k + 1) = ab k + 1 := ab_p (by omega)
  have key : ∀ s, cn q (im0 k s) = cn q [s] := fun s => by
    unfold im0
    by_cases z1 : s = ab k
    · rw [if_pos z1]
      have : cn q [s] = 0 := by
        unfold cn
        simp [z1, e0, Ne.symm h1]
      rw [this]
      split
      · unfold cn
        simp [ab_n, e0, e1, Ne.symm h1, Ne.symm h2]
      · unfold cn
        simp [ab_n, e0, e1, Ne.symm h1, Ne.symm h2]
    · rw [if_neg z1]
      by_cases z2 : s = ab k + 1
      · rw [if_pos z2]
        have : cn q [s] = 0 := by
          unfold cn
          simp [z2, e1, Ne.symm h2]
        rw [this]
        split
        · unfold cn
          simp [ab_n, e0, e1, Ne.symm h1, Ne.symm h2]
        · unfold cn
          simp only [List.countP_cons, List.countP_nil, ab_n, e0, e1, decide_eq_false (Ne.symm h1), decide_eq_false (Ne.symm h2)]
          rfl
      · rw [if_neg z2]
  have kinv : ∀ l, cn q (inv l) = cn q l := fun l => by
    unfold inv cn
    rw [List.countP_map, List.countP_reverse]
    refine List.countP_congr fun x _ => ?_
    show decide (ab (-x) = ab q) = true ↔ _
    rw [ab_n]
  unfold im
  split
  · rw [kinv, key]
    unfold cn
    simp only [List.countP_cons, ab_n]
  · exact key s
theorem cn_ph {k q : Int} (hk : k ≠ 0) (h1 : ab q ≠ ab k) (h2 : ab q ≠ ab k + 1) : ∀ l : List Int, cn q (ph k l) = cn q l
  | [] => rfl
  | p :: l => by rw [ph_cons, cn_app, cn_im hk h1 h2, cn_ph hk h1 h2 l, show p :: l = [p] ++ l from rfl, cn_app]
theorem cn_tm {k q : Int} (hk : k ≠ 0) (h1 : ab q ≠ ab k) (h2 : ab q ≠ ab k + 1) {l : List Int} (h : Rl l) : cn q (tm k l) = cn q l := by
  have le : ∀ {k : Int}, k ≠ 0 → ab q ≠ ab k → ab q ≠ ab k + 1 → ∀ l, cn q (tm k l) ≤ cn q l := fun {k} hk h1 h2 l => by
    have := cn_ac q (ph k l) []
    rw [cn_ph hk h1 h2 l] at this
    unfold tm rdc
    rw [cn_rev]
    have e : cn q [] = 0 := rfl
    omega
  have a := le hk h1 h2 l
  have b := le (k := -k) (by omega) (by rw [ab_n]; exact h1) (by rw [ab_n]; exact h2) (tm k l)
  rw [tm_back' hk, show rdc l = l from h] at b
  omega
/-- a letter that the map fixes stays at the end -/
theorem tm_last {k q : Int} (hk : k ≠ 0) (h1 : ab q ≠ ab k) (h2 : ab q ≠ ab k + 1) {u : List Int} (h : Rl (u ++ [q])) : ac [] (ph k (u ++ [q])) = q :: ac [] (ph k u) := by
  have e : ac [] (ph k (u ++ [q])) = pu (ac [] (ph k u)) q := by
    rw [ph_app, ac_app, ph_cons, im_fix hk h1 h2]
    rfl
  rw [e]
  cases z : ac [] (ph k u) with
  | nil => rfl
  | cons a r =>
    by_cases ea : a = -q
    · exfalso
      have c1 := cn_tm hk h1 h2 h
      have c2 := cn_ac q (ph k u) []
      rw [cn_ph hk h1 h2 u, z] at c2
      unfold tm rdc at c1
      rw [e, z, show pu (a :: r) q = r from if_pos ea, cn_rev, cn_app] at c1
      have c3 : cn q (a :: r) = cn q r + 1 := by
        unfold cn
        rw [List.countP_cons_of_pos]
        rw [ea, ab_n]
        exact decide_eq_true rfl
      have c4 : cn q [] = 0 := rfl
      omega
    · exact if_neg ea
def sw (x : Int) : Int := if x = 1 then 2 else if x = 2 then 1 else if x = -1 then -2 else if x = -2 then -1 else x
theorem sw_ne {a b : Int} (h : a ≠ -b) : sw a ≠ -sw b := by
  unfold sw
  repeat' split
  all_goals omega
theorem rdd_sw : ∀ {l : List Int}, Rdd l → Rdd (l.map sw)
  | [], _ => trivial
  | [_], _ => trivial
  | a :: b :: l, h => ⟨sw_ne h.1, rdd_sw (l := b :: l) h.2⟩
theorem ac_sw1 {p : Int} (hp : ab p = 1 ∨ ab p = 2) {st : List Int} (h : Rdd st) : ac st (im 1 p) = ac st [1, sw p, -1] := by
  have hc : p = 1 ∨ p = 2 ∨ p = -1 ∨ p = -2 := by
    unfold ab at hp
    split at hp <;> omega
  rcases hc with rfl | rfl | rfl | rfl <;> exact ac_of_rdc (by decide) h
theorem ac_sw : ∀ {v st : List Int}, (∀ p ∈ v, ab p = 1 ∨ ab p = 2) → Rdd st → ac st (ph 1 v) = ac st ([1] ++ v.map sw ++ [-1])
  | [], st, _, h => (ac_inv [1] h).symm
  | p :: v, st, hv, h => by
    have h2 : Rdd (ac st [1, sw p]) := ac_rdd _ h
    rw [ph_cons, ac_app, ac_sw1 (hv p List.mem_cons_self) h, ac_sw (fun q hq => hv q (List.mem_cons_of_mem _ hq)) (ac_rdd _ h)]
    show ac (ac (ac st [1, sw p]) [-1]) ([1] ++ v.map sw ++ [-1]) = ac (ac st [1, sw p]) (v.map sw ++ [-1])
    rw [List.append_assoc, ac_app _ [1]]
    have := ac_inv [-1] h2
    rw [show inv [-1] = [1] from rfl] at this
    rw [this]
theorem cut_sw : ∀ u : List Int, ∃ u' v, u = u' ++ v ∧ (∀ p ∈ v, ab p = 1 ∨ ab p = 2) ∧ (u' = [] ∨ ∃ u'' q, u' = u'' ++ [q] ∧ ab q ≠ 1 ∧ ab q ≠ 2)
  | [] => ⟨[], [], rfl, fun _ h => (nomatch h), .inl rfl⟩
  | a :: t => by
    obtain ⟨u', v, e, hv, h⟩ := cut_sw t
    rcases h with rfl | ⟨u'', q, rfl, hq⟩
    · by_cases ha : ab a = 1 ∨ ab a = 2
      · refine ⟨[], a :: v, by rw [e]; rfl, fun p hp => ?_, .inl rfl⟩
        rcases List.mem_cons.mp hp with rfl | hp
        · exact ha
        · exact hv p hp
      · exact ⟨[a], v, by rw [e]; rfl, hv, .inr ⟨[], a, rfl, fun z => ha (.inl z), fun z => ha (.inr z)⟩⟩
    · exact ⟨a :: (u'' ++ [q]), v, by rw [e]; rfl, hv, .inr ⟨a :: u'', q, rfl, hq⟩⟩
/-- the last one of a list is -1 -/
def E1 (l : List Int) : Prop := ∃ u, l = u ++ [-1]
theorem e1_far {k : Int} (hk : 1 < ab k) {l : List Int} (h : Rl l) (he : E1 l) : E1 (tm k l) := by
  obtain ⟨u, rfl⟩ := he
  have k0 : k ≠ 0 := fun z => by
    subst z
    exact absurd hk (by decide)
  have := tm_last (q := -1) k0 (by rw [show ab (-1) = 1 from rfl]; omega) (by rw [show ab (-1) = 1 from rfl]; omega) h
  unfold tm rdc
  rw [this, List.reverse_cons]
  exact ⟨_, rfl⟩
theorem e1_one {l : List Int} (h : Rl l) (he : E1 l) : E1 (tm 1 l) := by
  obtain ⟨u, rfl⟩ := he
  obtain ⟨u', v, rfl, hv, hu⟩ := cut_sw u
  have hr := rl_rdd h
  have hS : ∀ q, (ac [] (ph 1 u')).head? = some q → ab q ≠ 1 ∧ ab q ≠ 2 := by
    rcases hu with rfl | ⟨u'', q, rfl, q1, q2⟩
    · intro q z
      cases z
    · intro q' z
      have hR : Rl (u'' ++ [q]) := by
        rw [List.append_assoc] at hr
        exact rdd_rl (rdd_left hr)
      rw [tm_last (by decide) (by rw [show ab 1 = 1 from rfl]; exact q1) (by rw [show ab 1 = 1 from rfl]; exact q2) hR] at z
      cases z
      exact ⟨q1, q2⟩
  have hv' : ∀ p ∈ v ++ [-1], ab p = 1 ∨ ab p = 2 := fun p hp => by
    rcases List.mem_append.mp hp with hp | hp
    · exact hv p hp
    · rw [List.mem_singleton.mp hp]
      exact .inl rfl
  have hx : Rdd ((v ++ [-1]).map sw) := by
    rw [List.append_assoc] at hr
    exact rdd_sw (rdd_right hr)
  have e : ac [] (ph 1 (u' ++ v ++ [-1])) = ac (ac [] (ph 1 u')) ([1] ++ (v ++ [-1]).map sw ++ [-1]) := by
    rw [List.append_assoc, ph_app, ac_app, ac_sw hv' (ac_rdd (st := []) _ trivial)]
  have hxl : (v ++ [-1]).map sw = v.map sw ++ [-2] := by
    rw [List.map_append]
    rfl
  have hm : ∀ p ∈ (v ++ [-1]).map sw, ab p = 1 ∨ ab p = 2 := fun p hp => by
    obtain ⟨q, hq, rfl⟩ := List.mem_map.mp hp
    have := hv' q hq
    unfold ab sw at *
    repeat' split
    all_goals omega
  generalize ac [] (ph 1 u') = S at *
  have e1 : ac S [1] = 1 :: S := ac_flat (x := [1]) trivial fun p q e1 e2 => by
    cases e1
    have := (hS q e2).1
    intro z
    subst z
    exact this rfl
  have fin : ∀ y : List Int, ac S ([1] ++ (v ++ [-1]).map sw) = -2 :: y → E1 (tm 1 (u' ++ v ++ [-1])) := fun y z => by
    unfold tm rdc
    rw [e, ac_app, z, show ac (-2 :: y) [-1] = -1 :: -2 :: y from rfl, List.reverse_cons]
    exact ⟨_, rfl⟩
  rw [ac_app, e1] at fin
  cases hc : (v ++ [-1]).map sw with
  | nil =>
    rw [hxl] at hc
    exact absurd hc (by simp)
  | cons p x =>
    by_cases hp : p = -1
    · subst hp
      rw [hc] at fin hx hxl hm
      cases x with
      | nil =>
        cases v with
        | nil => cases hxl
        | cons a v => exact absurd (congrArg List.length hxl) (by simp)
      | cons p2 x =>
        have e2 : ac (1 :: S) (-1 :: p2 :: x) = (p2 :: x).reverse ++ S := by
          show ac (pu (1 :: S) (-1)) (p2 :: x) = _
          rw [show pu (1 :: S) (-1) = S from rfl]
          refine ac_flat hx.2 fun p q e1 e2 => ?_
          cases e1
          have h1 := hS q e2
          have h2 := hm p2 (List.mem_cons_of_mem _ List.mem_cons_self)
          intro z
          rw [z, ab_n] at h1
          omega
        cases v with
        | nil => cases hxl
        | cons a v =>
          have e3 : p2 :: x = v.map sw ++ [-2] := by
            have : -1 :: p2 :: x = sw a :: (v.map sw ++ [-2]) := hxl
            injection this
          refine fin ((v.map sw).reverse ++ S) ?_
          rw [e2, e3, List.reverse_append]
          rfl
    · have e2 : ac (1 :: S) ((v ++ [-1]).map sw) = ((v ++ [-1]).map sw).reverse ++ (1 :: S) := by
        refine ac_flat hx fun p' q e1 e2 => ?_
        rw [hc] at e1
        cases e1
        cases e2
        omega
      refine fin ((v.map sw).reverse ++ (1 :: S)) ?_
      rw [e2, hxl, List.reverse_append]
      rfl
theorem larue : ∀ (w : List Int), (∀ k ∈ w, k ≠ 0 ∧ k ≠ -1) → (1 ∈ w → E1 (img w [1])) ∧ (1 ∉ w → img w [1] = [1])
  | [], _ => ⟨fun h => (nomatch h), fun _ => rfl⟩
  | k :: w, h => by
    obtain ⟨i1, i2⟩ := larue w fun j hj => h j (List.mem_cons_of_mem _ hj)
    have hk := h k List.mem_cons_self
    have far : k ≠ 1 → 1 < ab k := fun z => by
      unfold ab
      split <;> omega
    refine ⟨fun hm => ?_, fun hm => ?_⟩
    · show E1 (tm k (img w [1]))
      by_cases h1 : 1 ∈ w
      · by_cases hk1 : k = 1
        · rw [hk1]
          exact e1_one (img_rl w (rl_one 1)) (i1 h1)
        · exact e1_far (far hk1) (img_rl w (rl_one 1)) (i1 h1)
      · have hk1 : k = 1 := by
          rcases List.mem_cons.mp hm with e | e
          · exact e.symm
          · exact absurd e h1
        rw [i2 h1, hk1]
        exact ⟨[1, 2], by decide⟩
    · have hk1 : k ≠ 1 := fun z => hm (by rw [z]; exact List.mem_cons_self)
      show tm k (img w [1]) = [1]
      rw [i2 fun z => hm (List.mem_cons_of_mem _ z)]
      unfold tm
      rw [ph_cons, im_fix hk.1 (by have := far hk1; rw [show ab 1 = 1 from rfl]; omega) (by have := far hk1; rw [show ab 1 = 1 from rfl]; omega)]
      rfl
theorem three_le : 3 ≤ sizeLine := by decide
/-! ### images: promises -/
def spImB (K : PySem.W.Frag) (n : Nat) : Sp := fun vs H Q _ => ∃ k s : Int, vs = [.int k, .int s] ∧ k ≠ 0 ∧ 1 ≤ n ∧ (0 ≤ s ∨ 2 ≤ n) ∧ ∀ p H', Same H H' → WT K H' p (im k s) → Q (.ref p) H'
def spMap : Sp := fun vs H Q _ => ∃ (k : Int) (a : Addr) (l : List Int), vs = [.int k, .ref a] ∧ k ≠ 0 ∧ H a = some (.lst (l.map V.int)) ∧ l.length ≤ 100000 ∧ ∀ p H', Same H H' → H p = none → H' p = some (.lst ((tm k l).map V.int)) → Q (.ref p) H'
/-- image_of where nothing is raised -/
def spImgK (K : PySem.W.Frag) : Sp := fun vs H Q _ => ∃ (a : Addr) (ns : List Int) (s : Int), vs = [.ref a, .int s] ∧ WT K H a ns ∧ okW ns = true ∧ ns.length ≤ 10 ∧ 1 ≤ s ∧ s ≤ 41 ∧ ∀ p H', Same H H' → WT K H' p (img ns [s]) → Q (.ref p) H'
theorem im_len (k s : Int) : (im k s).length ≤ 3 := by
  unfold im im0
  repeat' split
  all_goals simp [inv]
theorem ac_len : ∀ (l st : List Int), (ac st l).length ≤ st.length + l.length
  | [], _ => Nat.le_refl _
  | p :: l, st => by
    have h1 := ac_len l (pu st p)
    have h2 : (pu st p).length ≤ st.length + 1 := by
      cases st with
      | nil => exact Nat.le_refl _
      | cons q r =>
        unfold pu
        dsimp only
        split
        · show r.length ≤ r.length + 1 + 1
          omega
        · exact Nat.le_refl _
    show (ac (pu st p) l).length ≤ st.length + (l.length + 1)
    omega
theorem ph_len (k : Int) : ∀ l : List Int, (ph k l).length ≤ 3 * l.length
  | [] => Nat.le_refl _
  | p :: l => by
    have h1 := ph_len k l
    have h2 := im_len k p
    rw [ph_cons, List.length_append, List.length_cons]
    omega
theorem tm_len (k : Int) (l : List Int) : (tm k l).length ≤ 3 * l.length := by
  have h1 := ac_len (ph k l) []
  have h2 := ph_len k l
  unfold tm rdc
  rw [List.length_reverse]
  simp only [List.length_nil, Nat.zero_add] at h1
  omega
theorem img_len : ∀ (w l : List Int), (img w l).length ≤ 3 ^ w.length * l.length
  | [], l => by show l.length ≤ 1 * l.length; omega
  | k :: w, l => by
    have h1 := img_len w l
    have h2 := tm_len k (img w l)
    show (tm k (img w l)).length ≤ 3 ^ (w.length + 1) * l.length
    rw [Nat.pow_succ, Nat.mul_comm (3 ^ w.length) 3, Nat.mul_assoc]
    omega
/-- the list of a stack -/
def stl (st : List Int) : List V := st.reverse.map V.int
theorem stl_cons (p : Int) (st : List Int) : stl (p :: st) = stl st ++ [.int p] := by
  unfold stl
  rw [List.reverse_cons, List.map_append]
  rfl
theorem stl_len (st : List Int) : (stl st).length = st.length := by unfold stl; rw [List.length_map, List.length_reverse]
theorem pu_pop {q p : Int} {r : List Int} (h : q = -p) : pu (q :: r) p = r := if_pos h
theorem pu_add {st : List Int} {p : Int} (h : ∀ q, st.head? = some q → q ≠ -p) : pu st p = p :: st := by
  cases st with
  | nil => rfl
  | cons q r => exact if_neg (h q rfl)
theorem ac_snoc (st l : List Int) (p : Int) : ac st (l ++ [p]) = pu (ac st l) p := ac_app st l [p]
theorem ph_snoc (k : Int) (l : List Int) (p : Int) : ph k (l ++ [p]) = ph k l ++ im k p := by
  rw [ph_app, ph_cons]
  show _ ++ (_ ++ []) = _
  rw [List.append_nil]
/-! ### a walk over a tuple from its end -/
theorem for_revT {K : PySem.W.Frag} {a : Addr} {xs : List V} {g : TG} {tb : TS} {D : Ends} {σ : L2.St} {H : Hp} (Pv : Nat → L2.St → Hp → Prop) (h0 : Pv 0 σ H) (hl : ∀ i σ H, i ≤ xs.length → Pv i σ H → SqT K H a xs)
    (hs : ∀ i x σ H, xs.reverse[i]? = some x → Pv i σ H → g x σ H fun σ2 H2 => tb { D with nx := Pv (i + 1), ct := Pv (i + 1), bk := D.nx } σ2 H2) (hd : ∀ σ H, Pv xs.length σ H → D.nx σ H) :
    ∃ W : Nat → Nat → L2.St → Hp → Prop, (∃ m, W 0 m σ H) ∧ ∀ i m σ H, W i m σ H →
      ((RT.ItvT K a xs.length).stop i H ∧ D.nx σ H) ∨ ((RT.ItvT K a xs.length).go i H ∧ ∃ N : L2.St → Hp → Prop, (∀ σ' H', N σ' H' → ∃ m', m' < m ∧ W (i + 1) m' σ' H') ∧ ∀ x H', (RT.ItvT K a xs.length).yld i H x H' → g x σ H' fun σ2 H2 => tb { D with nx := N, ct := N, bk := D.nx } σ2 H2) := by
  refine ⟨fun i m σ H => m = xs.length - i ∧ i ≤ xs.length ∧ Pv i σ H, ⟨xs.length, by simp, Nat.zero_le _, h0⟩, ?_⟩
  rintro i m σ H ⟨rfl, hi, p⟩
  have q := hl i σ H hi p
  by_cases hlt : i < xs.length
  · have lt' : xs.length - 1 - i < xs.length := by omega
    have hx : xs[xs.length - 1 - i]? = some xs[xs.length - 1 - i] := List.getElem?_eq_getElem lt'
    refine .inr ⟨⟨hlt, xs, _, q, hx⟩, Pv (i + 1), fun σ' H' p' => ⟨xs.length - (i + 1), by omega, rfl, hlt, p'⟩, fun x H' y => ?_⟩
    obtain ⟨e, y⟩ := y
    subst e
    have e2 := y xs q
    refine hs i x σ _ ?_ p
    rw [List.getElem?_reverse hlt]
    exact e2
  · have e : i = xs.length := by omega
    subst e
    exact .inl ⟨Nat.le_refl _, hd σ H p⟩
/-! ### the image of a word's end -/
theorem img_rev {ns : List Int} {l : List Int} {i : Nat} {k : Int} (h : ns.reverse[i]? = some k) : img (ns.reverse.take (i + 1)).reverse l = tm k (img (ns.reverse.take i).reverse l) := by
  rw [take_snoc h, List.reverse_append]
  rfl
/-! ### moves of a word: promises -/
/-- None, or a new list of the ints -/
def OL (H H' : Hp) (o : Option (List Int)) (v : V) : Prop := match o with
  | none => v = .non
  | some l => ∃ p, v = .ref p ∧ H p = none ∧ H' p = some (.lst (l.map V.int))
def spBrd : Sp := fun vs H Q _ => ∃ a b c : Int, vs = [.int a, .int b, .int c] ∧ ∀ v H', Same H H' → OL H H' (brd a b c) v → Q v H'
def mw (w : Nat) : Str := if w = 0 then "cancel" else if w = 1 then "swap" else "braid"
/-- a move's word, place and letter; what it makes of the row -/
inductive Mv (K : PySem.W.Frag) (H : Hp) (m : Addr) (ns : List Int) : Option (List Int) → Prop
  | two (w i : Nat) (hw : w ≤ 2) (h : SqT K H m [.str (mw w), .int i]) : Mv K H m ns (mvF w ns i)
  | ins (i : Nat) (k : Int) (hi : i ≤ ns.length) (h0 : 0 < ab k) (h1 : ab k < 41) (h : SqT K H m [.str "insert", .int i, .int k]) : Mv K H m ns (some (ns.take i ++ [k, 0 - k] ++ ns.drop i))
def spMove (K : PySem.W.Frag) : Sp := fun vs H Q _ => ∃ (r m : Addr) (ns : List Int) (o : Option (List Int)), vs = [.ref r, .ref m] ∧ H r = some (.lst (ns.map V.int)) ∧ ns.length ≤ 1000 ∧ Mv K H m ns o ∧ ∀ v H', Same H H' → OL H H' o v → Q v H'
theorem cutA {ys : List Int} {j : Nat} (h : j ≤ ys.length) : cutV (ys.map V.int) none (some (j : Int)) = (ys.take j).map V.int := by
  unfold cutV
  rw [HT.sIx_none, HT.sIx_nat, Nat.min_eq_left (by rw [List.length_map]; exact h), List.drop_zero, Nat.sub_zero, List.map_take]
theorem cutB {ys : List Int} {j : Nat} (h : j ≤ ys.length) : cutV (ys.map V.int) (some (j : Int)) none = (ys.drop j).map V.int := by
  unfold cutV
  rw [HT.sIx_none, HT.sIx_nat, Nat.min_eq_left (by rw [List.length_map]; exact h), List.take_of_length_le (by rw [List.length_drop]; omega), List.map_drop]
theorem at_int {ns : List Int} {i : Nat} {a : Int} (h : ns[i]? = some a) : atI (ns.map V.int) (i : Int) = some (.int a) := atI_nat (by rw [List.getElem?_map, h]; rfl)
theorem lsg_b (a : Int) : -(2 ^ 64) < lsg a ∧ lsg a < 2 ^ 64 := by
  unfold lsg
  split <;> decide
/-- the moves that a row takes, in the order in which the law lists them -/
def MvL (K : PySem.W.Frag) (H : Hp) (ns : List Int) (xs : List V) : Prop := ∀ v ∈ xs, ∃ (m : Addr) (w i : Nat), v = .ref m ∧ w ≤ 2 ∧ SqT K H m [.str (mw w), .int i] ∧ (mvF w ns i).isSome = true
def spMoves (K : PySem.W.Frag) : Sp := fun vs H Q _ => ∃ (r : Addr) (ns : List Int), vs = [.ref r] ∧ H r = some (.lst (ns.map V.int)) ∧ ns.length ≤ 100 ∧ ∀ p xs H', Same H H' → H p = none → H' p = some (.lst xs) → xs.length ≤ 3 * ns.length → MvL K H' ns xs → Q (.ref p) H'
def spShuf (K : PySem.W.Frag) : Sp := fun vs H Q _ => ∃ (r c a : Addr) (ns : List Int) (turns wide top : Int), vs = [.ref r, .ref a, .int turns, .int wide] ∧ RngC H r c ∧ WT K H a ns ∧ ns.length ≤ 20 ∧ Lets top ns ∧ top ≤ 40 ∧ 0 ≤ turns ∧ turns ≤ 20 ∧ 1 ≤ wide ∧ wide ≤ top ∧
  ∀ p ms H', WT K H' p ms → ms.length ≤ 100 → Lets top ms → Eqv ns ms → RngC H' r c → But r H H' → Q (.ref p) H'
theorem mvF_len {w : Nat} {ns : List Int} {i : Nat} {r : List Int} (e : mvF w ns i = some r) : r.length ≤ ns.length := by
  unfold mvF at e
  obtain ⟨m, e1, rfl⟩ := Option.map_eq_some_iff.mp e
  have key : m.length ≤ mvN w ∧ (m ≠ [] → i + mvN w ≤ ns.length) := by
    unfold mvK at e1
    by_cases w0 : w = 0
    · rw [if_pos w0] at e1
      unfold mvC at e1
      split at e1
      · split at e1
        · cases e1
          exact ⟨Nat.zero_le _, fun z => absurd rfl z⟩
        · cases e1
      · cases e1
    rw [if_neg w0] at e1
    by_cases w1 : w = 1
    · rw [if_pos w1] at e1
      have e2 : mvN w = 2 := by unfold mvN; rw [if_neg w0, if_pos w1]
      unfold mvS at e1
      split at e1
      · rename_i h1 h2
        split at e1
        · cases e1
          have := (List.getElem?_eq_some_iff.mp h2).1
          rw [e2]
          exact ⟨Nat.le_refl _, fun _ => by omega⟩
        · cases e1
      · cases e1
    rw [if_neg w1] at e1
    have e2 : mvN w = 3 := by unfold mvN; rw [if_neg w0, if_neg w1]
    unfold mvB at e1
    split at e1
    · rename_i h1 h2 h3
      have := (List.getElem?_eq_some_iff.mp h3).1
      unfold brd at e1
      rw [e2]
      refine ⟨?_, fun _ => by omega⟩
      split at e1
      · cases e1
      · split at e1
        · cases e1
          exact Nat.le_refl _
        · split at e1
          · cases e1
            exact Nat.le_refl _
          · cases e1
    · cases e1
  rw [List.length_append, List.length_append, List.length_take, List.length_drop]
  by_cases hm : m = []
  · subst hm
    show min i ns.length + 0 + (ns.length - (i + mvN w)) ≤ ns.length
    omega
  · have := key.2 hm
    have := key.1
    omega
theorem lets_sub {top : Int} {ns : List Int} {i : Nat} {a : Int} (h : Lets top ns) (e : ns[i]? = some a) : a ≠ 0 ∧ ab a ≤ top := h a (List.mem_of_getElem? e)
theorem lsg_ab {a x : Int} (hx : 0 ≤ x) : ab (lsg a * x) = x := by
  unfold lsg
  split
  · rw [Int.one_mul]; unfold ab; rw [if_neg (by omega)]
  · rw [show -1 * x = -x by omega, ab_n]; unfold ab; rw [if_neg (by omega)]
theorem ab_z {a : Int} (h : ab a ≠ 0) : a ≠ 0 := fun z => h (by rw [z]; rfl)
theorem mvK_lets {top : Int} {w : Nat} {ns : List Int} {i : Nat} {m : List Int} (h : Lets top ns) (e1 : mvK w ns i = some m) : Lets top m := by
  unfold mvK at e1
  split at e1
  · unfold mvC at e1
    split at e1
    · split at e1
      · cases e1
        exact fun _ z => (nomatch z)
      · cases e1
    · cases e1
  split at e1
  · unfold mvS at e1
    split at e1
    · rename_i h1 h2
      split at e1
      · cases e1
        intro n hn
        rcases List.mem_cons.mp hn with rfl | hn
        · exact lets_sub h h2
        · rw [List.mem_singleton.mp hn]
          exact lets_sub h h1
      · cases e1
    · cases e1
  · unfold mvB at e1
    split at e1
    · rename_i a b c h1 h2 h3
      have l1 := lets_sub h h1
      have l2 := lets_sub h h2
      have p1 := ab_pos' l1.1
      have p2 := ab_pos' l2.1
      unfold brd at e1
      split at e1
      · cases e1
      · split at e1
        · cases e1
          have k1 : ∀ x y : Int, 0 < y → y ≤ top → lsg x * y ≠ 0 ∧ ab (lsg x * y) ≤ top := fun x y hy hy2 => by
            have e := lsg_ab (a := x) (x := y) (by omega)
            exact ⟨ab_z (by omega), by omega⟩
          intro n hn
          rcases List.mem_cons.mp hn with rfl | hn
          · have := k1 a (ab b) p2 l2.2
            have e : ab (0 - lsg a * ab b) = ab (lsg a * ab b) := by rw [show 0 - lsg a * ab b = -(lsg a * ab b) by omega, ab_n]
            exact ⟨by omega, by omega⟩
          rcases List.mem_cons.mp hn with rfl | hn
          · exact k1 b (ab a) p1 l1.2
          · rw [List.mem_singleton.mp hn]
            exact k1 a (ab b) p2 l2.2
        · split at e1
          · cases e1
            intro n hn
            rcases List.mem_cons.mp hn with rfl | hn
            · exact l2
            rcases List.mem_cons.mp hn with rfl | hn
            · exact l1
            · rw [List.mem_singleton.mp hn]
              exact l2
          · cases e1
    · cases e1
theorem mvF_lets {top : Int} {w : Nat} {ns : List Int} {i : Nat} {r : List Int} (h : Lets top ns) (e : mvF w ns i = some r) : Lets top r := by
  unfold mvF at e
  obtain ⟨m, e1, rfl⟩ := Option.map_eq_some_iff.mp e
  exact Lets.app (Lets.app (fun n hn => h n (List.mem_of_mem_take hn)) (mvK_lets h e1)) (fun n hn => h n (List.mem_of_mem_drop hn))
theorem ins_eqv {ns : List Int} {i : Nat} {k : Int} (hk : k ≠ 0) : Eqv ns (ns.take i ++ [k, 0 - k] ++ ns.drop i) := by
  have := (eqv_ins hk).in (ns.take i) (ns.drop i)
  rw [List.append_nil, List.take_append_drop, show -k = 0 - k by omega] at this
  exact this
theorem mw_ins {w : Nat} (hw : w ≤ 2) : decide (V.str (mw w) = V.str "insert") = false := by
  match w, hw with
  | 0, _ => decide +kernel
  | 1, _ => decide +kernel
  | 2, _ => decide +kernel
theorem mw_brd {w : Nat} (hw : w ≤ 2) : decide (V.str (mw w) = V.str "braid") = decide (w = 2) := by
  match w, hw with
  | 0, _ => decide +kernel
  | 1, _ => decide +kernel
  | 2, _ => decide +kernel
theorem mw_can {w : Nat} (hw : w ≤ 2) : decide (V.str (mw w) = V.str "cancel") = decide (w = 0) := by
  match w, hw with
  | 0, _ => decide +kernel
  | 1, _ => decide +kernel
  | 2, _ => decide +kernel
theorem mw_swp {w : Nat} (hw : w ≤ 2) : decide (V.str (mw w) = V.str "swap") = decide (w = 1) := by
  match w, hw with
  | 0, _ => decide +kernel
  | 1, _ => decide +kernel
  | 2, _ => decide +kernel
theorem mw_many {w : Nat} (hw : w ≤ 2) {A : Int → Prop} (h : A (mvN w : Nat)) : if decide (w = 2) = true then A 3 else A 2 := by
  match w, hw, h with
  | 0, _, h => exact iteF h
  | 1, _, h => exact iteF h
  | 2, _, h => exact iteT h
theorem mvF_out {w : Nat} (hw : w ≤ 2) {ns : List Int} {i : Nat} (h : ns.length < i + mvN w) : mvF w ns i = none := by
  have key : mvK w ns i = none := by
    match w, hw, h with
    | 0, _, h =>
      have h : ns.length < i + 2 := h
      show mvC ns i = none
      unfold mvC
      rw [List.getElem?_eq_none (i := i + 1) (by omega)]
      cases ns[i]? <;> rfl
    | 1, _, h =>
      have h : ns.length < i + 2 := h
      show mvS ns i = none
      unfold mvS
      rw [List.getElem?_eq_none (i := i + 1) (by omega)]
      cases ns[i]? <;> rfl
    | 2, _, h =>
      have h : ns.length < i + 3 := h
      show mvB ns i = none
      unfold mvB
      rw [List.getElem?_eq_none (i := i + 2) (by omega)]
      cases ns[i]? <;> cases ns[i + 1]? <;> rfl
  unfold mvF
  rw [key]
  rfl
theorem mvK_len {w : Nat} {ns : List Int} {i : Nat} {m : List Int} (e : mvK w ns i = some m) : m.length ≤ 3 := by
  unfold mvK at e
  split at e
  · unfold mvC at e
    split at e
    · split at e
      · cases e
        exact Nat.zero_le _
      · cases e
    · cases e
  split at e
  · unfold mvS at e
    split at e
    · split at e
      · cases e
        show 2 ≤ 3
        decide
      · cases e
    · cases e
  · unfold mvB at e
    split at e
    · unfold brd at e
      split at e
      · cases e
      · split at e
        · cases e
          exact Nat.le_refl _
        · split at e
          · cases e
            exact Nat.le_refl _
          · cases e
    · cases e
theorem MvL.mono {K : PySem.W.Frag} {H H' : Hp} {ns : List Int} {xs : List V} (e : Tp H H') (h : MvL K H ns xs) : MvL K H' ns xs := fun v hv => by
  obtain ⟨m, w, i, h1, h2, h3, h4⟩ := h v hv
  exact ⟨m, w, i, h1, h2, e.sqT h3, h4⟩
/-! ### moves of any form -/
def cdW (nm : Str) : Option Nat := if nm = "cancel" then some 0 else if nm = "swap" then some 1 else if nm = "braid" then some 2 else none
/-- what a move replaces -/
def chX (nm : Str) (args ns : List Int) : Option (Nat × Nat × List Int) := match args with
  | [at_] => if 0 ≤ at_ then (match cdW nm with
    | some w => (mvK w ns at_.toNat).map fun m => (at_.toNat, at_.toNat + mvN w, m)
    | none => none) else none
  | [at_, k] => if nm = "insert" ∧ 0 ≤ at_ ∧ at_ ≤ ns.length ∧ 0 < ab k ∧ ab k < 41 then some (at_.toNat, at_.toNat, [k, 0 - k]) else none
  | _ => none
def mvX (nm : Str) (args ns : List Int) : Option (List Int) := (chX nm args ns).map fun c => ns.take c.1 ++ c.2.2 ++ ns.drop c.2.1
theorem cdW_mw {nm : Str} {w : Nat} (h : cdW nm = some w) : nm = mw w ∧ w ≤ 2 := by
  unfold cdW at h
  split at h
  · rename_i e; cases h; exact ⟨e, by decide⟩
  split at h
  · rename_i e; cases h; exact ⟨e, by decide⟩
  split at h
  · rename_i e; cases h; exact ⟨e, by decide⟩
  · cases h
theorem mw_cdW {w : Nat} (h : w ≤ 2) : cdW (mw w) = some w := by
  match w, h with
  | 0, _ => decide +kernel
  | 1, _ => decide +kernel
  | 2, _ => decide +kernel
theorem mvX_two {nm : Str} {w : Nat} {ns : List Int} {at_ : Int} (h : cdW nm = some w) (h0 : 0 ≤ at_) : mvX nm [at_] ns = mvF w ns at_.toNat := by
  unfold mvX chX
  dsimp only
  rw [if_pos h0, h]
  dsimp only
  unfold mvF
  rw [Option.map_map]
  rfl
theorem mvX_no {nm : Str} {ns : List Int} {at_ : Int} (h : cdW nm = none ∨ at_ < 0) : mvX nm [at_] ns = none := by
  unfold mvX chX
  dsimp only
  rcases h with h | h
  · rw [h]
    split <;> rfl
  · rw [if_neg (by omega)]
    rfl
theorem mvX_ins {ns : List Int} {at_ k : Int} (h0 : 0 ≤ at_) (h1 : at_ ≤ ns.length) (h2 : 0 < ab k) (h3 : ab k < 41) : mvX "insert" [at_, k] ns = some (ns.take at_.toNat ++ [k, 0 - k] ++ ns.drop at_.toNat) := by
  unfold mvX chX
  dsimp only
  rw [if_pos ⟨rfl, h0, h1, h2, h3⟩]
  rfl
theorem mvX_insN {nm : Str} {ns : List Int} {at_ k : Int} (h : ¬ (nm = "insert" ∧ 0 ≤ at_ ∧ at_ ≤ ns.length ∧ 0 < ab k ∧ ab k < 41)) : mvX nm [at_, k] ns = none := by
  unfold mvX chX
  dsimp only
  rw [if_neg h]
  rfl
theorem mvX_len {nm : Str} {args ns r : List Int} (e : mvX nm args ns = some r) : r.length ≤ ns.length + 2 := by
  match args with
  | [] => cases e
  | [at_] =>
    by_cases h0 : 0 ≤ at_
    · cases hc : cdW nm with
      | none => rw [mvX_no (.inl hc)] at e; cases e
      | some w =>
        rw [mvX_two hc h0] at e
        have := mvF_len e
        omega
    · rw [mvX_no (.inr (by omega))] at e
      cases e
  | [at_, k] =>
    by_cases h : nm = "insert" ∧ 0 ≤ at_ ∧ at_ ≤ ns.length ∧ 0 < ab k ∧ ab k < 41
    · obtain ⟨rfl, h0, h1, h2, h3⟩ := h
      rw [mvX_ins h0 h1 h2 h3] at e
      cases e
      rw [List.length_append, List.length_append, List.length_take, List.length_drop]
      show min _ _ + 2 + _ ≤ _
      omega
    · rw [mvX_insN h] at e
      cases e
  | _ :: _ :: _ :: _ => cases e
theorem mvX_lets {nm : Str} {args ns r : List Int} (hL : Lets 40 ns) (e : mvX nm args ns = some r) : Lets 40 r := by
  match args with
  | [] => cases e
  | [at_] =>
    by_cases h0 : 0 ≤ at_
    · cases hc : cdW nm with
      | none => rw [mvX_no (.inl hc)] at e; cases e
      | some w =>
        rw [mvX_two hc h0] at e
        exact mvF_lets hL e
    · rw [mvX_no (.inr (by omega))] at e
      cases e
  | [at_, k] =>
    by_cases h : nm = "insert" ∧ 0 ≤ at_ ∧ at_ ≤ ns.length ∧ 0 < ab k ∧ ab k < 41
    · obtain ⟨rfl, h0, h1, h2, h3⟩ := h
      rw [mvX_ins h0 h1 h2 h3] at e
      cases e
      refine Lets.app (Lets.app (fun n hn => hL n (List.mem_of_mem_take hn)) (fun n hn => ?_)) (fun n hn => hL n (List.mem_of_mem_drop hn))
      rcases List.mem_cons.mp hn with rfl | hn
      · exact ⟨ab_z (by omega), by omega⟩
      · rw [List.mem_singleton.mp hn]
        have e2 : ab (0 - k) = ab k := by rw [show 0 - k = -k by omega, ab_n]
        exact ⟨ab_z (by omega), by omega⟩
    · rw [mvX_insN h] at e
      cases e
  | _ :: _ :: _ :: _ => cases e
def runX : List (Str × List Int) → Nat → List Int → Except Nat (List Int)
  | [], _, ns => .ok ns
  | m :: ms, j, ns => match mvX m.1 m.2 ns with
    | none => .error j
    | some r => runX ms (j + 1) r
/-- the tuple of a move -/
def MvT (K : PySem.W.Frag) (H : Hp) (v : V) (m : Str × List Int) : Prop := ∃ p, v = .ref p ∧ SqT K H p (.str m.1 :: m.2.map V.int)
theorem MvT.tp {K : PySem.W.Frag} {H H' : Hp} (e : Tp H H') {v : V} {m : Str × List Int} (h : MvT K H v m) : MvT K H' v m := h.imp fun p z => ⟨z.1, e.sqT z.2⟩
def MvTs (K : PySem.W.Frag) (H : Hp) (vs : List V) (ms : List (Str × List Int)) : Prop := vs.length = ms.length ∧ ∀ (i : Nat) v m, vs[i]? = some v → ms[i]? = some m → MvT K H v m
theorem MvTs.tp {K : PySem.W.Frag} {H H' : Hp} (e : Tp H H') {vs : List V} {ms : List (Str × List Int)} (h : MvTs K H vs ms) : MvTs K H' vs ms := ⟨h.1, fun i v m a b => (h.2 i v m a b).tp e⟩
theorem MvTs.nil {K : PySem.W.Frag} {H : Hp} : MvTs K H [] [] := ⟨rfl, fun i v m a _ => by cases a⟩
theorem MvTs.snoc {K : PySem.W.Frag} {H : Hp} {vs : List V} {ms : List (Str × List Int)} {v : V} {m : Str × List Int} (h : MvTs K H vs ms) (hv : MvT K H v m) : MvTs K H (vs ++ [v]) (ms ++ [m]) := by
  refine ⟨by rw [List.length_append, List.length_append, h.1]; rfl, fun i v' m' a b => ?_⟩
  by_cases hi : i < vs.length
  · rw [List.getElem?_append_left hi] at a
    rw [List.getElem?_append_left (by rw [← h.1]; exact hi)] at b
    exact h.2 i v' m' a b
  · rw [List.getElem?_append_right (by omega)] at a
    rw [List.getElem?_append_right (by rw [← h.1]; omega)] at b
    have := (List.getElem?_eq_some_iff.mp a).1
    rw [List.length_singleton] at this
    rw [show i - vs.length = 0 by omega] at a
    rw [show i - ms.length = 0 by rw [← h.1]; omega] at b
    cases a
    cases b
    exact hv
theorem MvTs.one {K : PySem.W.Frag} {H : Hp} {v : V} {m : Str × List Int} (hv : MvT K H v m) : MvTs K H [v] [m] := MvTs.nil.snoc hv
def mD (m : Str × List Int) : PyData := .tuple (.str m.1 :: m.2.map PyData.int)
theorem dpAll_ints {K : PySem.W.Frag} {H : Hp} : ∀ is : List Int, DpAll K H (is.map V.int) (is.map PyData.int)
  | [] => .nil
  | i :: is => .cons (.int i) (dpAll_ints is)
theorem MvT.dp {K : PySem.W.Frag} {H : Hp} {v : V} {m : Str × List Int} (h : MvT K H v m) : Dp K H v (mD m) := by
  obtain ⟨p, rfl, hp⟩ := h
  exact Dp.tup hp (.cons (.str _) (dpAll_ints _))
theorem MvTs.dp {K : PySem.W.Frag} {H : Hp} : ∀ {vs : List V} {ms : List (Str × List Int)}, MvTs K H vs ms → DpAll K H vs (ms.map mD)
  | [], [], _ => .nil
  | [], _ :: _, h => by cases h.1
  | _ :: _, [], h => by cases h.1
  | v :: vs, m :: ms, h => .cons (h.2 0 v m rfl rfl).dp (MvTs.dp ⟨Nat.succ.inj h.1, fun i v' m' a b => h.2 (i + 1) v' m' a b⟩)
def spMoveX (K : PySem.W.Frag) : Sp := fun vs H Q _ => ∃ (r m : Addr) (ns : List Int) (nm : Str) (args : List Int), vs = [.ref r, .ref m] ∧ H r = some (.lst (ns.map V.int)) ∧ ns.length ≤ 1000 ∧ SqT K H m (.str nm :: args.map V.int) ∧ (args.length = 1 ∨ args.length = 2) ∧ ∀ v H', Same H H' → OL H H' (mvX nm args ns) v → Q v H'
/-- those that are no moves -/
def spMoveN (K : PySem.W.Frag) : Sp := fun vs H Q _ => ∃ (r m : Addr) (ns : List Int) (nm : Str) (args : List Int), vs = [.ref r, .ref m] ∧ H r = some (.lst (ns.map V.int)) ∧ ns.length ≤ 1000 ∧ SqT K H m (.str nm :: args.map V.int) ∧
  ((∃ at_, args = [at_] ∧ (cdW nm = none ∨ at_ < 0)) ∨ ∃ at_ k, args = [at_, k] ∧ ¬ (nm = "insert" ∧ 0 ≤ at_ ∧ at_ ≤ ns.length ∧ 0 < ab k ∧ ab k < 41)) ∧ ∀ H', Same H H' → Q .non H'
def runA : List (Str × List Int) → List Int → Prop
  | [], ns => ns.length ≤ 900
  | m :: ms, ns => ns.length ≤ 900 ∧ (m.2.length ≤ 2) ∧ ∀ r, mvX m.1 m.2 ns = some r → runA ms r
theorem runA_of : ∀ (ms : List (Str × List Int)) (ns : List Int), (∀ m ∈ ms, m.2.length ≤ 2) → ns.length + 2 * ms.length ≤ 900 → runA ms ns
  | [], ns, _, h => h
  | m :: ms, ns, hm, h => by
    rw [List.length_cons] at h
    exact ⟨by omega, hm m List.mem_cons_self, fun r e => runA_of ms r (fun m' h' => hm m' (List.mem_cons_of_mem _ h')) (by have := mvX_len e; omega)⟩
/-- the law's answer -/
def spExpM (K : PySem.W.Frag) : Sp := fun vs H Q _ => ∃ (a b : Addr) (ns : List Int) (us : List V) (ms : List (Str × List Int)), vs = [.ref a, .ref b] ∧ (SqL K H a (ns.map V.int) ∨ WT K H a ns) ∧ SqL K H b us ∧ MvTs K H us ms ∧ us.length ≤ 1000 ∧ (∀ m ∈ ms, m.2.length ≤ 2) ∧ ns.length + 2 * ms.length ≤ 900 ∧
  (∀ r, runX ms 0 ns = .ok r → ∀ u p H', SqT K H' u [.str "value", .ref p] → WT K H' p r → Same H H' → Q (.ref u) H') ∧ ∀ j, runX ms 0 ns = .error j → ∀ u H', SqT K H' u [.str "InvalidStep", .int (j : Nat)] → Same H H' → Q (.ref u) H'
/-! ### the program's side -/
theorem ints3 {xs : List Int} (h : xs.length = 3) : ∃ a b c, xs = [a, b, c] := by
  match xs, h with
  | [a, b, c], _ => exact ⟨a, b, c, rfl⟩
theorem ints2 {xs : List Int} (h : xs.length = 2) : ∃ a b, xs = [a, b] := by
  match xs, h with
  | [a, b], _ => exact ⟨a, b, rfl⟩
def spBrdP : Sp := fun vs H Q _ => ∃ (l : Addr) (a b c : Int), vs = [.ref l] ∧ H l = some (.lst [.int a, .int b, .int c]) ∧ a ≠ 0 ∧ b ≠ 0 ∧ ∀ v H', Same H H' → OL H H' (brd a b c) v → Q v H'
def spRepl : Sp := fun vs H Q _ => ∃ (l : Addr) (xs : List Int) (w : Nat), vs = [.str (mw w), .ref l] ∧ w ≤ 2 ∧ H l = some (.lst (xs.map V.int)) ∧ xs.length = mvN w ∧ (∀ x ∈ xs, x ≠ 0) ∧ ∀ v H', Same H H' → OL H H' (mvK w xs 0) v → Q v H'
/-- None, or where and what a move replaces -/
def CL (K : PySem.W.Frag) (H H' : Hp) (o : Option (Nat × Nat × List Int)) (v : V) : Prop := match o with
  | none => v = .non
  | some c => ∃ t p, v = .ref t ∧ SqT K H' t [.int (c.1 : Nat), .int (c.2.1 : Nat), .ref p] ∧ H p = none ∧ H' p = some (.lst (c.2.2.map V.int))
def spIns (K : PySem.W.Frag) : Sp := fun vs H Q _ => ∃ (l m : Addr) (ns : List Int) (nm : Str) (at_ k : Int), vs = [.ref l, .ref m] ∧ H l = some (.lst (ns.map V.int)) ∧ SqT K H m [.str nm, .int at_, .int k] ∧ ns.length ≤ 1000 ∧ ∀ v H', Same H H' → CL K H H' (chX nm [at_, k] ns) v → Q v H'
def spChange (K : PySem.W.Frag) : Sp := fun vs H Q _ => ∃ (l m : Addr) (ns : List Int) (nm : Str) (args : List Int), vs = [.ref l, .ref m] ∧ H l = some (.lst (ns.map V.int)) ∧ SqT K H m (.str nm :: args.map V.int) ∧ args.length ≤ 2 ∧ ns.length ≤ 1000 ∧ (∀ x ∈ ns, x ≠ 0) ∧ ∀ v H', Same H H' → CL K H H' (chX nm args ns) v → Q v H'
theorem mvK_cut {w : Nat} (hw : w ≤ 2) {ns : List Int} {i : Nat} (h : i + mvN w ≤ ns.length) : mvK w ns i = mvK w ((ns.drop i).take (mvN w)) 0 := by
  have key : ∀ j, j < mvN w → ((ns.drop i).take (mvN w))[0 + j]? = ns[i + j]? := fun j hj => by
    rw [Nat.zero_add, List.getElem?_take, if_pos hj, List.getElem?_drop]
  match w, hw, key with
  | 0, _, key =>
    show mvC ns i = mvC _ 0
    unfold mvC
    rw [show ((ns.drop i).take (mvN 0))[0]? = ns[i]? from key 0 (by decide), key 1 (by decide)]
  | 1, _, key =>
    show mvS ns i = mvS _ 0
    unfold mvS
    rw [show ((ns.drop i).take (mvN 1))[0]? = ns[i]? from key 0 (by decide), key 1 (by decide)]
  | 2, _, key =>
    show mvB ns i = mvB _ 0
    unfold mvB
    rw [show ((ns.drop i).take (mvN 2))[0]? = ns[i]? from key 0 (by decide), key 1 (by decide), key 2 (by decide)]
/-- apply_moves -/
def spApply (K : PySem.W.Frag) (CWd CX : Addr) : Sp := fun vs H Q E => ∃ (a b : Addr) (ns : List Int) (us : List V) (ms : List (Str × List Int)), vs = [.ref a, .ref b] ∧ WT K H a ns ∧ ns.length ≤ 1000 ∧ (SqL K H b us ∨ SqT K H b us) ∧ MvTs K H us ms ∧ us.length ≤ 1000 ∧ (okW ns = true → runA ms ns) ∧
  (okW ns = true → ∀ r, runX ms 0 ns = .ok r → ∀ p H', WT K H' p r → Same H H' → Q (.ref p) H') ∧
  (okW ns = true → ∀ j : Nat, runX ms 0 ns = .error j → ∀ (e : Addr) (H' : Hp), Same H H' → H e = none → H' e = some (.xd [("position", .int (j : Int))]) → E (.ref CX) (some e) H') ∧ (okW ns = false → ∀ H', Same H H' → E (.ref CWd) none H')
theorem fn_or {P : Program} {w : World} {K : PySem.W.Frag} {mg : Str → Option Value} {base : Heap} {f : Addr} {fd : FuncData} {CX : CXT} {ps : List Str} {sp1 sp2 : Sp} {k : Nat} (h1 : FnOk P w K mg base CX k f fd ps sp1) (h2 : FnOk P w K mg base CX k f fd ps sp2) : FnOk P w K mg base CX k f fd ps (fun vs H Q E => sp1 vs H Q E ∨ sp2 vs H Q E) :=
  ⟨fun vs H Q E h => h.elim (h1.1 vs H Q E) (h2.1 vs H Q E), fun A outer s H args us vs Q E a1 a2 a3 a4 h => h.elim (h1.2 A outer s H args us vs Q E a1 a2 a3 a4) (h2.2 A outer s H args us vs Q E a1 a2 a3 a4)⟩
theorem chX_b {nm : Str} {args ns : List Int} {s e : Nat} {m : List Int} (h : chX nm args ns = some (s, e, m)) : s ≤ e ∧ e ≤ ns.length ∧ m.length ≤ 3 := by
  match args, h with
  | [], h => cases h
  | [at_], h =>
    have h : (if 0 ≤ at_ then (match cdW nm with
      | some w => (mvK w ns at_.toNat).map fun m => (at_.toNat, at_.toNat + mvN w, m)
      | none => none) else none) = some (s, e, m) := h
    split at h
    · split at h
      · rename_i w hw
        obtain ⟨hn, hw2⟩ := cdW_mw hw
        obtain ⟨m', hm, e1⟩ := Option.map_eq_some_iff.mp h
        cases e1
        have h3 := mvK_len hm
        have h4 : at_.toNat + mvN w ≤ ns.length := by
          rcases Nat.lt_or_ge ns.length (at_.toNat + mvN w) with z | z
          · have := mvF_out hw2 z
            unfold mvF at this
            rw [hm] at this
            cases this
          · exact z
        exact ⟨by omega, h4, h3⟩
      · cases h
    · cases h
  | [at_, k], h =>
    have h : (if nm = "insert" ∧ 0 ≤ at_ ∧ at_ ≤ ns.length ∧ 0 < ab k ∧ ab k < 41 then some (at_.toNat, at_.toNat, [k, 0 - k]) else none) = some (s, e, m) := h
    split at h
    · rename_i z
      cases h
      exact ⟨Nat.le_refl _, by omega, by show 2 ≤ 3; decide⟩
    · cases h
  | _ :: _ :: _ :: _, h => cases h
def spLong (K : PySem.W.Frag) : Sp := fun vs H Q _ => ∃ (r c : Addr), vs = [.ref r] ∧ RngC H r c ∧ ∀ p ns H', WT K H' p ns → 31 ≤ ns.length ∧ ns.length ≤ 300 → Lets 4 ns → RngC H' r c → But r H H' → Q (.ref p) H'
def MvOk (m : Str × List Int) : Prop := m.2.length ≤ 2 ∧ PyData.strOk m.1 = true
def spInvM (K : PySem.W.Frag) : Sp := fun vs H Q _ => ∃ (r l c : Addr) (xs : List V), vs = [.ref r, .ref l] ∧ RngC H r c ∧ H l = some (.lst xs) ∧ l ≠ r ∧ xs.length ≤ 1000 ∧ ∀ v m H', MvT K H' v m → MvOk m → RngC H' r c → But r H H' → Q v H'
theorem MvTs.mem {K : PySem.W.Frag} {H : Hp} {vs : List V} {ms : List (Str × List Int)} (h : MvTs K H vs ms) {v : V} (hv : v ∈ vs) : ∃ m, m ∈ ms ∧ MvT K H v m := by
  obtain ⟨i, hi, e⟩ := List.getElem_of_mem hv
  have e1 : vs[i]? = some v := by rw [List.getElem?_eq_getElem hi, e]
  have hm : i < ms.length := by rw [← h.1]; exact hi
  exact ⟨ms[i], List.getElem_mem hm, h.2 i v _ e1 (List.getElem?_eq_getElem hm)⟩
theorem mvOk_of {nm : Str} {args : List Int} (h1 : args.length ≤ 2) (h2 : PyData.strOk nm = true) : MvOk (nm, args) := ⟨h1, h2⟩
theorem strOk_cancel : PyData.strOk "cancel" = true := by decide +kernel
theorem strOk_swap : PyData.strOk "swap" = true := by decide +kernel
theorem strOk_braid : PyData.strOk "braid" = true := by decide +kernel
theorem strOk_insert : PyData.strOk "insert" = true := by decide +kernel
theorem strOk_move : PyData.strOk "move" = true := by decide +kernel
theorem strOk_nil : PyData.strOk "" = true := by decide +kernel
/-! ### the dict WIDTHS of the module -/
theorem kW_of {K : PySem.W.Frag} {w : World} {WD : Addr} {a0 a1 a2 c0 c1 c2 : Tok} {b0 b1 b2 : Int} {wn : Nat} (lW : K.lookup WD = some ⟨.type "dict", none, .dict #[⟨b0, .str "cancel" a0, .int 2 c0⟩, ⟨b1, .str "swap" a1, .int 2 c1⟩, ⟨b2, .str "braid" a2, .int 3 c2⟩] wn, #[]⟩)
    (h0 : b0 = PyData.keyHash w.params "cancel") (h1 : b1 = PyData.keyHash w.params "swap") (h2 : b2 = PyData.keyHash w.params "braid") (hs : (WD == sysModules) = false) :
    ∀ nm : Str, ∃ r, KDin K w WD nm r ∧ (cdW nm = none → r = none) ∧ ∀ u, cdW nm = some u → ∃ t, r = some (.int (mvN u : Nat) t) := by
  intro nm
  have kl : PySem.W.KeysLit w.params [⟨b0, .str "cancel" a0, .int 2 c0⟩, ⟨b1, .str "swap" a1, .int 2 c1⟩, ⟨b2, .str "braid" a2, .int 3 c2⟩] := ⟨⟨_, _, rfl, h0⟩, ⟨_, _, rfl, h1⟩, ⟨_, _, rfl, h2⟩, trivial⟩
  by_cases e0 : nm = "cancel"
  · refine ⟨some (.int 2 c0), ⟨_, _, lW, kl, ?_, hs⟩, fun z => ?_, fun u hu => ?_⟩
    · rw [e0]
      unfold PySem.W.nsIn
      rw [lW]
      rfl
    · rw [e0] at z; exact absurd z (by decide +kernel)
    · rw [e0, show cdW "cancel" = some 0 by decide +kernel] at hu
      cases hu
      exact ⟨_, rfl⟩
  by_cases e1 : nm = "swap"
  · refine ⟨some (.int 2 c1), ⟨_, _, lW, kl, ?_, hs⟩, fun z => ?_, fun u hu => ?_⟩
    · rw [e1]
      unfold PySem.W.nsIn
      rw [lW]
      rfl
    · rw [e1] at z; exact absurd z (by decide +kernel)
    · rw [e1, show cdW "swap" = some 1 by decide +kernel] at hu
      cases hu
      exact ⟨_, rfl⟩
  by_cases e2 : nm = "braid"
  · refine ⟨some (.int 3 c2), ⟨_, _, lW, kl, ?_, hs⟩, fun z => ?_, fun u hu => ?_⟩
    · rw [e2]
      unfold PySem.W.nsIn
      rw [lW]
      rfl
    · rw [e2] at z; exact absurd z (by decide +kernel)
    · rw [e2, show cdW "braid" = some 2 by decide +kernel] at hu
      cases hu
      exact ⟨_, rfl⟩
  · have hc : cdW nm = none := by
      unfold cdW
      rw [if_neg e0, if_neg e1, if_neg e2]
    refine ⟨none, ⟨_, _, lW, kl, ?_, hs⟩, fun _ => rfl, fun u hu => (by rw [hc] at hu; cases hu)⟩
    unfold PySem.W.nsIn
    rw [lW]
    have kk : ∀ (x : Str) (t : Tok), nm ≠ x → Value.isStr (.str x t) nm = false := fun x t hx => by
      show (x == nm) = false
      exact beq_eq_false_iff_ne.mpr fun z => hx z.symm
    simp only [List.find?, kk _ _ e0, kk _ _ e1, kk _ _ e2]
    rfl
/-! ### the class Scan: where a magnitude stands last -/
def lastR (m : Int) : List Int → Int
  | [] => -1
  | a :: r => if ab a = m then (r.length : Int) else lastR m r
theorem lastR_b (m : Int) : ∀ dn : List Int, -1 ≤ lastR m dn ∧ lastR m dn < dn.length
  | [] => ⟨by show (-1 : Int) ≤ -1; omega, by show (-1 : Int) < 0; omega⟩
  | a :: r => by
    have h := lastR_b m r
    unfold lastR
    rw [List.length_cons]
    split
    · omega
    · omega
theorem lastR_get (m : Int) : ∀ dn : List Int, 0 ≤ lastR m dn → ∃ b, dn.reverse[(lastR m dn).toNat]? = some b ∧ ab b = m
  | [], h => absurd h (by show ¬ (0 : Int) ≤ -1; omega)
  | a :: r, h => by
    unfold lastR at h ⊢
    by_cases c : ab a = m
    · rw [if_pos c, List.reverse_cons, Int.toNat_natCast]
      exact ⟨a, by rw [List.getElem?_append_right (by rw [List.length_reverse]; exact Nat.le_refl _), List.length_reverse, Nat.sub_self]; rfl, c⟩
    · rw [if_neg c] at h ⊢
      obtain ⟨b, e, hb⟩ := lastR_get m r h
      have := lastR_b m r
      exact ⟨b, by rw [List.reverse_cons, List.getElem?_append_left (by rw [List.length_reverse]; omega)]; exact e, hb⟩
/-- where a handle that ends with a begins, or -1 -/
def hsv (a : Int) (dn : List Int) : Int := if lastR (ab a) dn > lastR (ab a - 1) dn ∧ dn.reverse[(lastR (ab a) dn).toNat]? = some (-a) then lastR (ab a) dn else -1
def fhA : List Int → List Int → Option (Int × Nat)
  | _, [] => none
  | dn, a :: t => if 0 ≤ hsv a dn then some (hsv a dn, dn.length) else fhA (a :: dn) t
/-- the list of a stack -/
def stk (st : List Int) : List V := st.reverse.map V.int
theorem stk_cons (p : Int) (st : List Int) : stk (p :: st) = stk st ++ [.int p] := by
  unfold stk
  rw [List.reverse_cons, List.map_append]
  rfl
theorem stk_len (st : List Int) : (stk st).length = st.length := by unfold stk; rw [List.length_map, List.length_reverse]
structure ScT (K : PySem.W.Frag) (mg : Str → Option Value) (C : Addr) : Prop where
  cl : Cls K C
  n1 : NoAttr K C "done"
  n2 : NoAttr K C "waiting"
  n3 : NoAttr K C "places"
  mgC : mg "Scan" = some (.ref C)
theorem sne1 : ¬ (("done" : Str) = "waiting") := by decide +kernel
theorem sne2 : ¬ (("done" : Str) = "places") := by decide +kernel
theorem sne3 : ¬ (("waiting" : Str) = "places") := by decide +kernel
def scf (d w p : Addr) : List (Str × V) := putF "places" (.ref p) (putF "waiting" (.ref w) (putF "done" (.ref d) []))
theorem scf_d (d w p : Addr) : (scf d w p).lookup ("done" : Str) = some (.ref d) := by
  unfold scf
  rw [lookup_putF, if_neg sne2, lookup_putF, if_neg sne1, lookup_putF, if_pos rfl]
theorem scf_w (d w p : Addr) : (scf d w p).lookup ("waiting" : Str) = some (.ref w) := by
  unfold scf
  rw [lookup_putF, if_neg sne3, lookup_putF, if_pos rfl]
theorem scf_p (d w p : Addr) : (scf d w p).lookup ("places" : Str) = some (.ref p) := by
  unfold scf
  rw [lookup_putF, if_pos rfl]
theorem scf_no (d w p : Addr) {m : Str} (h1 : ¬ m = "places") (h2 : ¬ m = "waiting") (h3 : ¬ m = "done") : (scf d w p).lookup m = none := by
  unfold scf
  rw [lookup_putF, if_neg h1, lookup_putF, if_neg h2, lookup_putF, if_neg h3]
  rfl
/-- all places of a magnitude, ascending -/
def plR (m : Int) : List Int → List Int
  | [] => []
  | a :: r => if ab a = m then plR m r ++ [(r.length : Int)] else plR m r
theorem plR_len (m : Int) : ∀ dn : List Int, (plR m dn).length ≤ dn.length
  | [] => Nat.le_refl _
  | a :: r => by
    have h := plR_len m r
    unfold plR
    rw [List.length_cons]
    split
    · rw [List.length_append, List.length_singleton]; omega
    · omega
theorem plR_last (m : Int) : ∀ dn : List Int, (plR m dn = [] ∧ lastR m dn = -1) ∨ (∃ ys, plR m dn = ys ++ [lastR m dn] ∧ 0 ≤ lastR m dn)
  | [] => .inl ⟨rfl, rfl⟩
  | a :: r => by
    have h := plR_last m r
    unfold plR lastR
    by_cases c : ab a = m
    · rw [if_pos c, if_pos c]
      exact .inr ⟨_, rfl, by omega⟩
    · rw [if_neg c, if_neg c]
      exact h
/-- how often a magnitude stands in a list -/
def cnM (m : Int) (l : List Int) : Nat := l.countP fun x => decide (ab x = m)
theorem cnM_cons (m a : Int) (l : List Int) : cnM m (a :: l) = cnM m l + if ab a = m then 1 else 0 := by
  unfold cnM
  rw [List.countP_cons]
  by_cases c : ab a = m
  · rw [if_pos (decide_eq_true c), if_pos c]
  · rw [if_neg (by rw [decide_eq_false c]; decide), if_neg c]
theorem cnM_app (m : Int) (l k : List Int) : cnM m (l ++ k) = cnM m l + cnM m k := List.countP_append
theorem cnM_rev (m : Int) (l : List Int) : cnM m l.reverse = cnM m l := List.countP_reverse
theorem plR_cn (m : Int) : ∀ dn : List Int, (plR m dn).length = cnM m dn
  | [] => rfl
  | a :: r => by
    have h := plR_cn m r
    rw [cnM_cons]
    unfold plR
    by_cases c : ab a = m
    · rw [if_pos c, if_pos c, List.length_append, h]; rfl
    · rw [if_neg c, if_neg c, h]; rfl
/-- what is left of the places when the upper letters are taken -/
theorem plR_take (m : Int) : ∀ (u v : List Int), (plR m (u ++ v)).take ((plR m (u ++ v)).length - cnM m u) = plR m v
  | [], v => by
    show (plR m v).take ((plR m v).length - 0) = plR m v
    rw [Nat.sub_zero, List.take_length]
  | a :: u, v => by
    have h := plR_take m u v
    have h2 := plR_cn m (u ++ v)
    rw [cnM_app] at h2
    rw [cnM_cons]
    have e : plR m (a :: (u ++ v)) = if ab a = m then plR m (u ++ v) ++ [((u ++ v).length : Int)] else plR m (u ++ v) := rfl
    show (plR m (a :: (u ++ v))).take ((plR m (a :: (u ++ v))).length - _) = _
    rw [e]
    by_cases c : ab a = m
    · rw [if_pos c, if_pos c, List.length_append, List.length_singleton, show (plR m (u ++ v)).length + 1 - (cnM m u + 1) = (plR m (u ++ v)).length - cnM m u by omega, List.take_append_of_le_length (by omega)]
      exact h
    · rw [if_neg c, if_neg c, Nat.add_zero]
      exact h
/-- what the places tell of a magnitude -/
def PlB (H0 H : Hp) (d w : Addr) (l : List Int) : Option V → Prop
  | none => l = []
  | some v => ∃ a : Addr, v = .ref a ∧ H0 a = none ∧ H a = some (.lst (l.map V.int)) ∧ a ≠ d ∧ a ≠ w
structure ScB (H0 H : Hp) (C x d w p : Addr) (dn wt : List Int) (pl : Int → List Int) (N : Nat) : Prop where
  sm : Same H0 H
  fx : H0 x = none
  fd : H0 d = none
  fw : H0 w = none
  fp : H0 p = none
  ix : ∃ dx, H x = some (.ins C dx (scf d w p))
  hd : H d = some (.lst (stk dn))
  hw : H w = some (.lst (stk wt))
  dw : d ≠ w
  hp : ∃ kvs : List (L2.Key × V), H p = some (.dK kvs) ∧ kvs.length ≤ N ∧ (∀ m : Int, PlB H0 H d w (pl m) (valV kvs (Sum.inl m))) ∧ ∀ m m' a, valV kvs (Sum.inl m) = some (.ref a) → valV kvs (Sum.inl m') = some (.ref a) → m = m'
abbrev ScA (H0 H : Hp) (C x d w p : Addr) (dn wt : List Int) (N : Nat) : Prop := ScB H0 H C x d w p dn wt (fun m => plR m dn) N
def fhS : List Int → List Int → Option (List Int × Int × List Int)
  | _, [] => none
  | dn, a :: t => if 0 ≤ hsv a dn then some (dn, a, t) else fhS (a :: dn) t
theorem fhS_len : ∀ {wt dn dn' t : List Int} {a : Int}, fhS dn wt = some (dn', a, t) → dn'.length + (t.length + 1) = dn.length + wt.length ∧ dn'.reverse ++ a :: t = dn.reverse ++ wt ∧ 0 ≤ hsv a dn'
  | [], dn, dn', t, a, h => by cases h
  | b :: wt, dn, dn', t, a, h => by
    unfold fhS at h
    split at h
    · rename_i c
      cases h
      exact ⟨rfl, rfl, c⟩
    · have := fhS_len h
      rw [List.length_cons] at this
      refine ⟨by rw [List.length_cons]; omega, ?_, this.2.2⟩
      rw [this.2.1, List.reverse_cons, List.append_assoc]
      rfl
def spScI (K : PySem.W.Frag) (C : Addr) : Sp := fun vs H Q _ => ∃ (H0 : Hp) (x dx a : Addr) (ns : List Int), vs = [.ref x, .ref a] ∧ Same H0 H ∧ H0 x = none ∧ H x = some (.ins C dx []) ∧ WT K H a ns ∧ ∀ d w p H', ScA H0 H' C x d w p [] ns 0 → Q .non H'
def spLP (C : Addr) : Sp := fun vs H Q _ => ∃ (H0 : Hp) (x d w p : Addr) (dn wt : List Int) (m : Int) (N : Nat), vs = [.ref x, .int m] ∧ ScA H0 H C x d w p dn wt N ∧ Q (.int (lastR m dn)) H
def spHS (C : Addr) : Sp := fun vs H Q _ => ∃ (H0 : Hp) (x d w p : Addr) (dn wt : List Int) (a : Int) (N : Nat), vs = [.ref x] ∧ ScA H0 H C x d w p dn (a :: wt) N ∧ Q (.int (hsv a dn)) H
def spRL (C : Addr) : Sp := fun vs H Q _ => ∃ (H0 : Hp) (x d w p : Addr) (dn wt : List Int) (a : Int) (N : Nat), vs = [.ref x] ∧ ScA H0 H C x d w p dn (a :: wt) N ∧ dn.length ≤ 1000 ∧ N ≤ 10000000 ∧ ∀ H', ScA H0 H' C x d w p (a :: dn) wt (N + 1) → Q .non H'
def spFH (C : Addr) : Sp := fun vs H Q _ => ∃ (H0 : Hp) (x d w p : Addr) (dn wt : List Int) (N : Nat), vs = [.ref x] ∧ ScA H0 H C x d w p dn wt N ∧ dn.length + wt.length ≤ 1000 ∧ N + wt.length ≤ 10000000 ∧
  (fhS dn wt = none → ∀ H' N', N' ≤ N + wt.length → ScA H0 H' C x d w p (wt.reverse ++ dn) [] N' → Q (.int (-1)) H') ∧ ∀ dn' a t, fhS dn wt = some (dn', a, t) → 0 ≤ hsv a dn' → ∀ H' N', N' ≤ N + wt.length → ScA H0 H' C x d w p dn' (a :: t) N' → Q (.int (hsv a dn')) H'
/-- take_handle -/
def spTK (C : Addr) : Sp := fun vs H Q _ => ∃ (H0 : Hp) (x d w p : Addr) (u v t : List Int) (a : Int) (N : Nat), vs = [.ref x, .int (v.length : Nat)] ∧ ScA H0 H C x d w p (u ++ v) (a :: t) N ∧ u.length + v.length + t.length ≤ 1000 ∧ u ≠ [] ∧ ∀ l H', ScA H0 H' C x d w p v t N → H' l = some (.lst ((u.reverse ++ [a]).map V.int)) → H0 l = none → l ≠ d → l ≠ w → l ≠ p → Q (.ref l) H'
def spPB (C : Addr) : Sp := fun vs H Q _ => ∃ (H0 : Hp) (x d w p l : Addr) (dn wt ls : List Int) (N : Nat), vs = [.ref x, .ref l] ∧ ScA H0 H C x d w p dn wt N ∧ H l = some (.lst (ls.map V.int)) ∧ wt.length + ls.length ≤ 3000 ∧ ∀ H', ScA H0 H' C x d w p dn (ls ++ wt) N → Q .non H'
theorem valV_new {kvs : List (L2.Key × V)} {k : L2.Key} {z : V} (h : valV kvs k = none) : valV (kvs ++ [(k, z)]) k = some z := by
  unfold valV at h ⊢
  have h' := Option.map_eq_none_iff.mp h
  rw [List.find?_append, h']
  simp
theorem valV_old {kvs : List (L2.Key × V)} {k k' : L2.Key} {z : V} (h : k ≠ k') : valV (kvs ++ [(k, z)]) k' = valV kvs k' := by
  unfold valV
  rw [List.find?_append]
  cases kvs.find? (fun kv => decide (kv.1 = k')) with
  | some v => rfl
  | none => simp [h]
theorem ScB.next {H0 H H' : Hp} {C x d w p b : Addr} {dn wt : List Int} {a : Int} {N : Nat} {kvs kvs' : List (L2.Key × V)} (hA : ScA H0 H C x d w p dn (a :: wt) N) (hp : H p = some (.dK kvs)) (hP : ∀ m : Int, PlB H0 H d w (plR m dn) (valV kvs (Sum.inl m))) (hI : ∀ m m' a, valV kvs (Sum.inl m) = some (.ref a) → valV kvs (Sum.inl m') = some (.ref a) → m = m')
    (keep : ∀ c o, c ≠ w → c ≠ d → c ≠ p → c ≠ b → H c = some o → H' c = some o) (hw : H' w = some (.lst (stk wt))) (hd : H' d = some (.lst (stk (a :: dn)))) (hp' : H' p = some (.dK kvs')) (hb : H' b = some (.lst ((plR (ab a) (a :: dn)).map V.int)))
    (v1 : valV kvs' (Sum.inl (ab a)) = some (.ref b)) (v2 : ∀ m, m ≠ ab a → valV kvs' (Sum.inl m) = valV kvs (Sum.inl m)) (hl : kvs'.length ≤ N + 1) (b0 : H0 b = none) (bd : b ≠ d) (bw : b ≠ w) (bx : x ≠ b) (nb : ∀ m, m ≠ ab a → valV kvs (Sum.inl m) ≠ some (.ref b)) : ScA H0 H' C x d w p (a :: dn) wt (N + 1) := by
  obtain ⟨dx, hx⟩ := hA.ix
  have fresh : ∀ {c e : Addr} {o : HO}, H0 c = some o → H0 e = none → c ≠ e := fun {c e o} h1 h2 z => by rw [z, h2] at h1; cases h1
  have plE : ∀ m, m ≠ ab a → plR m (a :: dn) = plR m dn := fun m hm => if_neg (Ne.symm hm)
  refine ⟨fun c o e => keep c o (fresh e hA.fw) (fresh e hA.fd) (fresh e hA.fp) (fresh e b0) (hA.sm _ _ e), hA.fx, hA.fd, hA.fw, hA.fp, ⟨dx, keep x _ (ne_of hx hA.hw (by intro z; cases z)) (ne_of hx hA.hd (by intro z; cases z)) (ne_of hx hp (by intro z; cases z)) bx hx⟩, hd, hw, hA.dw, kvs', hp', hl, fun m => ?_, fun m m' c e1 e2 => ?_⟩
  · by_cases hm : m = ab a
    · subst hm
      rw [v1]
      exact ⟨b, rfl, b0, hb, bd, bw⟩
    · rw [v2 m hm, plE m hm]
      have h := hP m
      have hn := nb m hm
      cases ev : valV kvs (Sum.inl m) with
      | none =>
        rw [ev] at h
        exact h
      | some v =>
        rw [ev] at h hn
        obtain ⟨c, rfl, c0, hc, cd, cw⟩ := h
        exact ⟨c, rfl, c0, keep c _ cw cd (ne_of hc hp (by intro z; cases z)) (fun z => hn (by rw [z])) hc, cd, cw⟩
  · by_cases h1 : m = ab a
    · by_cases h2 : m' = ab a
      · rw [h1, h2]
      · rw [v2 m' h2] at e2
        subst h1
        rw [v1] at e1
        cases e1
        exact absurd e2 (nb m' h2)
    · rw [v2 m h1] at e1
      by_cases h2 : m' = ab a
      · subst h2
        rw [v1] at e2
        cases e2
        exact absurd e1 (nb m h1)
      · rw [v2 m' h2] at e2
        exact hI m m' c e1 e2
/-! ### the law's search for the first handle -/
def lastP (P : Int → Bool) : List Int → Int
  | [] => -1
  | a :: r => if P a = true then (r.length : Int) else lastP P r
theorem lastP_b (P : Int → Bool) : ∀ dn : List Int, -1 ≤ lastP P dn ∧ lastP P dn < dn.length
  | [] => ⟨by show (-1 : Int) ≤ -1; omega, by show (-1 : Int) < 0; omega⟩
  | a :: r => by
    have h := lastP_b P r
    unfold lastP
    rw [List.length_cons]
    split
    · omega
    · omega
def nearP (b : Int) (x : Int) : Bool := decide (ab x = b) || decide (ab x = b - 1)
theorem lastP_max (b : Int) : ∀ dn : List Int, lastP (nearP b) dn = max (lastR b dn) (lastR (b - 1) dn)
  | [] => by show (-1 : Int) = max (-1) (-1); omega
  | a :: r => by
    have ih := lastP_max b r
    have b1 := lastR_b b r
    have b2 := lastR_b (b - 1) r
    unfold lastP lastR nearP
    by_cases h1 : ab a = b
    · rw [if_pos (by rw [decide_eq_true h1]; rfl), if_pos h1, if_neg (by omega)]
      omega
    · by_cases h2 : ab a = b - 1
      · rw [if_pos (by rw [decide_eq_true h2, Bool.or_true]), if_neg h1, if_pos h2]
        omega
      · rw [if_neg (by rw [decide_eq_false h1, decide_eq_false h2]; decide), if_neg h1, if_neg h2]
        exact ih
/-- the same handle, seen from the law -/
theorem hsv_near (a : Int) (dn : List Int) : (0 ≤ lastP (nearP (ab a)) dn ∧ dn.reverse[(lastP (nearP (ab a)) dn).toNat]? = some (-a) ∧ 0 ≤ hsv a dn ∧ hsv a dn = lastP (nearP (ab a)) dn) ∨ (¬ (0 ≤ lastP (nearP (ab a)) dn ∧ dn.reverse[(lastP (nearP (ab a)) dn).toNat]? = some (-a)) ∧ ¬ 0 ≤ hsv a dn) := by
  have e := lastP_max (ab a) dn
  have b1 := lastR_b (ab a) dn
  have b2 := lastR_b (ab a - 1) dn
  by_cases c : lastR (ab a) dn > lastR (ab a - 1) dn ∧ dn.reverse[(lastR (ab a) dn).toNat]? = some (-a)
  · have eh : hsv a dn = lastR (ab a) dn := if_pos c
    have el : lastP (nearP (ab a)) dn = lastR (ab a) dn := by omega
    rw [eh, el]
    exact .inl ⟨by omega, c.2, by omega, rfl⟩
  · have eh : hsv a dn = -1 := if_neg c
    refine .inr ⟨fun z => ?_, by rw [eh]; omega⟩
    obtain ⟨z1, z2⟩ := z
    by_cases h : lastR (ab a) dn > lastR (ab a - 1) dn
    · have el : lastP (nearP (ab a)) dn = lastR (ab a) dn := by omega
      rw [el] at z2
      exact c ⟨h, z2⟩
    · have el : lastP (nearP (ab a)) dn = lastR (ab a - 1) dn := by omega
      rw [el] at z1 z2
      obtain ⟨b, eb, hb⟩ := lastR_get (ab a - 1) dn z1
      rw [z2] at eb
      cases eb
      have : ab (-a) = ab a := by unfold ab; split <;> split <;> omega
      omega
/-- the places below i -/
def nr (P : Int → Bool) (ns : List Int) : Nat → List Int
  | 0 => []
  | j + 1 => match ns[j]? with
    | some b => if P b = true then nr P ns j ++ [(j : Int)] else nr P ns j
    | none => nr P ns j
theorem nr_len (P : Int → Bool) (ns : List Int) : ∀ i, (nr P ns i).length ≤ i
  | 0 => Nat.le_refl _
  | j + 1 => by
    have h := nr_len P ns j
    unfold nr
    split
    · split
      · rw [List.length_append]
        show _ + 1 ≤ j + 1
        omega
      · omega
    · omega
theorem nr_last (P : Int → Bool) (ns : List Int) : ∀ i, i ≤ ns.length → (lastP P (ns.take i).reverse = -1 ∧ nr P ns i = []) ∨ (0 ≤ lastP P (ns.take i).reverse ∧ ∃ ys, nr P ns i = ys ++ [lastP P (ns.take i).reverse])
  | 0, _ => .inl ⟨rfl, rfl⟩
  | j + 1, h => by
    have ih := nr_last P ns j (by omega)
    have hj : ns[j]? = some ns[j] := List.getElem?_eq_getElem (by omega)
    have e1 : (ns.take (j + 1)).reverse = ns[j] :: (ns.take j).reverse := by rw [take_snoc hj, List.reverse_append]; rfl
    have e2 : nr P ns (j + 1) = if P ns[j] = true then nr P ns j ++ [(j : Int)] else nr P ns j := by
      conv => lhs; unfold nr
      rw [hj]
    have e3 : (ns.take j).reverse.length = j := by rw [List.length_reverse, List.length_take]; omega
    rw [e1, e2]
    unfold lastP
    by_cases c : P ns[j] = true
    · rw [if_pos c, if_pos c, e3]
      exact .inr ⟨by omega, _, rfl⟩
    · rw [if_neg c, if_neg c]
      exact ih
def spLFH (K : PySem.W.Frag) : Sp := fun vs H Q _ => ∃ (a : Addr) (ns : List Int), vs = [.ref a] ∧ WT K H a ns ∧ ns.length ≤ 1000 ∧ (fhA [] ns = none → ∀ H', Same H H' → Q .non H') ∧ ∀ s n, fhA [] ns = some (s, n) → ∀ t H', Same H H' → SqT K H' t [.int s, .int (n : Int)] → Q (.ref t) H'
theorem in_near (b x : Int) : inV (.int x) [.int b, .int (b - 1)] = (decide (x = b) || decide (x = b - 1)) := by
  have e : ∀ i j : Int, eqV (.int i) (.int j) = decide (j = i) := fun i j => by
    show (i == j) = decide (j = i)
    rw [Bool.eq_iff_iff]
    simp
    constructor <;> intro h <;> exact h.symm
  show (eqV (.int b) (.int x) || (eqV (.int (b - 1)) (.int x) || false)) = _
  rw [e, e, Bool.or_false]
/-! ### handle reduction -/
def wo (f : Int) (inner : List Int) : List Int := inner.flatMap fun x => if ab x = ab f + 1 then [-(sgn (ab f + 1) f), sgn (ab f) x, sgn (ab f + 1) f] else [x]
theorem wo_nil (f : Int) : wo f [] = [] := rfl
theorem wo_cons (f x : Int) (l : List Int) : wo f (x :: l) = (if ab x = ab f + 1 then [-(sgn (ab f + 1) f), sgn (ab f) x, sgn (ab f + 1) f] else [x]) ++ wo f l := List.flatMap_cons
theorem wo_app (f : Int) (l m : List Int) : wo f (l ++ m) = wo f l ++ wo f m := List.flatMap_append
theorem wo_len (f : Int) : ∀ l : List Int, (wo f l).length ≤ 3 * l.length
  | [] => Nat.le_refl _
  | x :: l => by
    have h := wo_len f l
    rw [wo_cons, List.length_append, List.length_cons]
    split
    · show 3 + _ ≤ _; omega
    · show 1 + _ ≤ _; omega
theorem fhA_S : ∀ (dn wt : List Int), fhA dn wt = (fhS dn wt).map fun z => (hsv z.2.1 z.1, z.1.length)
  | dn, [] => rfl
  | dn, a :: t => by
    unfold fhA fhS
    split
    · rfl
    · exact fhA_S (a :: dn) t
def NoH : List Int → Prop
  | [] => True
  | x :: r => ¬ 0 ≤ hsv x r ∧ NoH r
theorem noH_fh : ∀ {dn : List Int}, NoH dn → ∀ wt, fhA [] (dn.reverse ++ wt) = fhA dn wt
  | [], _, wt => rfl
  | x :: r, h, wt => by
    rw [List.reverse_cons, List.append_assoc, noH_fh h.2]
    show (if 0 ≤ hsv x r then _ else fhA (x :: r) wt) = _
    rw [if_neg h.1]
theorem noH_drop : ∀ {dn : List Int} (n : Nat), NoH dn → NoH (dn.drop n)
  | [], n, _ => by rw [List.drop_nil]; trivial
  | x :: r, 0, h => h
  | x :: r, n + 1, h => noH_drop (dn := r) n h.2
theorem noH_fhS : ∀ {wt dn dn' t : List Int} {a : Int}, NoH dn → fhS dn wt = some (dn', a, t) → NoH dn'
  | [], dn, dn', t, a, _, h => by cases h
  | b :: wt, dn, dn', t, a, n, h => by
    unfold fhS at h
    split at h
    · cases h; exact n
    · rename_i c
      exact noH_fhS (dn := b :: dn) ⟨c, n⟩ h
theorem hsv_b {a : Int} {dn : List Int} (h : 0 ≤ hsv a dn) : hsv a dn = lastR (ab a) dn ∧ lastR (ab a) dn > lastR (ab a - 1) dn ∧ dn.reverse[(lastR (ab a) dn).toNat]? = some (-a) ∧ (hsv a dn).toNat < dn.length := by
  unfold hsv at h ⊢
  split at h
  · rename_i c
    have hb := lastR_b (ab a) dn
    rw [if_pos c]
    exact ⟨rfl, c.1, c.2, by omega⟩
  · omega
/-- the letters above the last one of a magnitude have another one -/
theorem lastR_up (m : Int) : ∀ (u v : List Int), lastR m (u ++ v) < (v.length : Int) → ∀ x ∈ u, ab x ≠ m
  | [], v, _, x, hx => nomatch hx
  | y :: u, v, h, x, hx => by
    have h : (if ab y = m then ((u ++ v).length : Int) else lastR m (u ++ v)) < (v.length : Int) := h
    split at h
    · rw [List.length_append] at h
      omega
    · rename_i c
      rcases List.mem_cons.mp hx with rfl | hx
      · exact c
      · exact lastR_up m u v h x hx
/-- a handle: its first letter, what is in it, what is below it -/
theorem handle_cut {a : Int} {dn : List Int} (h : 0 ≤ hsv a dn) : ∃ (inner v : List Int), dn = inner.reverse ++ (-a) :: v ∧ (hsv a dn).toNat = v.length ∧ dn.take (dn.length - (hsv a dn).toNat) = inner.reverse ++ [-a] ∧ dn.drop (dn.length - (hsv a dn).toNat) = v ∧ ∀ x ∈ inner, ab x ≠ ab a ∧ ab x ≠ ab a - 1 := by
  obtain ⟨e, h1, h2, h3⟩ := hsv_b h
  have h2 : dn.reverse[(hsv a dn).toNat]? = some (-a) := by rw [e]; exact h2
  generalize es : (hsv a dn).toNat = s at *
  have hs : s < dn.length := h3
  obtain ⟨n, hn⟩ : ∃ n, dn.length - s = n + 1 := ⟨dn.length - s - 1, by omega⟩
  have hn1 : n < dn.length := by omega
  have ea : dn[n] = -a := by
    have := h2
    rw [List.getElem?_reverse hs, show dn.length - 1 - s = n by omega, List.getElem?_eq_getElem hn1] at this
    exact Option.some.inj this
  have eT : dn.take (n + 1) = dn.take n ++ [-a] := take_snoc (by rw [List.getElem?_eq_getElem hn1, ea])
  have eD : dn.drop n = -a :: dn.drop (n + 1) := by rw [List.drop_eq_getElem_cons hn1, ea]
  have ed : dn = (dn.take n).reverse.reverse ++ (-a) :: dn.drop (n + 1) := by rw [List.reverse_reverse, ← eD, List.take_append_drop]
  have hv : (dn.drop (n + 1)).length = s := by rw [List.length_drop]; omega
  refine ⟨(dn.take n).reverse, dn.drop (n + 1), ed, hv.symm, by rw [hn, eT, List.reverse_reverse], by rw [hn], fun x hx => ?_⟩
  have hx : x ∈ dn.take n := List.mem_reverse.mp hx
  have hlen : ((-a :: dn.drop (n + 1)).length : Int) = s + 1 := by rw [List.length_cons, hv]; omega
  rw [List.reverse_reverse] at ed
  have hse : (s : Int) = lastR (ab a) dn := by omega
  constructor
  · refine lastR_up (ab a) (dn.take n) (-a :: dn.drop (n + 1)) ?_ x hx
    rw [← ed]
    omega
  · refine lastR_up (ab a - 1) (dn.take n) (-a :: dn.drop (n + 1)) ?_ x hx
    rw [← ed]
    omega
def redF : Nat → List Int → List Int → Option (List Int)
  | 0, _, _ => none
  | k + 1, dn, wt => if dn.length + wt.length ≤ 1000 then (match fhS dn wt with
    | none => some (dn.reverse ++ wt)
    | some (dn', a, t) => redF k (dn'.drop (dn'.length - (hsv a dn').toNat)) (wo (-a) ((dn'.take (dn'.length - (hsv a dn').toNat)).reverse.drop 1) ++ t))
    else none
/-- one step of the reduction, its parts named -/
theorem redF_step {k : Nat} {dn wt r : List Int} (h : redF (k + 1) dn wt = some r) : dn.length + wt.length ≤ 1000 ∧ ((fhS dn wt = none ∧ r = dn.reverse ++ wt) ∨
    ∃ (a : Int) (inner v t : List Int), fhS dn wt = some (inner.reverse ++ (-a) :: v, a, t) ∧ 0 ≤ hsv a (inner.reverse ++ (-a) :: v) ∧ (hsv a (inner.reverse ++ (-a) :: v)).toNat = v.length ∧ dn.reverse ++ wt = v.reverse ++ ((-a) :: inner ++ a :: t) ∧ redF k v (wo (-a) inner ++ t) = some r ∧ ∀ x ∈ inner, ab x ≠ ab a ∧ ab x ≠ ab a - 1) := by
  unfold redF at h
  split at h
  · rename_i c
    refine ⟨c, ?_⟩
    split at h
    · rename_i e
      cases h
      exact .inl ⟨e, rfl⟩
    · rename_i dn' a t e
      obtain ⟨_, h2, h3⟩ := fhS_len e
      obtain ⟨inner, v, e1, e2, e3, e4, e5⟩ := handle_cut h3
      rw [e3, e4, List.reverse_append, List.reverse_reverse] at h
      refine .inr ⟨a, inner, v, t, by rw [← e1]; exact e, by rw [← e1]; exact h3, by rw [← e1]; exact e2, ?_, h, e5⟩
      rw [← h2, e1, List.reverse_append, List.reverse_cons, List.reverse_reverse, List.append_assoc, List.append_assoc]
      rfl
  · cases h
theorem redF_mono {r : List Int} : ∀ {k : Nat} {dn wt : List Int}, redF k dn wt = some r → ∀ j, redF (k + j) dn wt = some r
  | 0, _, _, h, _ => by cases h
  | k + 1, dn, wt, h, j => by
    rw [show k + 1 + j = (k + j) + 1 by omega]
    unfold redF at h ⊢
    split at h
    · rename_i c
      rw [if_pos c]
      split at h
      · exact h
      · exact redF_mono h j
    · cases h

/-- the moves that remove a handle -/
def rmM : Int → Int → List Int → List (Str × List Int)
  | at_, _, [] => [("cancel", [at_])]
  | at_, f, x :: l => if ab x = ab f + 1 then ("insert", [at_ + 2, -f]) :: ("braid", [at_]) :: rmM (at_ + 3) f l else ("swap", [at_]) :: rmM (at_ + 1) f l
theorem rmM_run : ∀ (inner pre t : List Int) (f : Int) (j : Nat) (more : List (Str × List Int)), f ≠ 0 → ab f ≤ 40 → (∀ x ∈ inner, x ≠ 0 ∧ ab x ≠ ab f ∧ ab x ≠ ab f - 1) → runX (rmM (pre.length : Nat) f inner ++ more) j (pre ++ (f :: inner ++ (-f) :: t)) = runX more (j + (rmM (pre.length : Nat) f inner).length) (pre ++ (wo f inner ++ t))
  | [], pre, t, f, j, more, h0, h4, h => by
    have e1 : mvX "cancel" [(pre.length : Nat)] (pre ++ (f :: (-f) :: t)) = some (pre ++ t) := by
      rw [mvX_two (w := 0) (by decide +kernel) (by omega), Int.toNat_natCast]
      have ga : (pre ++ (f :: (-f) :: t))[pre.length]? = some f := by rw [List.getElem?_append_right (Nat.le_refl _), Nat.sub_self]; rfl
      have gb : (pre ++ (f :: (-f) :: t))[pre.length + 1]? = some (-f) := by rw [List.getElem?_append_right (by omega), Nat.add_sub_cancel_left]; rfl
      unfold mvF
      rw [show mvK 0 (pre ++ (f :: (-f) :: t)) pre.length = mvC (pre ++ (f :: (-f) :: t)) pre.length from rfl]
      unfold mvC
      rw [ga, gb]
      dsimp only
      rw [if_pos (by omega), Option.map_some, List.take_left, List.append_nil, show mvN 0 = 2 from rfl, List.drop_append, show pre.length + 2 - pre.length = 2 by omega, List.drop_eq_nil_of_le (by omega)]
      rfl
    show (match mvX "cancel" [(pre.length : Nat)] (pre ++ (f :: (-f) :: t)) with | none => Except.error j | some r => runX more (j + 1) r) = _
    rw [e1]
    rfl
  | x :: l, pre, t, f, j, more, h0, h4, h => by
    have hx := h x List.mem_cons_self
    have hl : ∀ y ∈ l, y ≠ 0 ∧ ab y ≠ ab f ∧ ab y ≠ ab f - 1 := fun y hy => h y (List.mem_cons_of_mem _ hy)
    have pf := ab_pos' h0
    have px := ab_pos' hx.1
    by_cases c : ab x = ab f + 1
    · have eM : rmM (pre.length : Nat) f (x :: l) = (("insert" : Str), [(pre.length : Int) + 2, -f]) :: (("braid" : Str), [(pre.length : Int)]) :: rmM ((pre.length : Int) + 3) f l := if_pos c
      have eW : wo f (x :: l) = [-(sgn (ab f + 1) f), sgn (ab f) x, sgn (ab f + 1) f] ++ wo f l := by rw [wo_cons, if_pos c]
      have e1 : mvX "insert" [(pre.length : Int) + 2, -f] (pre ++ (f :: (x :: l) ++ (-f) :: t)) = some (pre ++ ([f, x, -f] ++ (f :: l ++ (-f) :: t))) := by
        rw [mvX_ins (by omega) (by rw [List.length_append, List.length_append, List.length_cons, List.length_cons]; omega) (by rw [ab_n]; omega) (by rw [ab_n]; omega)]
        have t1 : (pre ++ (f :: (x :: l) ++ (-f) :: t)).take ((pre.length : Int) + 2).toNat = pre ++ [f, x] := by
          rw [show ((pre.length : Int) + 2).toNat = pre.length + 2 by omega, List.take_append, show pre.length + 2 - pre.length = 2 by omega, List.take_of_length_le (by omega)]
          rfl
        have t2 : (pre ++ (f :: (x :: l) ++ (-f) :: t)).drop ((pre.length : Int) + 2).toNat = l ++ (-f) :: t := by
          rw [show ((pre.length : Int) + 2).toNat = pre.length + 2 by omega, List.drop_append, show pre.length + 2 - pre.length = 2 by omega, List.drop_eq_nil_of_le (by omega)]
          rfl
        rw [t1, t2]
        congr 1
        simp
      have e2 : mvX "braid" [(pre.length : Int)] (pre ++ ([f, x, -f] ++ (f :: l ++ (-f) :: t))) = some ((pre ++ [-(sgn (ab f + 1) f), sgn (ab f) x, sgn (ab f + 1) f]) ++ (f :: l ++ (-f) :: t)) := by
        rw [mvX_two (w := 2) (by decide +kernel) (by omega), Int.toNat_natCast]
        have ga : (pre ++ ([f, x, -f] ++ (f :: l ++ (-f) :: t)))[pre.length]? = some f := by rw [List.getElem?_append_right (Nat.le_refl _), Nat.sub_self]; rfl
        have gb : (pre ++ ([f, x, -f] ++ (f :: l ++ (-f) :: t)))[pre.length + 1]? = some x := by rw [List.getElem?_append_right (by omega), Nat.add_sub_cancel_left]; rfl
        have gc : (pre ++ ([f, x, -f] ++ (f :: l ++ (-f) :: t)))[pre.length + 2]? = some (-f) := by rw [List.getElem?_append_right (by omega), Nat.add_sub_cancel_left]; rfl
        unfold mvF
        rw [show mvK 2 (pre ++ ([f, x, -f] ++ (f :: l ++ (-f) :: t))) pre.length = mvB (pre ++ ([f, x, -f] ++ (f :: l ++ (-f) :: t))) pre.length from rfl]
        unfold mvB
        rw [ga, gb, gc]
        dsimp only
        have eb : brd f x (-f) = some [-(sgn (ab f + 1) f), sgn (ab f) x, sgn (ab f + 1) f] := by
          unfold brd
          rw [if_neg (fun z => z.elim (fun y => y (ab_n f)) (fun y => y (by rw [c, show ab f - (ab f + 1) = -1 by omega]; rfl))), if_pos (by omega), c]
          have s2 : ∀ m y : Int, sgn m y = lsg y * m := fun m y => by unfold sgn lsg; split <;> omega
          rw [s2, s2]
          congr 2
          omega
        rw [eb, Option.map_some, List.take_left, show mvN 2 = 3 from rfl, List.drop_append, show pre.length + 3 - pre.length = 3 by omega, List.drop_eq_nil_of_le (by omega)]
        simp
      have ih := rmM_run l (pre ++ [-(sgn (ab f + 1) f), sgn (ab f) x, sgn (ab f + 1) f]) t f (j + 2) more h0 h4 hl
      rw [show ((pre ++ [-(sgn (ab f + 1) f), sgn (ab f) x, sgn (ab f + 1) f]).length : Nat) = pre.length + 3 by rw [List.length_append]; rfl, show (((pre.length + 3 : Nat) : Nat) : Int) = (pre.length : Int) + 3 by omega] at ih
      rw [eM, eW]
      show (match mvX "insert" [(pre.length : Int) + 2, -f] (pre ++ (f :: (x :: l) ++ (-f) :: t)) with | none => Except.error j | some r => runX ((("braid" : Str), [(pre.length : Int)]) :: rmM ((pre.length : Int) + 3) f l ++ more) (j + 1) r) = _
      rw [e1]
      show (match mvX "braid" [(pre.length : Int)] (pre ++ ([f, x, -f] ++ (f :: l ++ (-f) :: t))) with | none => Except.error (j + 1) | some r => runX (rmM ((pre.length : Int) + 3) f l ++ more) (j + 2) r) = _
      rw [e2]
      dsimp only
      rw [ih, List.length_cons, List.length_cons]
      congr 1
      · omega
      · simp
    · have eM : rmM (pre.length : Nat) f (x :: l) = (("swap" : Str), [(pre.length : Int)]) :: rmM ((pre.length : Int) + 1) f l := if_neg c
      have eW : wo f (x :: l) = [x] ++ wo f l := by rw [wo_cons, if_neg c]
      have e1 : mvX "swap" [(pre.length : Int)] (pre ++ (f :: (x :: l) ++ (-f) :: t)) = some ((pre ++ [x]) ++ (f :: l ++ (-f) :: t)) := by
        rw [mvX_two (w := 1) (by decide +kernel) (by omega), Int.toNat_natCast]
        have ga : (pre ++ (f :: (x :: l) ++ (-f) :: t))[pre.length]? = some f := by rw [List.getElem?_append_right (Nat.le_refl _), Nat.sub_self]; rfl
        have gb : (pre ++ (f :: (x :: l) ++ (-f) :: t))[pre.length + 1]? = some x := by rw [List.getElem?_append_right (by omega), Nat.add_sub_cancel_left]; rfl
        unfold mvF
        rw [show mvK 1 (pre ++ (f :: (x :: l) ++ (-f) :: t)) pre.length = mvS (pre ++ (f :: (x :: l) ++ (-f) :: t)) pre.length from rfl]
        unfold mvS
        rw [ga, gb]
        dsimp only
        have hab : ab (ab f - ab x) > 1 := by
          show (if ab f - ab x < 0 then -(ab f - ab x) else ab f - ab x) > 1
          split <;> omega
        rw [if_pos hab, Option.map_some, List.take_left, show mvN 1 = 2 from rfl, List.drop_append, show pre.length + 2 - pre.length = 2 by omega, List.drop_eq_nil_of_le (by omega)]
        simp
      have ih := rmM_run l (pre ++ [x]) t f (j + 1) more h0 h4 hl
      rw [show ((pre ++ [x]).length : Nat) = pre.length + 1 by rw [List.length_append]; rfl, show (((pre.length + 1 : Nat) : Nat) : Int) = (pre.length : Int) + 1 by omega] at ih
      rw [eM, eW]
      show (match mvX "swap" [(pre.length : Int)] (pre ++ (f :: (x :: l) ++ (-f) :: t)) with | none => Except.error j | some r => runX (rmM ((pre.length : Int) + 1) f l ++ more) (j + 1) r) = _
      rw [e1]
      dsimp only
      rw [ih, List.length_cons]
      congr 1
      · omega
      · simp
def mvsF : Nat → List Int → List Int → List (Str × List Int)
  | 0, _, _ => []
  | k + 1, dn, wt => match fhS dn wt with
    | none => []
    | some (dn', a, t) => rmM ((hsv a dn').toNat : Nat) (-a) ((dn'.take (dn'.length - (hsv a dn').toNat)).reverse.drop 1) ++ mvsF k (dn'.drop (dn'.length - (hsv a dn').toNat)) (wo (-a) ((dn'.take (dn'.length - (hsv a dn').toNat)).reverse.drop 1) ++ t)
theorem step_eq {dn wt inner v t : List Int} {a : Int} (e : fhS dn wt = some (inner.reverse ++ (-a) :: v, a, t)) (h : (hsv a (inner.reverse ++ (-a) :: v)).toNat = v.length) (k : Nat) :
    mvsF (k + 1) dn wt = rmM (v.length : Nat) (-a) inner ++ mvsF k v (wo (-a) inner ++ t) ∧ (dn.length + wt.length ≤ 1000 → redF (k + 1) dn wt = redF k v (wo (-a) inner ++ t)) := by
  have l1 : (inner.reverse ++ (-a) :: v).length - v.length = inner.reverse.length + 1 := by rw [List.length_append, List.length_cons]; omega
  have e1 : (inner.reverse ++ (-a) :: v).take ((inner.reverse ++ (-a) :: v).length - v.length) = inner.reverse ++ [-a] := by
    rw [l1, List.take_append, Nat.add_sub_cancel_left, List.take_of_length_le (by omega)]
    rfl
  have e2 : (inner.reverse ++ (-a) :: v).drop ((inner.reverse ++ (-a) :: v).length - v.length) = v := by
    rw [l1, List.drop_append, Nat.add_sub_cancel_left, List.drop_eq_nil_of_le (by omega)]
    rfl
  have e3 : (inner.reverse ++ [-a]).reverse.drop 1 = inner := by rw [List.reverse_append, List.reverse_reverse]; rfl
  constructor
  · conv => lhs; unfold mvsF
    rw [e]
    dsimp only
    rw [h, e1, e2, e3]
  · intro hl
    conv => lhs; unfold redF
    rw [if_pos hl, e]
    dsimp only
    rw [h, e1, e2, e3]
theorem sgn_ab' {m x : Int} (hm : 0 < m) : sgn m x ≠ 0 ∧ ab (sgn m x) = m := by
  unfold sgn ab
  split <;> split <;> omega
theorem wo_mem {f y : Int} : ∀ {l : List Int}, y ∈ wo f l → (y ∈ l ∧ ab y ≠ ab f + 1) ∨ ∃ x ∈ l, ab x = ab f + 1 ∧ (y = -(sgn (ab f + 1) f) ∨ y = sgn (ab f) x ∨ y = sgn (ab f + 1) f)
  | [], h => nomatch h
  | x :: l, h => by
    rw [wo_cons] at h
    rcases List.mem_append.mp h with h | h
    · split at h
      · rename_i c
        refine .inr ⟨x, List.mem_cons_self, c, ?_⟩
        simp only [List.mem_cons, List.not_mem_nil, or_false] at h
        exact h
      · rename_i c
        rw [List.mem_singleton.mp h]
        exact .inl ⟨List.mem_cons_self, c⟩
    · rcases wo_mem h with ⟨h1, h2⟩ | ⟨z, hz, h2⟩
      · exact .inl ⟨List.mem_cons_of_mem _ h1, h2⟩
      · exact .inr ⟨z, List.mem_cons_of_mem _ hz, h2⟩
theorem wo_lets {top f : Int} {l : List Int} (hf : f ≠ 0) (h : Lets top l) : Lets top (wo f l) := fun y hy => by
  have pf := ab_pos' hf
  rcases wo_mem hy with ⟨h1, _⟩ | ⟨x, hx, hc, h2⟩
  · exact h y h1
  · have hx2 := (h x hx).2
    have s1 := sgn_ab' (m := ab f + 1) (x := f) (by omega)
    have s2 := sgn_ab' (m := ab f) (x := x) pf
    rcases h2 with rfl | rfl | rfl
    · exact ⟨by omega, by rw [ab_n]; omega⟩
    · exact ⟨s2.1, by omega⟩
    · exact ⟨s1.1, by omega⟩
theorem mvs_run {r : List Int} : ∀ {k : Nat} {dn wt : List Int}, redF k dn wt = some r → Lets 40 (dn.reverse ++ wt) → ∀ j, runX (mvsF k dn wt) j (dn.reverse ++ wt) = .ok r
  | 0, _, _, h, _, _ => by cases h
  | k + 1, dn, wt, h, hL, j => by
    obtain ⟨_, h2⟩ := redF_step h
    rcases h2 with ⟨e, rfl⟩ | ⟨a, inner, v, t, e, _, hs, ew, hr, hin⟩
    · unfold mvsF
      rw [e]
      rfl
    · rw [(step_eq e hs k).1, ew]
      rw [ew] at hL
      have ha : a ≠ 0 ∧ ab a ≤ 40 := hL a (by simp)
      have h1 := rmM_run inner v.reverse t (-a) j (mvsF k v (wo (-a) inner ++ t)) (by omega) (by rw [ab_n]; exact ha.2) (fun x hx => ⟨(hL x (by simp [hx])).1, by rw [ab_n]; exact hin x hx⟩)
      rw [List.length_reverse, show - -a = a by omega] at h1
      rw [h1]
      refine mvs_run hr ?_ _
      refine Lets.app (fun x hx => hL x (List.mem_append_left _ hx)) (Lets.app (wo_lets (by omega) fun x hx => hL x (by simp [hx])) fun x hx => hL x (by simp [hx]))
/-! ### words of a single handle -/
/-- letters of the magnitudes k (all of one sign), k + 1, k + 3, k + 5 -/
def PK (k w : Int) (ns : List Int) : Prop := ∀ x ∈ ns, (ab x = k → x = w * k) ∧ (ab x = k ∨ ab x = k + 1 ∨ ab x = k + 3 ∨ ab x = k + 5)
theorem wo_same {f : Int} : ∀ {l : List Int}, (∀ x ∈ l, ab x ≠ ab f + 1) → wo f l = l
  | [], _ => rfl
  | x :: l, h => by
    rw [wo_cons, if_neg (h x List.mem_cons_self), wo_same fun y hy => h y (List.mem_cons_of_mem _ hy)]
    rfl
theorem rmM_len : ∀ (at_ f : Int) (l : List Int), (rmM at_ f l).length ≤ 2 * l.length + 1
  | _, _, [] => Nat.le_refl _
  | at_, f, x :: l => by
    unfold rmM
    rw [List.length_cons]
    split
    · have := rmM_len (at_ + 3) f l
      rw [List.length_cons, List.length_cons]; omega
    · have := rmM_len (at_ + 1) f l
      rw [List.length_cons]; omega
theorem rmM_same : ∀ {at_ f : Int} {l : List Int}, (∀ x ∈ l, ab x ≠ ab f + 1) → (rmM at_ f l).length = l.length + 1
  | _, _, [], _ => rfl
  | at_, f, x :: l, h => by
    unfold rmM
    rw [if_neg (h x List.mem_cons_self), List.length_cons, rmM_same fun y hy => h y (List.mem_cons_of_mem _ hy)]
    rfl
theorem red_pk {k w : Int} (hk : 0 < k) : ∀ (n : Nat) (dn wt : List Int), PK k w (dn.reverse ++ wt) → dn.length + wt.length ≤ n → n ≤ 18 → ∃ r, redF (n + 1) dn wt = some r ∧ PK k w r ∧ (mvsF (n + 1) dn wt).length ≤ n * 18
  | n, dn, wt, hP, hl, hn => by
    cases e : fhS dn wt with
    | none =>
      refine ⟨dn.reverse ++ wt, ?_, hP, ?_⟩
      · unfold redF
        rw [if_pos (by omega), e]
      · unfold mvsF
        rw [e]
        exact Nat.zero_le _
    | some z =>
      obtain ⟨dn', a, t⟩ := z
      obtain ⟨h1, h2, h3⟩ := fhS_len e
      obtain ⟨inner, v, e1, e2, _, _, e5⟩ := handle_cut h3
      subst e1
      have ew : dn.reverse ++ wt = v.reverse ++ ((-a) :: inner ++ a :: t) := by
        rw [← h2, List.reverse_append, List.reverse_cons, List.reverse_reverse, List.append_assoc, List.append_assoc]
        rfl
      rw [ew] at hP
      have pa := hP a (by simp)
      have pn := hP (-a) (by simp)
      rw [ab_n] at pn
      have hne : ab a ≠ k := fun z => by
        have h1 := pa.1 z
        have h2 := pn.1 z
        have : a = 0 := by omega
        rw [this] at z
        have : ab 0 = 0 := rfl
        omega
      have hin : ∀ x ∈ inner, ab x ≠ ab (-a) + 1 := fun x hx => by
        have px := hP x (by simp [hx])
        rw [ab_n]
        have := pa.2
        have := px.2
        omega
      have es : wo (-a) inner = inner := wo_same hin
      have hl2 : v.length + (inner ++ t).length + 2 ≤ n := by
        rw [List.length_append, List.length_cons, List.length_reverse] at h1
        rw [List.length_append]
        omega
      obtain ⟨m, rfl⟩ : ∃ m, n = m + 1 := ⟨n - 1, by omega⟩
      obtain ⟨r, hr, hpr, hml⟩ := red_pk hk m v (inner ++ t) (fun x hx => hP x (by
        simp only [List.mem_append, List.mem_reverse] at hx
        simp only [List.mem_append, List.mem_reverse, List.mem_cons]
        rcases hx with hx | hx | hx
        · exact .inl hx
        · exact .inr (.inl (.inr hx))
        · exact .inr (.inr (.inr hx)))) (by omega) (by omega)
      refine ⟨r, ?_, hpr, ?_⟩
      · rw [(step_eq e e2 (m + 1)).2 (by omega), es]
        exact hr
      · rw [(step_eq e e2 (m + 1)).1, es, List.length_append, rmM_same hin]
        rw [List.length_append] at hl2
        omega
theorem hsv_no {x : Int} {dn : List Int} (h : -x ∉ dn) : ¬ 0 ≤ hsv x dn := fun z => by
  obtain ⟨_, _, e, _⟩ := hsv_b z
  have := List.mem_of_getElem? e
  exact h (List.mem_reverse.mp this)
theorem fhS_pass : ∀ (l dn rest : List Int), (∀ x ∈ l, -x ∉ l ∧ -x ∉ dn) → fhS dn (l ++ rest) = fhS (l.reverse ++ dn) rest
  | [], _, _, _ => rfl
  | x :: l, dn, rest, h => by
    have hx := h x List.mem_cons_self
    have e : fhS dn (x :: (l ++ rest)) = fhS (x :: dn) (l ++ rest) := by
      conv => lhs; unfold fhS
      rw [if_neg (hsv_no hx.2)]
    show fhS dn (x :: (l ++ rest)) = _
    rw [e, fhS_pass l (x :: dn) rest fun y hy => ?_, List.reverse_cons, List.append_assoc]
    · rfl
    · have hy2 := h y (List.mem_cons_of_mem _ hy)
      refine ⟨fun z => hy2.1 (List.mem_cons_of_mem _ z), fun z => ?_⟩
      rcases List.mem_cons.mp z with z | z
      · exact hy2.1 (by rw [z]; exact List.mem_cons_self)
      · exact hy2.2 z
theorem lastR_no {m : Int} : ∀ {dn : List Int}, (∀ x ∈ dn, ab x ≠ m) → lastR m dn = -1
  | [], _ => rfl
  | x :: r, h => by
    unfold lastR
    rw [if_neg (h x List.mem_cons_self), lastR_no fun y hy => h y (List.mem_cons_of_mem _ hy)]
theorem lastR_skip {m : Int} : ∀ {u v : List Int}, (∀ x ∈ u, ab x ≠ m) → lastR m (u ++ v) = lastR m v
  | [], _, _ => rfl
  | x :: u, v, h => by
    show (if ab x = m then _ else lastR m (u ++ v)) = _
    rw [if_neg (h x List.mem_cons_self), lastR_skip fun y hy => h y (List.mem_cons_of_mem _ hy)]
/-- a word of one handle: what it is reduced to -/
theorem red_one {k s w : Int} {inner : List Int} (hk : 0 < k) (hs : s = 1 ∨ s = -1) (hw : w = 1 ∨ w = -1) (hi : ∀ x ∈ inner, x = w * (k + 1) ∨ x = k + 3 ∨ x = k + 5) (hl : inner.length ≤ 6) :
    ∃ r, redF 20 [] (s * k :: inner ++ [0 - s * k]) = some r ∧ PK k w r ∧ (mvsF 20 [] (s * k :: inner ++ [0 - s * k])).length ≤ 400 := by
  have abf : ab (s * k) = k := by
    rcases hs with rfl | rfl
    · rw [Int.one_mul, ab_p hk]
    · rw [show -1 * k = -k by omega, ab_n, ab_p hk]
  have hmag : ∀ x ∈ inner, ab x = k + 1 ∧ x = w * (k + 1) ∨ ab x = k + 3 ∧ x = k + 3 ∨ ab x = k + 5 ∧ x = k + 5 := fun x hx => by
    rcases hi x hx with rfl | rfl | rfl
    · refine .inl ⟨?_, rfl⟩
      rcases hw with rfl | rfl
      · rw [Int.one_mul, ab_p (by omega)]
      · rw [show -1 * (k + 1) = -(k + 1) by omega, ab_n, ab_p (by omega)]
    · exact .inr (.inl ⟨ab_p (by omega), rfl⟩)
    · exact .inr (.inr ⟨ab_p (by omega), rfl⟩)
  generalize ef : s * k = f at *
  have hf0 : f ≠ 0 := ab_z (by omega)
  have e1 : fhS [] (f :: inner ++ [0 - f]) = fhS ((f :: inner).reverse ++ []) [0 - f] := fhS_pass (f :: inner) [] [0 - f] fun x hx => by
    refine ⟨fun z => ?_, fun z => nomatch z⟩
    rcases List.mem_cons.mp hx with rfl | hx
    · rcases List.mem_cons.mp z with z | z
      · omega
      · have := hmag _ z
        rw [ab_n] at this
        omega
    · have h1 := hmag x hx
      rcases List.mem_cons.mp z with z | z
      · have h2 : ab (-x) = ab f := by rw [z]
        rw [ab_n] at h2
        omega
      · have h2 := hmag _ z
        rw [ab_n] at h2
        rcases hw with rfl | rfl <;> omega
  rw [List.append_nil, List.reverse_cons] at e1
  have hh : hsv (0 - f) (inner.reverse ++ [f]) = 0 := by
    have a1 : ab (0 - f) = k := by rw [show 0 - f = -f by omega, ab_n, abf]
    have l1 : lastR k (inner.reverse ++ [f]) = 0 := by
      rw [lastR_skip fun x hx => by have := hmag x (List.mem_reverse.mp hx); omega]
      show (if ab f = k then (0 : Int) else _) = 0
      rw [if_pos abf]
    have l2 : lastR (k - 1) (inner.reverse ++ [f]) = -1 := lastR_no fun x hx => by
      rcases List.mem_append.mp hx with hx | hx
      · have := hmag x (List.mem_reverse.mp hx); omega
      · rw [List.mem_singleton.mp hx]; omega
    have hg : (inner.reverse ++ [f]).reverse[(0 : Int).toNat]? = some (-(0 - f)) := by
      rw [List.reverse_append]
      show some f = some (-(0 - f))
      rw [show -(0 - f) = f by omega]
    unfold hsv
    rw [a1, l1, l2, if_pos ⟨by decide, hg⟩]
  have e2 : fhS [] (f :: inner ++ [0 - f]) = some (inner.reverse ++ (-(0 - f)) :: [], 0 - f, []) := by
    rw [e1]
    unfold fhS
    rw [if_pos (by rw [hh]; decide), show -(0 - f) = f by omega]
  have hP : PK k w (wo (-(0 - f)) inner ++ []) := fun y hy => by
    rw [List.append_nil, show -(0 - f) = f by omega] at hy
    rcases wo_mem hy with ⟨h1, h2⟩ | ⟨x, hx, hc, h2⟩
    · have := hmag y h1
      exact ⟨by omega, by omega⟩
    · have s1 := sgn_ab' (m := ab f + 1) (x := f) (by omega)
      have s2 := sgn_ab' (m := ab f) (x := x) (by omega)
      have hx2 := hmag x hx
      rcases h2 with rfl | rfl | rfl
      · rw [ab_n]
        exact ⟨by omega, by omega⟩
      · refine ⟨fun _ => ?_, by omega⟩
        rw [abf]
        have hx3 : x = w * (k + 1) := by omega
        unfold sgn
        rcases hw with rfl | rfl
        · rw [if_pos (by omega)]; omega
        · rw [if_neg (by omega)]; omega
      · exact ⟨by omega, by omega⟩
  have hwl := wo_len (-(0 - f)) inner
  have ll : ([] : List Int).length + (wo (-(0 - f)) inner ++ []).length ≤ 18 := by
    rw [List.append_nil, List.length_nil]
    omega
  obtain ⟨r, hr, hpr, hml⟩ := red_pk hk 18 [] (wo (-(0 - f)) inner ++ []) hP ll (by decide)
  refine ⟨r, ?_, hpr, ?_⟩
  · rw [(step_eq e2 (by rw [show -(0 - f) = f by omega, hh]; rfl) 19).2 (by
      rw [List.length_append, List.length_cons, List.length_singleton, List.length_nil]
      omega)]
    exact hr
  · rw [(step_eq e2 (by rw [show -(0 - f) = f by omega, hh]; rfl) 19).1, List.length_append]
    have := rmM_len ((([] : List Int).length : Nat) : Int) (-(0 - f)) inner
    have hml : (mvsF 19 [] (wo (-(0 - f)) inner ++ [])).length ≤ 18 * 18 := hml
    omega
theorem rmM_args : ∀ (at_ f : Int) (l : List Int), ∀ m ∈ rmM at_ f l, m.2.length = 1 ∨ m.2.length = 2
  | _, _, [], m, hm => by
    rw [show rmM _ _ [] = [_] from rfl] at hm
    rw [List.mem_singleton.mp hm]
    exact .inl rfl
  | at_, f, x :: l, m, hm => by
    unfold rmM at hm
    split at hm
    · rcases List.mem_cons.mp hm with rfl | hm
      · exact .inr rfl
      rcases List.mem_cons.mp hm with rfl | hm
      · exact .inl rfl
      exact rmM_args _ _ _ m hm
    · rcases List.mem_cons.mp hm with rfl | hm
      · exact .inl rfl
      exact rmM_args _ _ _ m hm
theorem mvsF_args : ∀ (k : Nat) (dn wt : List Int), ∀ m ∈ mvsF k dn wt, m.2.length = 1 ∨ m.2.length = 2
  | 0, _, _, m, hm => nomatch hm
  | k + 1, dn, wt, m, hm => by
    unfold mvsF at hm
    split at hm
    · nomatch hm
    · rcases List.mem_append.mp hm with hm | hm
      · exact rmM_args _ _ _ m hm
      · exact mvsF_args k _ _ m hm
theorem runX_j {r : List Int} : ∀ {ms : List (Str × List Int)} {i : Nat} {ns : List Int}, runX ms i ns = .ok r → ∀ j, runX ms j ns = .ok r
  | [], _, _, h, _ => h
  | m :: ms, i, ns, h, j => by
    unfold runX at h ⊢
    split at h
    · cases h
    · rename_i e
      exact runX_j h _
def spWo : Sp := fun vs H Q _ => ∃ (l : Addr) (f b : Int) (inner : List Int), vs = [.ref l] ∧ H l = some (.lst ((f :: inner ++ [b]).map V.int)) ∧ inner.length ≤ 1000 ∧ ∀ p H', Same H H' → H p = none → H' p = some (.lst ((wo f inner).map V.int)) → Q (.ref p) H'
def spRF (K : PySem.W.Frag) : Sp := fun vs H Q _ => ∃ (a : Addr) (ns r : List Int) (k : Nat), vs = [.ref a] ∧ WT K H a ns ∧ k ≤ 9000 ∧ redF k [] ns = some r ∧ ∀ p H', WT K H' p r → Same H H' → Q (.ref p) H'
def spRedE (K : PySem.W.Frag) (CWd : Addr) : Sp := fun vs H Q E => ∃ (a : Addr) (ns : List Int), vs = [.ref a] ∧ WT K H a ns ∧ ns.length ≤ 1000 ∧ (okW ns = true → ∃ (r : List Int) (k : Nat), k ≤ 9000 ∧ redF k [] ns = some r ∧ ∀ p H', WT K H' p r → Same H H' → Q (.ref p) H') ∧ (okW ns = false → ∀ H', Same H H' → E (.ref CWd) none H')
def spRm (K : PySem.W.Frag) : Sp := fun vs H Q _ => ∃ (l : Addr) (at_ f b : Int) (inner : List Int), vs = [.int at_, .ref l] ∧ H l = some (.lst ((f :: inner ++ [b]).map V.int)) ∧ inner.length ≤ 1000 ∧ ∀ p us H', Same H H' → H p = none → H' p = some (.lst us) → MvTs K H' us (rmM at_ f inner) → Q (.ref p) H'
def spRMov (K : PySem.W.Frag) (CWd : Addr) : Sp := fun vs H Q E => ∃ (a : Addr) (ns : List Int), vs = [.ref a] ∧ WT K H a ns ∧ ns.length ≤ 1000 ∧ (okW ns = true → ∃ (r : List Int) (k : Nat), k ≤ 1000 ∧ redF k [] ns = some r ∧ ∀ p us H', H' p = some (.lst us) → MvTs K H' us (mvsF k [] ns) → Same H H' → Q (.ref p) H') ∧ (okW ns = false → ∀ H', Same H H' → E (.ref CWd) none H')
theorem cutMid {f b : Int} {inner : List Int} : cutV ((f :: inner ++ [b]).map V.int) (some 1) (some (-1)) = inner.map V.int := by
  have hn : ((f :: inner ++ [b]).map V.int).length = inner.length + 2 := by rw [List.length_map, List.length_append]; rfl
  have e0 : HT.sIx (inner.length + 2) 0 (some ((1 : Nat) : Int)) = 1 := by
    rw [HT.sIx_nat]
    omega
  have e1 : HT.sIx (inner.length + 2) (inner.length + 2) (some (-1)) = inner.length + 1 := by
    show (if (-1 : Int) < 0 then (-1 + ((inner.length + 2 : Nat) : Int)).toNat else min (-1 : Int).toNat (inner.length + 2)) = _
    rw [if_pos (by decide)]
    omega
  have e2 : (f :: inner ++ [b]).map V.int = V.int f :: (inner.map V.int ++ [V.int b]) := by simp
  show (((f :: inner ++ [b]).map V.int).drop (HT.sIx ((f :: inner ++ [b]).map V.int).length 0 (some ((1 : Nat) : Int)))).take (HT.sIx ((f :: inner ++ [b]).map V.int).length ((f :: inner ++ [b]).map V.int).length (some (-1)) - HT.sIx ((f :: inner ++ [b]).map V.int).length 0 (some ((1 : Nat) : Int))) = _
  rw [hn, e0, e1, e2]
  show (inner.map V.int ++ [V.int b]).take (inner.length + 1 - 1) = _
  rw [Nat.add_sub_cancel, List.take_left' (by rw [List.length_map])]
theorem PlB.same {H0 H H' : Hp} {d w : Addr} {l : List Int} (e : Same H H') : ∀ {v : Option V}, PlB H0 H d w l v → PlB H0 H' d w l v
  | none, h => h
  | some v, h => by
    obtain ⟨a, h1, h2, h3, h4⟩ := h
    exact ⟨a, h1, h2, e _ _ h3, h4⟩
theorem ScB.same {H0 H H' : Hp} {C x d w p : Addr} {dn wt : List Int} {pl : Int → List Int} {N : Nat} (e : Same H H') (h : ScB H0 H C x d w p dn wt pl N) : ScB H0 H' C x d w p dn wt pl N := by
  obtain ⟨dx, hx⟩ := h.ix
  obtain ⟨kvs, h1, h2, h3, h4⟩ := h.hp
  exact ⟨h.sm.trans e, h.fx, h.fd, h.fw, h.fp, ⟨dx, e _ _ hx⟩, e _ _ h.hd, e _ _ h.hw, h.dw, kvs, e _ _ h1, h2, fun m => (h3 m).same e, h4⟩
/-- an object that stood there before is written -/
theorem ScB.reb {H0 H : Hp} {C x d w p mv : Addr} {dn wt : List Int} {pl : Int → List Int} {N : Nat} {o1 o : HO} (hm : H0 mv = some o1) (h : ScB H0 H C x d w p dn wt pl N) : ScB (upd H0 mv o) (upd H mv o) C x d w p dn wt pl N := by
  obtain ⟨dx, hx⟩ := h.ix
  obtain ⟨kvs, h1, h2, h3, h4⟩ := h.hp
  have ne : ∀ {c : Addr}, H0 c = none → c ≠ mv := fun e z => by rw [z, hm] at e; cases e
  have nx : x ≠ mv := ne h.fx
  refine ⟨fun c ob e => ?_, (upd_ne nx).trans h.fx, (upd_ne (ne h.fd)).trans h.fd, (upd_ne (ne h.fw)).trans h.fw, (upd_ne (ne h.fp)).trans h.fp, ⟨dx, (upd_ne nx).trans hx⟩, (upd_ne (ne h.fd)).trans h.hd, (upd_ne (ne h.fw)).trans h.hw, h.dw, kvs, (upd_ne (ne h.fp)).trans h1, h2, fun m => ?_, h4⟩
  · by_cases z : c = mv
    · rw [z, upd_same] at e ⊢
      exact e
    · rw [upd_ne z] at e ⊢
      exact h.sm _ _ e
  · have hm2 := h3 m
    cases ev : valV kvs (Sum.inl m) with
    | none =>
      rw [ev] at hm2
      exact hm2
    | some v =>
      rw [ev] at hm2
      obtain ⟨a, ea, a0, ha, ad, aw⟩ := hm2
      exact ⟨a, ea, (upd_ne (ne a0)).trans a0, (upd_ne (ne a0)).trans ha, ad, aw⟩
/-- where the loop of the reduction stands -/
def LpS (H0 G : Hp) (C x d w p : Addr) (k : Nat) (r : List Int) (s : Int) (dn wt : List Int) : Prop := ∃ N : Nat, redF k dn wt = some r ∧ N ≤ 1000 * (9001 - k) ∧ k ≤ 9000 ∧
  ((fhS dn wt = none ∧ s = -1 ∧ ScA H0 G C x d w p (wt.reverse ++ dn) [] N) ∨ ∃ dn' a t, fhS dn wt = some (dn', a, t) ∧ 0 ≤ hsv a dn' ∧ s = hsv a dn' ∧ ScA H0 G C x d w p dn' (a :: t) N)
/-- what stood there before, and all tuples -/
def addT (H0 G : Hp) : Hp := fun c => match H0 c with
  | some o => some o
  | none => match G c with
    | some (.tup xs) => some (.tup xs)
    | some (.frz o u) => some (.frz o u)
    | _ => none
theorem addT_old {H0 G : Hp} : Same H0 (addT H0 G) := fun c o e => by
  unfold addT
  rw [e]
theorem addT_no {H0 G : Hp} {c : Addr} {o : HO} (h : H0 c = none) (e : G c = some o) (n1 : ∀ xs, o ≠ .tup xs) (n2 : ∀ a u, o ≠ .frz a u) : addT H0 G c = none := by
  unfold addT
  rw [h, e]
  cases o <;> first | rfl | exact absurd rfl (n1 _) | exact absurd rfl (n2 _ _)
theorem addT_sm {H0 G : Hp} (sm : Same H0 G) : Same (addT H0 G) G := fun c o e => by
  unfold addT at e
  cases h : H0 c with
  | some o1 =>
    rw [h] at e
    cases e
    exact sm _ _ h
  | none =>
    rw [h] at e
    dsimp only at e
    split at e
    · rename_i h2; rw [h2]; exact e
    · rename_i h2; rw [h2]; exact e
    · cases e
theorem addT_tp {H0 G : Hp} (sm : Same H0 G) : Tp G (addT H0 G) := fun b xs h => by
  have key : ∀ o, G b = some o → (∃ xs, o = .tup xs) ∨ (∃ a u, o = .frz a u) → addT H0 G b = some o := fun o e ho => by
    unfold addT
    cases h0 : H0 b with
    | some o1 =>
      have := sm _ _ h0
      rw [e] at this
      exact this.symm
    | none =>
      rw [e]
      rcases ho with ⟨xs, rfl⟩ | ⟨a, u, rfl⟩ <;> rfl
  rcases h with h | ⟨o, h⟩
  · exact .inl (key _ h (.inl ⟨_, rfl⟩))
  · exact .inr ⟨o, key _ h (.inr ⟨_, _, rfl⟩)⟩
theorem ScB.addT {H0 H : Hp} {C x d w p : Addr} {dn wt : List Int} {pl : Int → List Int} {N : Nat} (h : ScB H0 H C x d w p dn wt pl N) : ScB (addT H0 H) H C x d w p dn wt pl N := by
  obtain ⟨dx, hx⟩ := h.ix
  obtain ⟨kvs, h1, h2, h3, h4⟩ := h.hp
  have nl : ∀ {c : Addr} {xs : List V}, H0 c = none → H c = some (.lst xs) → U.addT H0 H c = none := fun e1 e2 => addT_no e1 e2 (fun _ z => by cases z) (fun _ _ z => by cases z)
  refine ⟨addT_sm h.sm, addT_no h.fx hx (fun _ z => by cases z) (fun _ _ z => by cases z), nl h.fd h.hd, nl h.fw h.hw, addT_no h.fp h1 (fun _ z => by cases z) (fun _ _ z => by cases z), ⟨dx, hx⟩, h.hd, h.hw, h.dw, kvs, h1, h2, fun m => ?_, h4⟩
  have hm2 := h3 m
  cases ev : valV kvs (Sum.inl m) with
  | none =>
    rw [ev] at hm2
    exact hm2
  | some v =>
    rw [ev] at hm2
    obtain ⟨a, ea, a0, ha, ad, aw⟩ := hm2
    exact ⟨a, ea, nl a0 ha, ha, ad, aw⟩
theorem MvTs.app {K : PySem.W.Frag} {H : Hp} {vs us : List V} {ms ns : List (Str × List Int)} (h : MvTs K H vs ms) (h2 : MvTs K H us ns) : MvTs K H (vs ++ us) (ms ++ ns) := by
  refine ⟨by rw [List.length_append, List.length_append, h.1, h2.1], fun i v m a b => ?_⟩
  by_cases hi : i < vs.length
  · rw [List.getElem?_append_left hi] at a
    rw [List.getElem?_append_left (by rw [← h.1]; exact hi)] at b
    exact h.2 i v m a b
  · rw [List.getElem?_append_right (by omega)] at a
    rw [List.getElem?_append_right (by rw [← h.1]; omega)] at b
    rw [← h.1] at b
    exact h2.2 _ v m a b
def spRH (K : PySem.W.Frag) : Sp := fun vs H Q _ => ∃ (a : Addr) (pre t inner : List Int) (f b : Int), vs = [.ref a, .int (pre.length : Nat), .int ((pre.length + 1 + inner.length : Nat) : Int)] ∧ WT K H a (pre ++ (f :: inner ++ b :: t)) ∧ (pre ++ (f :: inner ++ b :: t)).length ≤ 1000 ∧ ∀ p H', WT K H' p (pre ++ (wo f inner ++ t)) → Same H H' → Q (.ref p) H'
def spLRd (K : PySem.W.Frag) : Sp := fun vs H Q _ => ∃ (a : Addr) (ns r : List Int) (k : Nat), vs = [.ref a] ∧ WT K H a ns ∧ redF k [] ns = some r ∧ ∀ p H', WT K H' p r → Same H H' → Q (.ref p) H'
def spLAp (K : PySem.W.Frag) : Sp := fun vs H Q _ => ∃ (a b : Addr) (ns r : List Int) (us : List V) (ms : List (Str × List Int)), vs = [.ref a, .ref b] ∧ WT K H a ns ∧ H b = some (.lst us) ∧ MvTs K H us ms ∧ (∀ m ∈ ms, m.2.length = 1 ∨ m.2.length = 2) ∧ runX ms 0 ns = .ok r ∧ ns.length + 2 * ms.length ≤ 1000 ∧ ∀ p H', WT K H' p r → Same H H' → Q (.ref p) H'
theorem slA_ij {K : PySem.W.Frag} {H : Hp} {a : Addr} {xs : List V} {Q : VK} {i j : Nat} (h : SqT K H a xs) (hi : i ≤ j) (hj : j ≤ xs.length) (q : ∀ p H', Same H H' → SqT K H' p ((xs.drop i).take (j - i)) → Q (.ref p) H') : rSlA K (.ref a) (some (i : Int)) (some (j : Int)) H Q := by
  have e1 : HT.sIx xs.length 0 (some (i : Int)) = i := by rw [HT.sIx_nat]; omega
  have e2 : HT.sIx xs.length xs.length (some (j : Int)) = j := by rw [HT.sIx_nat]; omega
  refine ⟨a, _, rfl, h, fun e => ?_, fun e p np => ?_⟩
  · rw [e1, e2] at e
    refine q a H (Same.refl _) ?_
    rw [e.1, e.2, List.drop_zero, Nat.sub_zero, List.take_length]
    exact h
  · refine q p _ (Same.new np _) (SqT.here ?_)
    rw [upd_same]
    unfold cutV
    rw [e1, e2]
theorem slA_j {K : PySem.W.Frag} {H : Hp} {a : Addr} {xs : List V} {Q : VK} {j : Nat} (h : SqT K H a xs) (hj : j ≤ xs.length) (q : ∀ p H', Same H H' → SqT K H' p (xs.take j) → Q (.ref p) H') : rSlA K (.ref a) none (some (j : Int)) H Q := by
  have e2 : HT.sIx xs.length xs.length (some (j : Int)) = j := by rw [HT.sIx_nat]; omega
  refine ⟨a, _, rfl, h, fun e => ?_, fun e p np => ?_⟩
  · rw [e2] at e
    refine q a H (Same.refl _) ?_
    rw [e.2, List.take_length]
    exact h
  · refine q p _ (Same.new np _) (SqT.here ?_)
    rw [upd_same]
    unfold cutV
    rw [e2, HT.sIx_none, List.drop_zero, Nat.sub_zero]
theorem slA_i {K : PySem.W.Frag} {H : Hp} {a : Addr} {xs : List V} {Q : VK} {i : Nat} (h : SqT K H a xs) (hi : i ≤ xs.length) (q : ∀ p H', Same H H' → SqT K H' p (xs.drop i) → Q (.ref p) H') : rSlA K (.ref a) (some (i : Int)) none H Q := by
  have e1 : HT.sIx xs.length 0 (some (i : Int)) = i := by rw [HT.sIx_nat]; omega
  refine ⟨a, _, rfl, h, fun e => ?_, fun e p np => ?_⟩
  · rw [e1] at e
    refine q a H (Same.refl _) ?_
    rw [e.1, List.drop_zero]
    exact h
  · refine q p _ (Same.new np _) (SqT.here ?_)
    rw [upd_same]
    unfold cutV
    rw [e1, HT.sIx_none, List.take_of_length_le (by rw [List.length_drop]; exact Nat.le_refl _)]
/-! ### the reduction, faster for the kernel -/
/-- the walk down from a letter: what stands between it and its opposite, and what stands before that -/
def spl (a : Int) : List Int → List Int → Option (List Int × List Int)
  | [], _ => none
  | y :: r, acc => if y = -a then some (acc, r) else if y = a then none else if ab y = ab a - 1 then none else spl a r (y :: acc)
def red3 : Nat → List Int → List Int → Option (List Int)
  | 0, _, _ => none
  | _ + 1, dn, [] => some dn.reverse
  | k + 1, dn, a :: t => match spl a dn [] with
    | none => red3 k (a :: dn) t
    | some (inner, r) => if r.length + (wo (-a) inner ++ t).length ≤ 900 then red3 k r (wo (-a) inner ++ t) else none
theorem ab_eq {x y : Int} (h : ab x = ab y) : x = y ∨ x = -y := by
  unfold ab at h
  split at h <;> split at h <;> omega
theorem lastR_cons (m y : Int) (r : List Int) : lastR m (y :: r) = if ab y = m then (r.length : Int) else lastR m r := rfl
theorem rev_get {y : Int} {r : List Int} {k : Nat} (h : k < r.length) : (y :: r).reverse[k]? = r.reverse[k]? := by
  rw [List.reverse_cons, List.getElem?_append_left (by rw [List.length_reverse]; exact h)]
theorem rev_top {y : Int} {r : List Int} : (y :: r).reverse[r.length]? = some y := by
  rw [List.reverse_cons, List.getElem?_append_right (by rw [List.length_reverse]; exact Nat.le_refl _), List.length_reverse, Nat.sub_self]
  rfl
theorem hsv_opp {a y : Int} {r : List Int} (h : y = -a) : hsv a (y :: r) = r.length := by
  have e : ab y = ab a := by rw [h]; unfold ab; split <;> split <;> omega
  have h1 : lastR (ab a) (y :: r) = r.length := by rw [lastR_cons, if_pos e]
  have h2 : lastR (ab a - 1) (y :: r) < r.length := by
    rw [lastR_cons, if_neg (by omega)]
    exact (lastR_b _ r).2
  unfold hsv
  rw [h1, Int.toNat_natCast, rev_top, if_pos ⟨h2, by rw [h]⟩]
theorem hsv_same {a y : Int} {r : List Int} (h0 : y ≠ -a) (h : y = a) : hsv a (y :: r) = -1 := by
  have h1 : lastR (ab a) (y :: r) = r.length := by rw [lastR_cons, if_pos (by rw [h])]
  unfold hsv
  rw [h1, Int.toNat_natCast, rev_top, if_neg]
  rintro ⟨_, e⟩
  exact h0 (Option.some.inj e)
theorem hsv_low {a y : Int} {r : List Int} (h : ab y = ab a - 1) : hsv a (y :: r) = -1 := by
  have h1 : lastR (ab a) (y :: r) < r.length := by
    rw [lastR_cons, if_neg (by omega)]
    exact (lastR_b _ r).2
  have h2 : lastR (ab a - 1) (y :: r) = r.length := by rw [lastR_cons, if_pos h]
  unfold hsv
  rw [if_neg]
  rintro ⟨e, _⟩
  omega
theorem hsv_far {a y : Int} {r : List Int} (h1 : y ≠ -a) (h2 : y ≠ a) (h3 : ab y ≠ ab a - 1) : hsv a (y :: r) = hsv a r := by
  have hn : ab y ≠ ab a := fun e => (ab_eq e).elim h2 h1
  have e1 : lastR (ab a) (y :: r) = lastR (ab a) r := by rw [lastR_cons, if_neg hn]
  have e2 : lastR (ab a - 1) (y :: r) = lastR (ab a - 1) r := by rw [lastR_cons, if_neg h3]
  unfold hsv
  rw [e1, e2]
  have b1 := lastR_b (ab a) r
  have b2 := lastR_b (ab a - 1) r
  by_cases c : lastR (ab a) r > lastR (ab a - 1) r
  · rw [rev_get (by omega)]
  · rw [if_neg (fun e => c e.1), if_neg (fun e => c e.1)]
theorem spl_none {a : Int} : ∀ {dn acc : List Int}, spl a dn acc = none → hsv a dn = -1
  | [], _, _ => by
    unfold hsv
    rw [if_neg]
    rintro ⟨e, _⟩
    have e : (-1 : Int) > -1 := e
    exact absurd e (by decide)
  | y :: r, acc, h => by
    unfold spl at h
    split at h
    · cases h
    rename_i c1
    split at h
    · rename_i c2
      exact hsv_same c1 c2
    rename_i c2
    split at h
    · rename_i c3
      exact hsv_low c3
    rename_i c3
    rw [hsv_far c1 c2 c3]
    exact spl_none h
theorem spl_some {a : Int} : ∀ {dn acc inner r : List Int}, spl a dn acc = some (inner, r) → hsv a dn = r.length ∧ ∃ m, dn = m ++ (-a) :: r ∧ inner = m.reverse ++ acc
  | [], _, _, _, h => by cases h
  | y :: r, acc, inner, r', h => by
    unfold spl at h
    split at h
    · rename_i c1
      cases h
      exact ⟨hsv_opp c1, [], by rw [c1]; rfl, rfl⟩
    rename_i c1
    split at h
    · cases h
    rename_i c2
    split at h
    · cases h
    rename_i c3
    obtain ⟨h1, m, h2, h3⟩ := spl_some h
    refine ⟨by rw [hsv_far c1 c2 c3]; exact h1, y :: m, by rw [h2]; rfl, ?_⟩
    rw [h3, List.reverse_cons, List.append_assoc]
    rfl
theorem redF_skip {k : Nat} {dn t : List Int} {a : Int} (h : hsv a dn = -1) : redF k dn (a :: t) = redF k (a :: dn) t := by
  cases k with
  | zero => rfl
  | succ k =>
    have e : fhS dn (a :: t) = fhS (a :: dn) t := by
      show (if 0 ≤ hsv a dn then _ else _) = _
      rw [if_neg (by omega)]
    have e2 : (a :: dn).reverse ++ t = dn.reverse ++ a :: t := by rw [List.reverse_cons, List.append_assoc]; rfl
    have e3 : (a :: dn).length + t.length = dn.length + (a :: t).length := by rw [List.length_cons, List.length_cons]; omega
    show (if dn.length + (a :: t).length ≤ 1000 then _ else none) = (if (a :: dn).length + t.length ≤ 1000 then _ else none)
    rw [e, e2, e3]
theorem redF_take {k : Nat} {m r t : List Int} {a : Int} (h : hsv a (m ++ (-a) :: r) = r.length) (hl : (m ++ (-a) :: r).length + (a :: t).length ≤ 1000) : redF (k + 1) (m ++ (-a) :: r) (a :: t) = redF k r (wo (-a) m.reverse ++ t) := by
  have e : fhS (m ++ (-a) :: r) (a :: t) = some (m ++ (-a) :: r, a, t) := by
    show (if 0 ≤ hsv a (m ++ (-a) :: r) then _ else _) = _
    rw [if_pos (by omega)]
  show (if (m ++ (-a) :: r).length + (a :: t).length ≤ 1000 then _ else none) = _
  rw [if_pos hl, e]
  show redF k ((m ++ (-a) :: r).drop ((m ++ (-a) :: r).length - (hsv a (m ++ (-a) :: r)).toNat)) (wo (-a) (((m ++ (-a) :: r).take ((m ++ (-a) :: r).length - (hsv a (m ++ (-a) :: r)).toNat)).reverse.drop 1) ++ t) = _
  have e1 : (m ++ (-a) :: r).length - (hsv a (m ++ (-a) :: r)).toNat = m.length + 1 := by
    rw [h, Int.toNat_natCast, List.length_append, List.length_cons]
    omega
  rw [e1]
  have e2 : (m ++ (-a) :: r).drop (m.length + 1) = r := by
    rw [List.drop_append, List.drop_eq_nil_of_le (by omega), show m.length + 1 - m.length = 1 by omega]
    rfl
  have e3 : (m ++ (-a) :: r).take (m.length + 1) = m ++ [-a] := by
    rw [List.take_append, List.take_of_length_le (by omega), show m.length + 1 - m.length = 1 by omega]
    rfl
  rw [e2, e3, List.reverse_append]
  rfl
theorem red3_ok : ∀ {n : Nat} {dn wt r : List Int}, dn.length + wt.length ≤ 1000 → red3 n dn wt = some r → ∃ k, k ≤ n ∧ redF k dn wt = some r
  | 0, _, _, _, _, h => by cases h
  | n + 1, dn, [], r, hl, h => by
    have h : some dn.reverse = some r := h
    cases h
    refine ⟨1, by omega, ?_⟩
    have hl : dn.length + 0 ≤ 1000 := hl
    show (if dn.length + 0 ≤ 1000 then _ else none) = _
    rw [if_pos hl]
    show some (dn.reverse ++ []) = _
    rw [List.append_nil]
  | n + 1, dn, a :: t, r, hl, h => by
    unfold red3 at h
    split at h
    · rename_i e
      obtain ⟨k, hk, hr⟩ := red3_ok (by rw [List.length_cons] at hl ⊢; omega) h
      exact ⟨k, by omega, by rw [redF_skip (spl_none e)]; exact hr⟩
    · rename_i inner r' e
      split at h
      · rename_i c
        obtain ⟨k, hk, hr⟩ := red3_ok (by omega) h
        obtain ⟨h1, m, h2, h3⟩ := spl_some e
        subst h2
        rw [List.append_nil] at h3
        subst h3
        exact ⟨k + 1, by omega, by rw [redF_take h1 hl]; exact hr⟩
      · cases h
/-! ### the reduction over coded letters, made for the kernel -/
def cod (x : Int) : Nat := 2 * x.natAbs + (if x < 0 then 1 else 0)
def flp (c : Nat) : Nat := Nat.sub (Nat.add c 1) (Nat.mul 2 (Nat.mod c 2))
def lo1 (c : Nat) : Nat := Nat.sub (Nat.mul 2 (Nat.div c 2)) 2
def lo2 (c : Nat) : Nat := Nat.sub (Nat.mul 2 (Nat.div c 2)) 1
theorem flp_eq (c : Nat) : flp c = c + 1 - 2 * (c % 2) := rfl
theorem lo1_eq (c : Nat) : lo1 c = 2 * (c / 2) - 2 := rfl
theorem lo2_eq (c : Nat) : lo2 c = 2 * (c / 2) - 1 := rfl
theorem cod_neg {x : Int} (h : x ≠ 0) : cod (-x) = flp (cod x) := by
  rw [flp_eq]
  unfold cod
  split <;> split <;> omega
theorem cod_inj {x y : Int} : cod x = cod y ↔ x = y := by
  constructor
  · unfold cod
    intro h
    split at h <;> split at h <;> omega
  · rintro rfl
    rfl
theorem cod_low {a y : Int} (ha : a ≠ 0) (hy : y ≠ 0) : ab y = ab a - 1 ↔ cod y = lo1 (cod a) ∨ cod y = lo2 (cod a) := by
  rw [lo1_eq, lo2_eq]
  unfold cod ab
  split <;> split <;> constructor <;> omega
theorem brec {α : Type} (x y : α) (b : Bool) : (Bool.rec y x b : α) = if b = true then x else y := by cases b <;> rfl
theorem nbeq (x y : Nat) : (Nat.beq x y = true) = (x = y) := propext ⟨Nat.eq_of_beq_eq_true, fun h => by rw [h]; exact Nat.beq_refl _⟩
noncomputable def spl5 (na a l1 l2 : Nat) (l : List Nat) : List Nat → Option (List Nat × List Nat) :=
  List.rec (motive := fun _ => List Nat → Option (List Nat × List Nat)) (fun _ => none) (fun y r ih acc => Bool.rec (Bool.rec (Bool.rec (Bool.rec (ih (y :: acc)) none (Nat.beq y l2)) none (Nat.beq y l1)) none (Nat.beq y a)) (some (acc, r)) (Nat.beq y na)) l
theorem spl5_cons (na a l1 l2 y : Nat) (r acc : List Nat) : spl5 na a l1 l2 (y :: r) acc = if y = na then some (acc, r) else if y = a then none else if y = l1 then none else if y = l2 then none else spl5 na a l1 l2 r (y :: acc) := by
  have e : spl5 na a l1 l2 (y :: r) acc = Bool.rec (Bool.rec (Bool.rec (Bool.rec (spl5 na a l1 l2 r (y :: acc)) none (Nat.beq y l2)) none (Nat.beq y l1)) none (Nat.beq y a)) (some (acc, r)) (Nat.beq y na) := rfl
  rw [e, brec, brec, brec, brec]
  simp only [nbeq]
theorem spl5_ok {a : Int} (ha : a ≠ 0) : ∀ {dn acc : List Int}, (∀ x ∈ dn, x ≠ 0) → spl5 (flp (cod a)) (cod a) (lo1 (cod a)) (lo2 (cod a)) (dn.map cod) (acc.map cod) = (spl a dn acc).map fun p => (p.1.map cod, p.2.map cod)
  | [], _, _ => rfl
  | y :: r, acc, h => by
    have hy := h y List.mem_cons_self
    have ih := spl5_ok ha (dn := r) (acc := y :: acc) fun x hx => h x (List.mem_cons_of_mem _ hx)
    show spl5 _ _ _ _ (cod y :: r.map cod) (acc.map cod) = _
    rw [spl5_cons, ← cod_neg ha]
    unfold spl
    by_cases c1 : y = -a
    · rw [if_pos c1, if_pos (cod_inj.mpr c1)]
      rfl
    rw [if_neg c1, if_neg (fun e => c1 (cod_inj.mp e))]
    by_cases c2 : y = a
    · rw [if_pos c2, if_pos (cod_inj.mpr c2)]
      rfl
    rw [if_neg c2, if_neg (fun e => c2 (cod_inj.mp e))]
    have hl := cod_low ha hy
    by_cases c3 : ab y = ab a - 1
    · rw [if_pos c3]
      rcases hl.mp c3 with e | e
      · rw [if_pos e]
        rfl
      · by_cases e1 : cod y = lo1 (cod a)
        · rw [if_pos e1]
          rfl
        · rw [if_neg e1, if_pos e]
          rfl
    · rw [if_neg c3, if_neg (fun e => c3 (hl.mpr (.inl e))), if_neg (fun e => c3 (hl.mpr (.inr e)))]
      rw [cod_neg ha]
      exact ih
noncomputable def wo5 (f nf h1 h2 : Nat) (l t : List Nat) : List Nat :=
  List.rec (motive := fun _ => List Nat) t (fun y _ ih => Bool.rec (Bool.rec (y :: ih) (h2 :: nf :: h1 :: ih) (Nat.beq y h2)) (h2 :: f :: h1 :: ih) (Nat.beq y h1)) l
theorem wo5_cons (f nf h1 h2 y : Nat) (r t : List Nat) : wo5 f nf h1 h2 (y :: r) t = if y = h1 then h2 :: f :: h1 :: wo5 f nf h1 h2 r t else if y = h2 then h2 :: nf :: h1 :: wo5 f nf h1 h2 r t else y :: wo5 f nf h1 h2 r t := by
  have e : wo5 f nf h1 h2 (y :: r) t = Bool.rec (Bool.rec (y :: wo5 f nf h1 h2 r t) (h2 :: nf :: h1 :: wo5 f nf h1 h2 r t) (Nat.beq y h2)) (h2 :: f :: h1 :: wo5 f nf h1 h2 r t) (Nat.beq y h1) := rfl
  rw [e, brec, brec]
  simp only [nbeq]
theorem cod_up {f : Int} (hf : f ≠ 0) : cod (sgn (ab f + 1) f) = cod f + 2 := by
  unfold cod sgn ab
  (repeat' split) <;> omega
theorem cod_up' {f : Int} (hf : f ≠ 0) : cod (-(sgn (ab f + 1) f)) = cod (-f) + 2 := by
  unfold cod sgn ab
  (repeat' split) <;> omega
theorem wo5_ok {f : Int} (hf : f ≠ 0) {t : List Int} : ∀ {l : List Int}, (∀ x ∈ l, x ≠ 0) → wo5 (cod f) (cod (-f)) (cod f + 2) (cod (-f) + 2) (l.map cod) (t.map cod) = (wo f l ++ t).map cod
  | [], _ => rfl
  | x :: l, h => by
    have hx := h x List.mem_cons_self
    have ih := wo5_ok hf (t := t) (l := l) fun y hy => h y (List.mem_cons_of_mem _ hy)
    show wo5 _ _ _ _ (cod x :: l.map cod) (t.map cod) = _
    rw [wo5_cons, wo_cons, ih]
    by_cases c1 : x = sgn (ab f + 1) f
    · have e1 : cod x = cod f + 2 := by rw [c1]; exact cod_up hf
      have e2 : ab x = ab f + 1 := by rw [c1]; unfold sgn ab; (repeat' split) <;> omega
      have e3 : sgn (ab f) x = f := by rw [c1]; unfold sgn ab; (repeat' split) <;> omega
      rw [if_pos e1, if_pos e2, e3]
      show _ = cod (-(sgn (ab f + 1) f)) :: cod f :: cod (sgn (ab f + 1) f) :: (wo f l ++ t).map cod
      rw [cod_up hf, cod_up' hf]
    by_cases c2 : x = -(sgn (ab f + 1) f)
    · have e0 : cod x ≠ cod f + 2 := fun e => c1 (cod_inj.mp (e.trans (cod_up hf).symm))
      have e1 : cod x = cod (-f) + 2 := by rw [c2]; exact cod_up' hf
      have e2 : ab x = ab f + 1 := by rw [c2]; unfold sgn ab; (repeat' split) <;> omega
      have e3 : sgn (ab f) x = -f := by rw [c2]; unfold sgn ab; (repeat' split) <;> omega
      rw [if_neg e0, if_pos e1, if_pos e2, e3]
      show _ = cod (-(sgn (ab f + 1) f)) :: cod (-f) :: cod (sgn (ab f + 1) f) :: (wo f l ++ t).map cod
      rw [cod_up hf, cod_up' hf]
    · have e0 : cod x ≠ cod f + 2 := fun e => c1 (cod_inj.mp (e.trans (cod_up hf).symm))
      have e1 : cod x ≠ cod (-f) + 2 := fun e => c2 (cod_inj.mp (e.trans (cod_up' hf).symm))
      have e2 : ¬ ab x = ab f + 1 := by
        intro e
        unfold sgn ab at c1 c2
        unfold ab at e
        (repeat' split at c1) <;> (repeat' split at c2) <;> (repeat' split at e) <;> omega
      rw [if_neg e0, if_neg e1, if_neg e2]
      rfl
noncomputable def cnt5 (h1 h2 : Nat) (l : List Nat) : Nat := List.rec (motive := fun _ => Nat) 0 (fun y _ ih => Bool.rec (Bool.rec ih (Nat.succ ih) (Nat.beq y h2)) (Nat.succ ih) (Nat.beq y h1)) l
theorem cnt5_ok (f nf h1 h2 : Nat) (t : List Nat) : ∀ l : List Nat, (wo5 f nf h1 h2 l t).length = l.length + t.length + 2 * cnt5 h1 h2 l
  | [] => by show t.length = 0 + t.length + 2 * 0; omega
  | y :: l => by
    have ih := cnt5_ok f nf h1 h2 t l
    have e : cnt5 h1 h2 (y :: l) = Bool.rec (Bool.rec (cnt5 h1 h2 l) (Nat.succ (cnt5 h1 h2 l)) (Nat.beq y h2)) (Nat.succ (cnt5 h1 h2 l)) (Nat.beq y h1) := rfl
    rw [wo5_cons, e, brec, brec]
    simp only [nbeq]
    split
    · simp only [List.length_cons]
      omega
    split
    · simp only [List.length_cons]
      omega
    · simp only [List.length_cons]
      omega
noncomputable def red5 (n : Nat) : Nat → List Nat → List Nat → Option (List Nat) :=
  Nat.rec (motive := fun _ => Nat → List Nat → List Nat → Option (List Nat)) (fun _ _ _ => none) (fun _ ih m dn wt =>
    List.rec (motive := fun _ => Option (List Nat)) (some dn.reverse) (fun a t _ => Option.rec (motive := fun _ => Option (List Nat)) (ih m (a :: dn) t)
      (fun p => Bool.rec none (ih (Nat.sub (Nat.add m (Nat.mul 2 (cnt5 (Nat.add (flp a) 2) (Nat.add a 2) p.1))) 2) p.2 (wo5 (flp a) a (Nat.add (flp a) 2) (Nat.add a 2) p.1 t)) (Nat.ble (Nat.sub (Nat.add m (Nat.mul 2 (cnt5 (Nat.add (flp a) 2) (Nat.add a 2) p.1))) 2) 900))
      (spl5 (flp a) a (lo1 a) (lo2 a) dn [])) wt) n
theorem wo_nz {f : Int} (hf : f ≠ 0) {l : List Int} (h : ∀ x ∈ l, x ≠ 0) : ∀ x ∈ wo f l, x ≠ 0 := fun x hx => by
  obtain ⟨y, hy, hx⟩ := List.mem_flatMap.mp hx
  have hy0 := h y hy
  split at hx
  · rcases List.mem_cons.mp hx with rfl | hx
    · unfold sgn ab; (repeat' split) <;> omega
    rcases List.mem_cons.mp hx with rfl | hx
    · unfold sgn ab; (repeat' split) <;> omega
    · rw [List.mem_singleton.mp hx]
      unfold sgn ab; (repeat' split) <;> omega
  · rw [List.mem_singleton.mp hx]
    exact hy0
theorem red5_ok : ∀ {n m : Nat} {dn wt : List Int} {r : List Nat}, (∀ x ∈ dn, x ≠ 0) → (∀ x ∈ wt, x ≠ 0) → dn.length + wt.length = m → m ≤ 1000 → red5 n m (dn.map cod) (wt.map cod) = some r → ∃ (r' : List Int) (k : Nat), k ≤ n ∧ redF k dn wt = some r' ∧ r = r'.map cod
  | 0, _, _, _, _, _, _, _, _, h => by cases h
  | n + 1, m, dn, [], r, h1, _, hm, hl, h => by
    have h : some (dn.map cod).reverse = some r := h
    cases h
    refine ⟨dn.reverse, 1, by omega, ?_, by rw [List.map_reverse]⟩
    have hm : dn.length + 0 = m := hm
    show (if dn.length + 0 ≤ 1000 then _ else none) = _
    rw [if_pos (by omega)]
    show some (dn.reverse ++ []) = _
    rw [List.append_nil]
  | n + 1, m, dn, a :: t, r, h1, h2, hm, hl, h => by
    have ha := h2 a List.mem_cons_self
    have ht : ∀ x ∈ t, x ≠ 0 := fun x hx => h2 x (List.mem_cons_of_mem _ hx)
    have hs := spl5_ok ha (acc := []) h1
    have h : (Option.rec (motive := fun _ => Option (List Nat)) (red5 n m (cod a :: dn.map cod) (t.map cod))
      (fun p => Bool.rec none (red5 n (m + 2 * (cnt5 (flp (cod a) + 2) (cod a + 2) p.1) - 2) p.2 (wo5 (flp (cod a)) (cod a) (flp (cod a) + 2) (cod a + 2) p.1 (t.map cod))) (Nat.ble (m + 2 * (cnt5 (flp (cod a) + 2) (cod a + 2) p.1) - 2) 900))
      (spl5 (flp (cod a)) (cod a) (lo1 (cod a)) (lo2 (cod a)) (dn.map cod) []) : Option (List Nat)) = some r := h
    have hs : spl5 (flp (cod a)) (cod a) (lo1 (cod a)) (lo2 (cod a)) (dn.map cod) [] = (spl a dn []).map fun p => (p.1.map cod, p.2.map cod) := hs
    rw [hs] at h
    cases e : spl a dn [] with
    | none =>
      rw [e] at h
      have h : red5 n m ((a :: dn).map cod) (t.map cod) = some r := h
      obtain ⟨r', k, hk, hr, er⟩ := red5_ok (fun x hx => (List.mem_cons.mp hx).elim (fun z => by rw [z]; exact ha) (h1 x)) ht (by rw [List.length_cons] at hm ⊢; omega) hl h
      exact ⟨r', k, by omega, by rw [redF_skip (spl_none e)]; exact hr, er⟩
    | some p =>
      obtain ⟨inner, r0⟩ := p
      rw [e] at h
      obtain ⟨g1, mm, g2, g3⟩ := spl_some e
      subst g2
      rw [List.append_nil] at g3
      subst g3
      have hin : ∀ x ∈ mm.reverse, x ≠ 0 := fun x hx => h1 x (List.mem_append_left _ (List.mem_reverse.mp hx))
      have hr0 : ∀ x ∈ r0, x ≠ 0 := fun x hx => h1 x (List.mem_append_right _ (List.mem_cons_of_mem _ hx))
      have hna : -a ≠ 0 := by omega
      have ew := wo5_ok hna (t := t) hin
      rw [Int.neg_neg, cod_neg ha] at ew
      have ec := cnt5_ok (flp (cod a)) (cod a) (flp (cod a) + 2) (cod a + 2) (t.map cod) (mm.reverse.map cod)
      rw [ew] at ec
      have h : (Bool.rec none (red5 n (m + 2 * (cnt5 (flp (cod a) + 2) (cod a + 2) (mm.reverse.map cod)) - 2) (r0.map cod) (wo5 (flp (cod a)) (cod a) (flp (cod a) + 2) (cod a + 2) (mm.reverse.map cod) (t.map cod))) (Nat.ble (m + 2 * (cnt5 (flp (cod a) + 2) (cod a + 2) (mm.reverse.map cod)) - 2) 900) : Option (List Nat)) = some r := h
      rw [ew, brec] at h
      split at h
      · rename_i c
        have c := Nat.le_of_ble_eq_true c
        rw [List.length_map, List.length_map, List.length_map, List.length_reverse] at ec
        rw [List.length_append, List.length_cons, List.length_cons] at hm
        have hlen : r0.length + (wo (-a) mm.reverse ++ t).length = m + 2 * (cnt5 (flp (cod a) + 2) (cod a + 2) (mm.reverse.map cod)) - 2 := by omega
        obtain ⟨r', k, hk, hr, er⟩ := red5_ok hr0 (fun x hx => (List.mem_append.mp hx).elim (wo_nz hna hin x) (ht x)) hlen (by omega) h
        refine ⟨r', k + 1, by omega, ?_, er⟩
        rw [redF_take g1 (by rw [List.length_append, List.length_cons, List.length_cons]; omega)]
        exact hr
      · cases h
/-! ### the order of terms -/
def jw (a b : Tree) : List Int := inv (wd a) ++ wd b
def lessR (r : List Int) : Bool := r.contains 1 && !r.contains (-1)
def grR (r : List Int) : Bool := r.contains (-1) && !r.contains 1
def lessT (a b : Tree) : Bool := match redF 100 [] (jw a b) with
  | some r => lessR r
  | none => false
def grT (a b : Tree) : Bool := match redF 100 [] (jw a b) with
  | some r => grR r
  | none => false
/-- the terms of a size -/
def trs : Nat → Nat → List Tree
  | 0, _ => []
  | k + 1, n => (if n = 1 then [.L] else []) ++ (List.range n).flatMap fun i => (trs k i).flatMap fun l => (trs k (n - i)).map fun r => .N l r
theorem trs_mem : ∀ (t : Tree) (k : Nat), t.dp < k → t ∈ trs k t.sz
  | _, 0, h => by omega
  | .L, k + 1, _ => List.mem_append_left _ (List.mem_singleton.mpr rfl)
  | .N l r, k + 1, h => by
    have h : max l.dp r.dp + 1 < k + 1 := h
    have hl := trs_mem l k (by omega)
    have hr := trs_mem r k (by omega)
    have p1 := l.sz_pos
    have p2 := r.sz_pos
    refine List.mem_append_right _ (List.mem_flatMap.mpr ⟨l.sz, List.mem_range.mpr (by show l.sz < l.sz + r.sz; omega), List.mem_flatMap.mpr ⟨l, hl, List.mem_map.mpr ⟨r, ?_, rfl⟩⟩⟩)
    rw [show (Tree.N l r).sz - l.sz = r.sz by show l.sz + r.sz - l.sz = r.sz; omega]
    exact hr
def okTr (t : Tree) : Bool := (t.spine.drop 1).all (fun s => lessT s t) && (match t with
  | .L => true
  | .N l _ => grT t l)
theorem all7 : ((List.range 8).all fun n => (trs 7 n).all okTr) = true := by decide +kernel
theorem okT_of {t : Tree} (hz : t.sz ≤ 7) (hd : t.dp ≤ 6) : okTr t = true := by
  have h := List.all_eq_true.mp all7 t.sz (List.mem_range.mpr (by omega))
  exact List.all_eq_true.mp h t (trs_mem t 7 (by omega))
/-- what a reduced word shows -/
def shV (r : List Int) : V := if r = [] then .str "equal" else if lessR r = true then .str "less" else if grR r = true then .str "greater" else .non
def spShown (K : PySem.W.Frag) : Sp := fun vs H Q _ => ∃ (a : Addr) (r : List Int), vs = [.ref a] ∧ WT K H a r ∧ r.length ≤ 1000 ∧ ∀ H', Same H H' → Q (shV r) H'
def spJoint (K : PySem.W.Frag) : Sp := fun vs H Q _ => ∃ (x y : V) (a b : Tree), vs = [x, y] ∧ TA K H x a ∧ TA K H y b ∧ a.sz ≤ 12 ∧ a.dp ≤ 6 ∧ b.sz ≤ 12 ∧ b.dp ≤ 6 ∧ ∀ p H', Same H H' → WT K H' p (jw a b) → Q (.ref p) H'
def spCmpd (K : PySem.W.Frag) : Sp := fun vs H Q _ => ∃ (x y : V) (a b : Tree) (r : List Int) (k : Nat), vs = [x, y] ∧ TA K H x a ∧ TA K H y b ∧ a.sz ≤ 12 ∧ a.dp ≤ 6 ∧ b.sz ≤ 12 ∧ b.dp ≤ 6 ∧ k ≤ 9000 ∧ redF k [] (jw a b) = some r ∧ ∀ H', Same H H' → Q (shV r) H'
theorem redF_len {r : List Int} : ∀ {k : Nat} {dn wt : List Int}, redF k dn wt = some r → r.length ≤ 1000
  | 0, _, _, h => by cases h
  | k + 1, dn, wt, h => by
    obtain ⟨h1, h2⟩ := redF_step h
    rcases h2 with ⟨_, rfl⟩ | ⟨_, _, _, _, _, _, _, _, h3, _⟩
    · rw [List.length_append, List.length_reverse]
      exact h1
    · exact redF_len h3
theorem lessT_r {a b : Tree} (h : lessT a b = true) : ∃ r, redF 100 [] (jw a b) = some r ∧ shV r = .str "less" := by
  unfold lessT at h
  split at h
  · rename_i r e
    refine ⟨r, e, ?_⟩
    unfold shV
    rw [if_neg (fun z => by rw [z] at h; cases h), if_pos h]
  · cases h
theorem grT_r {a b : Tree} (h : grT a b = true) : ∃ r, redF 100 [] (jw a b) = some r ∧ shV r = .str "greater" := by
  unfold grT at h
  split at h
  · rename_i r e
    refine ⟨r, e, ?_⟩
    unfold shV
    rw [if_neg (fun z => by rw [z] at h; cases h), if_neg (fun z => by unfold lessR at z; unfold grR at h; revert z h; cases r.contains 1 <;> cases r.contains (-1) <;> decide), if_pos h]
  · cases h
/-- the groups: each holds one index -/
def Grp (H0 G : Hp) (g : Addr) (gs : List (Addr × Nat)) : Prop := H0 g = none ∧ G g = some (.lst (gs.map fun z => V.ref z.1)) ∧ (∀ z ∈ gs, H0 z.1 = none ∧ z.1 ≠ g ∧ G z.1 = some (.lst [V.int (z.2 : Nat)])) ∧ Same H0 G
/-- what a list holds: terms that keep the bounds -/
def TmL (K : PySem.W.Frag) (G : Hp) (t : Addr) (vs : List V) (ts : List Tree) : Prop := G t = some (.lst vs) ∧ DpAll K G vs (ts.map Tree.d) ∧ ∀ x ∈ ts, x.sz ≤ 12 ∧ x.dp ≤ 6
/-- the term at i is less (up: greater) than those in the groups -/
def spPlace (K : PySem.W.Frag) : Sp := fun vs H Q _ => ∃ (H0 : Hp) (g t : Addr) (us : List V) (i : Nat) (gs : List (Addr × Nat)) (ts : List Tree) (up : Bool), vs = [.ref g, .ref t, .int (i : Nat)] ∧ Grp H0 H g gs ∧ gs.length ≤ 90 ∧ TmL K H0 t us ts ∧
  (∃ x, ts[i]? = some x ∧ ∀ z ∈ gs, ∃ y, ts[z.2]? = some y ∧ (if up then grT x y = true else lessT x y = true)) ∧ ∀ e H', Grp H0 H' g (if up then gs ++ [(e, i)] else (e, i) :: gs) → Q .non H'
theorem Grp.same {H0 G G' : Hp} {g : Addr} {gs : List (Addr × Nat)} (e : Same G G') (h : Grp H0 G g gs) : Grp H0 G' g gs := ⟨h.1, e _ _ h.2.1, fun z hz => ⟨(h.2.2.1 z hz).1, (h.2.2.1 z hz).2.1, e _ _ (h.2.2.1 z hz).2.2⟩, h.2.2.2.trans e⟩
theorem Grp.put {H0 G : Hp} {g e : Addr} {gs gs' : List (Addr × Nat)} {i : Nat} (h : Grp H0 G g gs) (ne : G e = none) (hm : ∀ z ∈ gs', z ∈ gs ∨ z = (e, i)) : Grp H0 (upd (upd G e (.lst [V.int (i : Nat)])) g (.lst (gs'.map fun z => V.ref z.1))) g gs' := by
  obtain ⟨h0, hg, hz, sm⟩ := h
  have neg : e ≠ g := fun z => by rw [z, hg] at ne; cases ne
  refine ⟨h0, upd_same, fun z hz' => ?_, fun c o hc => ?_⟩
  · rcases hm z hz' with h | rfl
    · obtain ⟨z1, z2, z3⟩ := hz z h
      refine ⟨z1, z2, ?_⟩
      rw [upd_ne z2, upd_ne (fun y => by rw [y, ne] at z3; cases z3)]
      exact z3
    · refine ⟨sm.free ne, neg, ?_⟩
      rw [upd_ne neg, upd_same]
  · have c1 : c ≠ g := fun z => by rw [z, h0] at hc; cases hc
    have c2 : c ≠ e := fun z => by rw [z] at hc; rw [sm _ _ hc] at ne; cases ne
    rw [upd_ne c1, upd_ne c2]
    exact sm _ _ hc
def ordT (ts : List Tree) (up : Bool) : Prop := ∀ (i j : Nat) (x y : Tree), j < i → ts[i]? = some x → ts[j]? = some y → (if up then grT x y = true else lessT x y = true)
def spSort (K : PySem.W.Frag) : Sp := fun vs H Q _ => ∃ (t : Addr) (us : List V) (ts : List Tree) (up : Bool), vs = [.ref t] ∧ TmL K H t us ts ∧ us.length ≤ 90 ∧ ordT ts up ∧ ∀ g gs H', Grp H H' g gs → gs.map (fun z => z.2) = (if up then List.range us.length else (List.range us.length).reverse) → Q (.ref g) H'
def spLeast (K : PySem.W.Frag) : Sp := fun vs H Q _ => ∃ (t : Addr) (us : List V) (ts : List Tree) (x : Tree), vs = [.ref t] ∧ TmL K H t us (ts ++ [x]) ∧ us.length ≤ 90 ∧ ordT (ts ++ [x]) false ∧ ∀ v H', Same H H' → TA K H' v x → Q v H'
theorem TmL.same {K : PySem.W.Frag} {G G' : Hp} {t : Addr} {vs : List V} {ts : List Tree} (e : Same G G') (h : TmL K G t vs ts) : TmL K G' t vs ts := ⟨e _ _ h.1, dpAll_tp (Tp.same e) h.2.1, h.2.2⟩
theorem TmL.at {K : PySem.W.Frag} {G : Hp} {t : Addr} {vs : List V} {ts : List Tree} (h : TmL K G t vs ts) {i : Nat} {v : V} (hv : vs[i]? = some v) : ∃ x, ts[i]? = some x ∧ TA K G v x ∧ x.sz ≤ 12 ∧ x.dp ≤ 6 := by
  have hl := dpAll_len h.2.1
  rw [List.length_map] at hl
  have hi : i < ts.length := by rw [← hl]; exact (List.getElem?_eq_some_iff.mp hv).1
  have hx : ts[i]? = some ts[i] := List.getElem?_eq_getElem hi
  obtain ⟨v', e1, e2⟩ := dpAll_at h.2.1 i ts[i].d (by rw [List.getElem?_map, hx]; rfl)
  rw [hv] at e1
  cases e1
  exact ⟨ts[i], hx, e2, h.2.2 _ (List.getElem_mem hi)⟩
/-! ### what a compare tells, made for the kernel -/
noncomputable def shN (l : List Nat) : List Nat := List.rec (motive := fun _ => List Nat) [] (fun x _ ih => Nat.add x 2 :: ih) l
noncomputable def invN (l : List Nat) : List Nat → List Nat := List.rec (motive := fun _ => List Nat → List Nat) (fun acc => acc) (fun x _ ih acc => ih (flp x :: acc)) l
noncomputable def appN (l m : List Nat) : List Nat := List.rec (motive := fun _ => List Nat) m (fun x _ ih => x :: ih) l
noncomputable def lenN (l : List Nat) : Nat := List.rec (motive := fun _ => Nat) 0 (fun _ _ ih => Nat.succ ih) l
noncomputable def hasN (c : Nat) (l : List Nat) : Bool := List.rec (motive := fun _ => Bool) false (fun x _ ih => Bool.rec ih true (Nat.beq x c)) l
noncomputable def wdN (t : Tree) : List Nat := Tree.rec (motive := fun _ => List Nat) [] (fun _ _ a b => appN a (appN (shN b) (2 :: shN (invN a [])))) t
noncomputable def jwN (a b : Tree) : List Nat := invN (wdN a) (wdN b)
noncomputable def cmpW (w : List Nat) : Nat := Bool.rec 3 (Option.rec (motive := fun _ => Nat) 3 (fun r => Bool.rec (Bool.rec (Bool.rec 3 2 (and (hasN 3 r) (not (hasN 2 r)))) 1 (and (hasN 2 r) (not (hasN 3 r)))) 0 (List.isEmpty r)) (red5 9000 (lenN w) [] w)) (Nat.ble (lenN w) 900)
noncomputable def cmpN (x y : Tree) : Nat := cmpW (jwN x y)
theorem appN_eq (m : List Nat) : ∀ l : List Nat, appN l m = l ++ m
  | [] => rfl
  | x :: l => congrArg (x :: ·) (appN_eq m l)
theorem lenN_eq : ∀ l : List Nat, lenN l = l.length
  | [] => rfl
  | _ :: l => congrArg Nat.succ (lenN_eq l)
theorem shN_eq : ∀ {l : List Int}, (∀ x ∈ l, x ≠ 0) → shN (l.map cod) = (shf 1 l).map cod
  | [], _ => rfl
  | x :: l, h => by
    have ih := shN_eq (l := l) fun y hy => h y (List.mem_cons_of_mem _ hy)
    show (cod x + 2) :: shN (l.map cod) = cod (sgn (ab x + 1) x) :: (shf 1 l).map cod
    rw [ih, cod_up (h x List.mem_cons_self)]
theorem invN_eq : ∀ {l m : List Int}, (∀ x ∈ l, x ≠ 0) → invN (l.map cod) (m.map cod) = (inv l ++ m).map cod
  | [], _, _ => rfl
  | x :: l, m, h => by
    have ih := invN_eq (l := l) (m := -x :: m) fun y hy => h y (List.mem_cons_of_mem _ hy)
    show invN (l.map cod) (flp (cod x) :: m.map cod) = _
    rw [← cod_neg (h x List.mem_cons_self)]
    refine ih.trans ?_
    congr 1
    unfold inv
    rw [List.reverse_cons, List.map_append, List.append_assoc]
    rfl
theorem hasN_eq (c : Int) : ∀ l : List Int, hasN (cod c) (l.map cod) = l.contains c
  | [] => rfl
  | x :: l => by
    have e : hasN (cod c) ((x :: l).map cod) = Bool.rec (hasN (cod c) (l.map cod)) true (Nat.beq (cod x) (cod c)) := rfl
    rw [e, brec, hasN_eq c l, List.contains_cons]
    simp only [nbeq]
    by_cases h : x = c
    · rw [if_pos (cod_inj.mpr h), h]
      simp
    · rw [if_neg (fun z => h (cod_inj.mp z))]
      have : (c == x) = false := by
        rw [beq_eq_false_iff_ne]
        exact fun z => h z.symm
      rw [this]
      rfl
theorem shf_nz {l : List Int} (h : ∀ x ∈ l, x ≠ 0) : ∀ x ∈ shf 1 l, x ≠ 0 := fun x hx => by
  obtain ⟨y, hy, rfl⟩ := List.mem_map.mp hx
  have := h y hy
  unfold sgn ab
  (repeat' split) <;> omega
theorem inv_nz {l : List Int} (h : ∀ x ∈ l, x ≠ 0) : ∀ x ∈ inv l, x ≠ 0 := fun x hx => by
  obtain ⟨y, hy, rfl⟩ := List.mem_map.mp hx
  have := h y (List.mem_reverse.mp hy)
  omega
theorem wd_nzT : ∀ t : Tree, ∀ x ∈ wd t, x ≠ 0
  | .L, x, h => nomatch h
  | .N l r, x, h => by
    have h : x ∈ ((wd l ++ shf 1 (wd r)) ++ [1]) ++ shf 1 (inv (wd l)) := h
    rcases List.mem_append.mp h with h | h
    · rcases List.mem_append.mp h with h | h
      · rcases List.mem_append.mp h with h | h
        · exact wd_nzT l x h
        · exact shf_nz (wd_nzT r) x h
      · rw [List.mem_singleton.mp h]
        decide
    · exact shf_nz (inv_nz (wd_nzT l)) x h
theorem wdN_eq : ∀ t : Tree, wdN t = (wd t).map cod
  | .L => rfl
  | .N l r => by
    have h1 := wdN_eq l
    have h2 := wdN_eq r
    have e : wdN (.N l r) = appN (wdN l) (appN (shN (wdN r)) (2 :: shN (invN (wdN l) []))) := rfl
    have e2 : invN ((wd l).map cod) [] = (inv (wd l)).map cod := by
      have := invN_eq (m := []) (wd_nzT l)
      rw [List.append_nil] at this
      exact this
    rw [e, appN_eq, appN_eq, h1, h2, shN_eq (wd_nzT r), e2, shN_eq (inv_nz (wd_nzT l))]
    show _ = (((wd l ++ shf 1 (wd r)) ++ [1]) ++ shf 1 (inv (wd l))).map cod
    rw [List.map_append, List.map_append, List.map_append, List.append_assoc, List.append_assoc]
    rfl
theorem jw_nz (x y : Tree) : ∀ z ∈ jw x y, z ≠ 0 := fun z hz => (List.mem_append.mp hz).elim (inv_nz (wd_nzT x) z) (wd_nzT y z)
theorem jwN_eq (x y : Tree) : jwN x y = (jw x y).map cod := by
  unfold jwN jw
  rw [wdN_eq, wdN_eq, invN_eq (wd_nzT x)]
def nmC : Nat → Str
  | 0 => "equal"
  | 1 => "less"
  | _ => "greater"
theorem cmpN_r {x y : Tree} (h : cmpN x y < 3) : ∃ (r : List Int) (k : Nat), k ≤ 9000 ∧ redF k [] (jw x y) = some r ∧ shV r = .str (nmC (cmpN x y)) ∧ (r = [] ↔ cmpN x y = 0) := by
  unfold cmpN cmpW at h ⊢
  rw [brec] at h ⊢
  split at h
  · rename_i c
    have c := Nat.le_of_ble_eq_true c
    rw [if_pos (by rw [Nat.ble_eq]; exact c)] at ⊢
    rw [lenN_eq, jwN_eq] at *
    cases e : red5 9000 ((jw x y).map cod).length [] ((jw x y).map cod) with
    | none =>
      rw [e] at h
      exact absurd h (by decide)
    | some r0 =>
      rw [e] at h
      rw [List.length_map] at e c
      obtain ⟨r, k, hk, hr, rfl⟩ := red5_ok (dn := []) (wt := jw x y) (fun _ z => (nomatch z)) (jw_nz x y) (by rw [List.length_nil]; omega) (by omega) e
      refine ⟨r, k, hk, hr, ?_⟩
      have h2 : hasN 2 (r.map cod) = r.contains 1 := hasN_eq 1 r
      have h3 : hasN 3 (r.map cod) = r.contains (-1) := by
        have e3 : cod (-1) = 3 := by decide
        rw [← e3]
        exact hasN_eq (-1) r
      dsimp only at h ⊢
      rw [h2, h3, brec, brec, brec] at h ⊢
      have ee : (r.map cod).isEmpty = r.isEmpty := by cases r <;> rfl
      rw [ee] at h ⊢
      unfold shV
      by_cases c1 : r.isEmpty = true
      · rw [if_pos (List.isEmpty_iff.mp c1), if_pos c1]
        exact ⟨rfl, fun _ => rfl, fun _ => List.isEmpty_iff.mp c1⟩
      have c1' : r ≠ [] := fun z => c1 (List.isEmpty_iff.mpr z)
      rw [if_neg c1'] at ⊢
      rw [if_neg c1] at h ⊢
      by_cases c2 : (r.contains 1 && !r.contains (-1)) = true
      · have c2' : lessR r = true := c2
        rw [if_pos c2', if_pos c2]
        exact ⟨rfl, fun z => absurd z c1', fun z => absurd z (by decide)⟩
      have c2' : ¬ lessR r = true := c2
      rw [if_neg c2', if_neg c2]
      rw [if_neg c2] at h
      by_cases c3 : (r.contains (-1) && !r.contains 1) = true
      · have c3' : grR r = true := c3
        rw [if_pos c3', if_pos c3]
        exact ⟨rfl, fun z => absurd z c1', fun z => absurd z (by decide)⟩
      · rw [if_neg c3] at h
        exact absurd h (by decide)
  · exact absurd h (by decide)
/-! ### full expansions -/
namespace Tree
def sub : Tree → Tree → Tree
  | L, a => N a L
  | N l r, a => N (l.sub a) (r.sub a)
def fe : Tree → Tree
  | L => L
  | N a b => b.fe.sub a.fe
def fsz : Tree → Nat
  | L => 1
  | N a b => (a.fsz + 1) * b.fsz
theorem sub_sz (a : Tree) : ∀ b : Tree, (b.sub a).sz = (a.sz + 1) * b.sz
  | L => by
    show a.sz + 1 = (a.sz + 1) * 1
    omega
  | N l r => by
    show (l.sub a).sz + (r.sub a).sz = (a.sz + 1) * (l.sz + r.sz)
    rw [sub_sz a l, sub_sz a r, Nat.mul_add]
theorem fe_sz : ∀ t : Tree, t.fe.sz = t.fsz
  | L => rfl
  | N a b => by
    show (b.fe.sub a.fe).sz = (a.fsz + 1) * b.fsz
    rw [sub_sz, fe_sz a, fe_sz b]
theorem fsz_pos (t : Tree) : 0 < t.fsz := by
  rw [← fe_sz]
  exact sz_pos _
theorem fsz_le : ∀ t : Tree, t.fsz + 1 ≤ 4 ^ t.sz
  | L => by decide
  | N a b => by
    have h1 := fsz_le a
    have h2 := fsz_le b
    show (a.fsz + 1) * b.fsz + 1 ≤ 4 ^ (a.sz + b.sz)
    rw [Nat.pow_add]
    have h3 : (a.fsz + 1) * (b.fsz + 1) ≤ 4 ^ a.sz * 4 ^ b.sz := Nat.mul_le_mul h1 h2
    rw [Nat.mul_succ] at h3
    omega
theorem sub_dp (a : Tree) : ∀ b : Tree, (b.sub a).dp ≤ b.dp + a.dp + 1
  | L => by
    show max a.dp 0 + 1 ≤ 0 + a.dp + 1
    omega
  | N l r => by
    have h1 := sub_dp a l
    have h2 := sub_dp a r
    show max (l.sub a).dp (r.sub a).dp + 1 ≤ max l.dp r.dp + 1 + a.dp + 1
    omega
theorem fe_dp : ∀ t : Tree, t.fe.dp + 1 ≤ t.sz
  | L => Nat.le_refl _
  | N a b => by
    have h1 := fe_dp a
    have h2 := fe_dp b
    have h3 := sub_dp a.fe b.fe
    show (b.fe.sub a.fe).dp + 1 ≤ a.sz + b.sz
    omega
/-- an expansion at the root, at a path -/
def ex0 : Tree → Option Tree
  | N a (N b c) => some (N (N a b) (N a c))
  | N _ L => none
  | L => none
def ex : Tree → List Bool → Option Tree
  | t, [] => t.ex0
  | L, _ :: _ => none
  | N l r, b :: p => match b with
    | false => (l.ex p).map fun l' => N l' r
    | true => (r.ex p).map fun r' => N l r'
theorem ex_nil (t : Tree) : t.ex [] = t.ex0 := by cases t <;> rfl
theorem ex_0 (l r : Tree) (p : List Bool) : (N l r).ex (false :: p) = (l.ex p).map fun l' => N l' r := rfl
theorem ex_1 (l r : Tree) (p : List Bool) : (N l r).ex (true :: p) = (r.ex p).map fun r' => N l r' := rfl
def rl : Tree → List (List Bool) → Option Tree
  | t, [] => some t
  | t, p :: ps => (t.ex p).bind fun t' => t'.rl ps
theorem rl_app : ∀ (ps qs : List (List Bool)) (t : Tree), t.rl (ps ++ qs) = (t.rl ps).bind fun t' => t'.rl qs
  | [], _, _ => rfl
  | p :: ps, qs, t => by
    show (t.ex p).bind (fun t' => t'.rl (ps ++ qs)) = ((t.ex p).bind fun t' => t'.rl ps).bind fun t' => t'.rl qs
    cases t.ex p with
    | none => rfl
    | some t' => exact rl_app ps qs t'
theorem rl_0 : ∀ (ps : List (List Bool)) (l r l' : Tree), l.rl ps = some l' → (N l r).rl (ps.map (false :: ·)) = some (N l' r)
  | [], l, r, l', h => by
    cases h
    rfl
  | p :: ps, l, r, l', h => by
    have h : (l.ex p).bind (fun t' => t'.rl ps) = some l' := h
    show ((N l r).ex (false :: p)).bind (fun t' => t'.rl (ps.map (false :: ·))) = _
    rw [ex_0]
    cases e : l.ex p with
    | none =>
      rw [e] at h
      cases h
    | some m =>
      rw [e] at h
      exact rl_0 ps m r l' h
theorem rl_1 : ∀ (ps : List (List Bool)) (l r r' : Tree), r.rl ps = some r' → (N l r).rl (ps.map (true :: ·)) = some (N l r')
  | [], l, r, r', h => by
    cases h
    rfl
  | p :: ps, l, r, r', h => by
    have h : (r.ex p).bind (fun t' => t'.rl ps) = some r' := h
    show ((N l r).ex (true :: p)).bind (fun t' => t'.rl (ps.map (true :: ·))) = _
    rw [ex_1]
    cases e : r.ex p with
    | none =>
      rw [e] at h
      cases h
    | some m =>
      rw [e] at h
      exact rl_1 ps l m r' h
/-- the paths of the pairs, in the order of texts -/
def nd : Tree → List (List Bool)
  | L => []
  | N l r => [] :: (l.nd.map (false :: ·) ++ r.nd.map (true :: ·))
def fp : Tree → List (List Bool)
  | L => []
  | N a b => (a.fp.map (false :: ·) ++ b.fp.map (true :: ·)) ++ b.fe.nd
theorem rl_nd (a : Tree) : ∀ b : Tree, (N a b).rl b.nd = some (b.sub a)
  | L => rfl
  | N l r => by
    show ((N a (N l r)).ex []).bind (fun t' => t'.rl (l.nd.map (false :: ·) ++ r.nd.map (true :: ·))) = _
    show (N (N a l) (N a r)).rl (l.nd.map (false :: ·) ++ r.nd.map (true :: ·)) = _
    rw [rl_app, rl_0 l.nd (N a l) (N a r) (l.sub a) (rl_nd a l)]
    exact rl_1 r.nd (l.sub a) (N a r) (r.sub a) (rl_nd a r)
theorem rl_fp : ∀ t : Tree, t.rl t.fp = some t.fe
  | L => rfl
  | N a b => by
    show (N a b).rl ((a.fp.map (false :: ·) ++ b.fp.map (true :: ·)) ++ b.fe.nd) = _
    rw [rl_app, rl_app, rl_0 a.fp a b a.fe (rl_fp a)]
    show ((N a.fe b).rl (b.fp.map (true :: ·))).bind (fun t' => t'.rl b.fe.nd) = _
    rw [rl_1 b.fp a.fe b b.fe (rl_fp b)]
    exact rl_nd a.fe b.fe
theorem ex_dp : ∀ (t : Tree) (p : List Bool) (t' : Tree), t.ex p = some t' → t.dp ≤ t'.dp
  | N a (N b c), [], t', h => by
    cases h
    show max a.dp (max b.dp c.dp + 1) + 1 ≤ max (max a.dp b.dp + 1) (max a.dp c.dp + 1) + 1
    omega
  | N _ L, [], _, h => by cases h
  | L, [], _, h => by cases h
  | L, _ :: _, _, h => by cases h
  | N l r, false :: p, t', h => by
    rw [ex_0] at h
    cases e : l.ex p with
    | none =>
      rw [e] at h
      cases h
    | some m =>
      rw [e] at h
      cases h
      have := ex_dp l p m e
      show max l.dp r.dp + 1 ≤ max m.dp r.dp + 1
      omega
  | N l r, true :: p, t', h => by
    rw [ex_1] at h
    cases e : r.ex p with
    | none =>
      rw [e] at h
      cases h
    | some m =>
      rw [e] at h
      cases h
      have := ex_dp r p m e
      show max l.dp r.dp + 1 ≤ max l.dp m.dp + 1
      omega
theorem rl_dp : ∀ (ps : List (List Bool)) (t t' : Tree), t.rl ps = some t' → t.dp ≤ t'.dp
  | [], t, t', h => by
    cases h
    exact Nat.le_refl _
  | p :: ps, t, t', h => by
    have h : (t.ex p).bind (fun t' => t'.rl ps) = some t' := h
    cases e : t.ex p with
    | none =>
      rw [e] at h
      cases h
    | some m =>
      rw [e] at h
      exact Nat.le_trans (ex_dp t p m e) (rl_dp ps m t' h)
end Tree
/-! ### texts of paths -/
def pcs (p : List Bool) : List Nat := p.map fun b => if b then 49 else 48
def ptx (p : List Bool) : Str := ⟨(pcs p).toArray⟩
def Tree.st : Tree → List Bool → Option Tree
  | t, [] => some t
  | .L, _ :: _ => none
  | .N l r, b :: p => if b then r.st p else l.st p
def Tree.rp : Tree → List Bool → Tree → Option Tree
  | _, [], u => some u
  | .L, _ :: _, _ => none
  | .N l r, b :: p, u => if b then (r.rp p u).map fun r' => .N l r' else (l.rp p u).map fun l' => .N l' r
theorem Tree.st_nil (t : Tree) : t.st [] = some t := by cases t <;> rfl
theorem Tree.rp_nil (t u : Tree) : t.rp [] u = some u := by cases t <;> rfl
theorem Tree.ex_parts : ∀ (t : Tree) (p : List Bool) (t' : Tree), t.ex p = some t' → ∃ u u', t.st p = some u ∧ u.ex0 = some u' ∧ t.rp p u' = some t'
  | t, [], t', h => ⟨t, t', t.st_nil, by rw [← ex_nil]; exact h, t.rp_nil t'⟩
  | .L, _ :: _, _, h => by cases h
  | .N l r, false :: p, t', h => by
    rw [ex_0] at h
    cases e : l.ex p with
    | none =>
      rw [e] at h
      cases h
    | some m =>
      rw [e] at h
      cases h
      obtain ⟨u, u', h1, h2, h3⟩ := ex_parts l p m e
      refine ⟨u, u', h1, h2, ?_⟩
      show (l.rp p u').map (fun l' => Tree.N l' r) = _
      rw [h3]
      rfl
  | .N l r, true :: p, t', h => by
    rw [ex_1] at h
    cases e : r.ex p with
    | none =>
      rw [e] at h
      cases h
    | some m =>
      rw [e] at h
      cases h
      obtain ⟨u, u', h1, h2, h3⟩ := ex_parts r p m e
      refine ⟨u, u', h1, h2, ?_⟩
      show (r.rp p u').map (fun r' => Tree.N l r') = _
      rw [h3]
      rfl
theorem Tree.st_len : ∀ (t : Tree) (p : List Bool) (u : Tree), t.st p = some u → p.length + u.dp ≤ t.dp
  | t, [], u, h => by
    rw [st_nil] at h
    cases h
    show 0 + t.dp ≤ t.dp
    omega
  | .L, _ :: _, _, h => by cases h
  | .N l r, false :: p, u, h => by
    have h : l.st p = some u := h
    have := st_len l p u h
    show p.length + 1 + u.dp ≤ max l.dp r.dp + 1
    omega
  | .N l r, true :: p, u, h => by
    have h : r.st p = some u := h
    have := st_len r p u h
    show p.length + 1 + u.dp ≤ max l.dp r.dp + 1
    omega
/-! ### a loop over a text; an expression that is never asked -/
theorem pe_never {X : Cx} {e : Expr} : PE X e (fun _ _ _ => False) := ⟨fun _ _ _ _ _ _ h => h.elim⟩
theorem for_S {z : Str} {g : TG} {tb : TS} {D : Ends} {σ : L2.St} {G : Hp} (Pv : Nat → L2.St → Hp → Prop) (h0 : Pv 0 σ G)
    (hs : ∀ j c σ G, z.cps[j]? = some c → Pv j σ G → g (.str ⟨#[c]⟩) σ G fun σ2 G2 => tb { D with nx := Pv (j + 1), ct := Pv (j + 1), bk := D.nx } σ2 G2) (hd : ∀ σ G, Pv z.cps.size σ G → D.nx σ G) :
    ∃ Wd : Nat → Nat → L2.St → Hp → Prop, (∃ m, Wd 0 m σ G) ∧ ∀ j m σ G, Wd j m σ G →
      ((Its z).stop j G ∧ D.nx σ G) ∨ ((Its z).go j G ∧ ∃ Nn : L2.St → Hp → Prop, (∀ σ' G', Nn σ' G' → ∃ m', m' < m ∧ Wd (j + 1) m' σ' G') ∧ ∀ v G', (Its z).yld j G v G' → g v σ G' fun σ2 G2 => tb { D with nx := Nn, ct := Nn, bk := D.nx } σ2 G2) := by
  refine ⟨fun j m σ G => m = z.cps.size - j ∧ j ≤ z.cps.size ∧ Pv j σ G, ⟨_, rfl, Nat.zero_le _, h0⟩, ?_⟩
  rintro j m σ G ⟨rfl, le, pv⟩
  rcases Nat.lt_or_ge j z.cps.size with lt | ge
  · refine .inr ⟨lt, Pv (j + 1), fun σ' G' y => ⟨z.cps.size - (j + 1), by omega, rfl, lt, y⟩, fun v G' y => ?_⟩
    obtain ⟨rfl, c, hc, rfl⟩ := y
    exact hs j c σ _ hc pv
  · have ej : j = z.cps.size := Nat.le_antisymm le ge
    subst ej
    exact .inl ⟨Nat.le_refl _, hd σ G pv⟩
/-! ### promises -/
def spFsz (K : PySem.W.Frag) (n : Nat) : Sp := fun vs H Q _ => ∃ (v : V) (t : Tree), vs = [v] ∧ TA K H v t ∧ t.dp < n ∧ n ≤ 40 ∧ t.sz ≤ 20 ∧ ∀ H', Same H H' → Q (.int t.fsz) H'
def spSub (K : PySem.W.Frag) (n : Nat) : Sp := fun vs H Q _ => ∃ (v o : V) (t a : Tree), vs = [v, o] ∧ TA K H v t ∧ TA K H o a ∧ t.dp < n ∧ n ≤ 40 ∧ ∀ (u : V) (H' : Hp), TA K H' u (t.sub a) → Same H H' → Q u H'
def spFe (K : PySem.W.Frag) (n : Nat) : Sp := fun vs H Q _ => ∃ (v : V) (t : Tree), vs = [v] ∧ TA K H v t ∧ t.dp < n ∧ n ≤ 20 ∧ t.sz ≤ 12 ∧ ∀ (u : V) (H' : Hp), TA K H' u t.fe → Same H H' → Q u H'
def spSt (K : PySem.W.Frag) : Sp := fun vs H Q _ => ∃ (v : V) (t u : Tree) (p : List Bool), vs = [v, .str (ptx p)] ∧ TA K H v t ∧ t.dp ≤ 60 ∧ t.st p = some u ∧ ∀ (x : V) (H' : Hp), TA K H' x u → Same H H' → Q x H'
def spRp (K : PySem.W.Frag) (n : Nat) : Sp := fun vs H Q _ => ∃ (v w : V) (t u t' : Tree) (p : List Bool), vs = [v, .str (ptx p), w] ∧ TA K H v t ∧ TA K H w u ∧ p.length < n ∧ n ≤ 70 ∧ t.rp p u = some t' ∧ ∀ (x : V) (H' : Hp), TA K H' x t' → Same H H' → Q x H'
def spExp (K : PySem.W.Frag) : Sp := fun vs H Q _ => ∃ (v : V) (t u : Tree), vs = [v] ∧ TA K H v t ∧ t.dp ≤ 60 ∧ t.ex0 = some u ∧ ∀ (x : V) (H' : Hp), TA K H' x u → Same H H' → Q x H'
def spRw (K : PySem.W.Frag) : Sp := fun vs H Q _ => ∃ (v : V) (t t' : Tree) (p : List Bool), vs = [v, .str (ptx p), .bl true] ∧ TA K H v t ∧ t.dp ≤ 60 ∧ t.ex p = some t' ∧ ∀ (x : V) (H' : Hp), TA K H' x t' → Same H H' → Q x H'
theorem ptx_cps (p : List Bool) : (ptx p).cps.toList = pcs p := by
  show (pcs p).toArray.toList = _
  simp
theorem ptx_len (p : List Bool) : (ptx p).length = p.length := by
  show (pcs p).toArray.size = _
  simp [pcs]
theorem ptx_size (p : List Bool) : (ptx p).cps.size = p.length := ptx_len p
theorem pcs_at (p : List Bool) (j c : Nat) (h : (ptx p).cps[j]? = some c) : ∃ b, p[j]? = some b ∧ c = if b then 49 else 48 := by
  have h : (pcs p).toArray[j]? = some c := h
  rw [List.getElem?_toArray] at h
  unfold pcs at h
  rw [List.getElem?_map] at h
  cases e : p[j]? with
  | none =>
    rw [e] at h
    cases h
  | some b =>
    rw [e] at h
    cases h
    exact ⟨b, rfl, rfl⟩
theorem ptx_tail (b : Bool) (p : List Bool) : cutS (ptx (b :: p)) (some 1) none = ptx p := by
  unfold cutS
  rw [ptx_cps, ptx_len, show HT.sIx (b :: p).length 0 (some 1) = min 1 (b :: p).length from HT.sIx_nat _ _ 1, HT.sIx_none]
  have e : min 1 (b :: p).length = 1 := by
    rw [List.length_cons]
    omega
  rw [e]
  show (⟨((pcs p).take ((b :: p).length - 1)).toArray⟩ : Str) = ⟨(pcs p).toArray⟩
  rw [List.take_of_length_le]
  show (p.map _).length ≤ _
  rw [List.length_map, List.length_cons]
  exact Nat.le_refl _
theorem not_empty (b : Bool) (p : List Bool) : decide (V.str (ptx (b :: p)) = V.str (Str.ofString "")) = false := by
  refine decide_eq_false fun h => ?_
  have h1 := congrArg Str.length (V.str.inj h)
  rw [ptx_len] at h1
  cases h1
/-! ### paths without a pool -/
theorem ptx_snoc0 (p : List Bool) : ptx p ++ Str.ofString "0" = ptx (p ++ [false]) := by
  show (⟨(pcs p).toArray ++ #[48]⟩ : Str) = ⟨(pcs (p ++ [false])).toArray⟩
  unfold pcs
  rw [List.map_append]
  congr 1
  apply Array.toList_inj.mp
  simp
theorem ptx_snoc1 (p : List Bool) : ptx p ++ Str.ofString "1" = ptx (p ++ [true]) := by
  show (⟨(pcs p).toArray ++ #[49]⟩ : Str) = ⟨(pcs (p ++ [true])).toArray⟩
  unfold pcs
  rw [List.map_append]
  congr 1
  apply Array.toList_inj.mp
  simp
def ptxs (ps : List (List Bool)) : List V := ps.map fun p => .str (ptx p)
theorem ptxs_app (ps qs : List (List Bool)) : ptxs (ps ++ qs) = ptxs ps ++ ptxs qs := List.map_append
theorem ptxs_len (ps : List (List Bool)) : (ptxs ps).length = ps.length := List.length_map _
def Tree.pts : Tree → List Bool → List (List Bool)
  | .L, p => [p]
  | .N l r, p => ([p] ++ l.pts (p ++ [false])) ++ r.pts (p ++ [true])
theorem Tree.pts_len : ∀ (t : Tree) (p : List Bool), (t.pts p).length = t.nodes
  | .L, p => rfl
  | .N l r, p => by
    show (([p] ++ l.pts (p ++ [false])) ++ r.pts (p ++ [true])).length = l.nodes + r.nodes + 1
    rw [List.length_append, List.length_append, pts_len l, pts_len r, List.length_singleton]
    omega
theorem Tree.pts_le : ∀ (t : Tree) (p q : List Bool), q ∈ t.pts p → q.length ≤ p.length + t.dp
  | .L, p, q, h => by
    rw [List.mem_singleton.mp h]
    exact Nat.le_add_right _ _
  | .N l r, p, q, h => by
    have h : q ∈ ([p] ++ l.pts (p ++ [false])) ++ r.pts (p ++ [true]) := h
    show q.length ≤ p.length + (max l.dp r.dp + 1)
    rcases List.mem_append.mp h with h | h
    · rcases List.mem_append.mp h with h | h
      · rw [List.mem_singleton.mp h]
        omega
      · have := pts_le l _ _ h
        rw [List.length_append, List.length_singleton] at this
        omega
    · have := pts_le r _ _ h
      rw [List.length_append, List.length_singleton] at this
      omega
theorem Tree.pts_pos (t : Tree) (p : List Bool) : 0 < (t.pts p).length := by
  rw [pts_len]
  cases t <;> exact Nat.succ_pos _
def spPts (K : PySem.W.Frag) (n : Nat) : Sp := fun vs H Q _ => ∃ (v : V) (t : Tree) (p : List Bool), vs = [v, .str (ptx p)] ∧ TA K H v t ∧ t.dp < n ∧ n ≤ 30 ∧ t.nodes ≤ 1000 ∧ p.length + t.dp ≤ 60 ∧ ∀ (l : Addr) (H' : Hp), Same H H' → H l = none → H' l = some (.lst (ptxs (t.pts p))) → Q (.ref l) H'
def spStN (K : PySem.W.Frag) : Sp := fun vs H Q _ => ∃ (v : V) (t : Tree) (p : List Bool), vs = [v, .str (ptx p)] ∧ TA K H v t ∧ t.dp ≤ 60 ∧ (t.st p = none → ∀ H', Same H H' → Q .non H') ∧ ∀ u, t.st p = some u → ∀ (x : V) (H' : Hp), TA K H' x u → Same H H' → Q x H'
theorem ptx_nil : Str.ofString "" = ptx [] := rfl
/-! ### steps of both kinds -/
def Tree.eqb : Tree → Tree → Bool
  | .L, .L => true
  | .N a b, .N c d => a.eqb c && b.eqb d
  | .L, .N _ _ => false
  | .N _ _, .L => false
theorem Tree.eqb_eq : ∀ {a b : Tree}, a.eqb b = true → a = b
  | .L, .L, _ => rfl
  | .N a b, .N c d, h => by
    have h : (a.eqb c && b.eqb d) = true := h
    rw [Bool.and_eq_true] at h
    rw [eqb_eq h.1, eqb_eq h.2]
  | .L, .N _ _, h => by cases h
  | .N _ _, .L, h => by cases h
theorem Tree.eqb_refl : ∀ a : Tree, a.eqb a = true
  | .L => rfl
  | .N a b => by
    show (a.eqb a && b.eqb b) = true
    rw [eqb_refl a, eqb_refl b]
    rfl
theorem Tree.eqvT : ∀ a b : Tree, PyData.eqv a.d b.d = a.eqb b
  | .L, .L => rfl
  | .L, .N _ _ => rfl
  | .N _ _, .L => rfl
  | .N a b, .N c d => by
    show (PyData.eqv a.d c.d && (PyData.eqv b.d d.d && true)) = (a.eqb c && b.eqb d)
    rw [eqvT a c, eqvT b d, Bool.and_true]
def Tree.ct0 : Tree → Option Tree
  | .N (.N a b) (.N a' c) => if a.eqb a' = true then some (.N a (.N b c)) else none
  | .N .L _ => none
  | .N (.N _ _) .L => none
  | .L => none
def Tree.r0 (on : Bool) (t : Tree) : Option Tree := if on = true then t.ex0 else t.ct0
def Tree.rwt (on : Bool) (t : Tree) (p : List Bool) : Option Tree := (t.st p).bind fun u => (u.r0 on).bind fun u' => t.rp p u'
theorem Tree.rp_some (x : Tree) : ∀ (t : Tree) (p : List Bool) (u : Tree), t.st p = some u → ∃ t', t.rp p x = some t'
  | t, [], u, _ => ⟨x, t.rp_nil x⟩
  | .L, _ :: _, _, h => by cases h
  | .N l r, false :: p, u, h => by
    obtain ⟨l', e⟩ := rp_some x l p u h
    refine ⟨.N l' r, ?_⟩
    show (l.rp p x).map (fun l' => Tree.N l' r) = _
    rw [e]
    rfl
  | .N l r, true :: p, u, h => by
    obtain ⟨r', e⟩ := rp_some x r p u h
    refine ⟨.N l r', ?_⟩
    show (r.rp p x).map (fun r' => Tree.N l r') = _
    rw [e]
    rfl
/-- what holds of a subterm and of what stands in its place -/
theorem Tree.rp_rel {R : Tree → Tree → Prop} (hl : ∀ a a' b, R a a' → R (.N a b) (.N a' b)) (hr : ∀ a b b', R b b' → R (.N a b) (.N a b')) : ∀ (t : Tree) (p : List Bool) (u x t' : Tree), t.st p = some u → t.rp p x = some t' → R u x → R t t'
  | t, [], u, x, t', h1, h2, h3 => by
    rw [st_nil] at h1
    rw [rp_nil] at h2
    cases h1
    cases h2
    exact h3
  | .L, _ :: _, _, _, _, h, _, _ => by cases h
  | .N l r, false :: p, u, x, t', h1, h2, h3 => by
    have h2 : (l.rp p x).map (fun l' => Tree.N l' r) = some t' := h2
    cases e : l.rp p x with
    | none => rw [e] at h2; cases h2
    | some l' =>
      rw [e] at h2
      cases h2
      exact hl _ _ _ (rp_rel hl hr l p u x l' h1 e h3)
  | .N l r, true :: p, u, x, t', h1, h2, h3 => by
    have h2 : (r.rp p x).map (fun r' => Tree.N l r') = some t' := h2
    cases e : r.rp p x with
    | none => rw [e] at h2; cases h2
    | some r' =>
      rw [e] at h2
      cases h2
      exact hr _ _ _ (rp_rel hl hr r p u x r' h1 e h3)
theorem Tree.rwt_parts {on : Bool} {t t' : Tree} {p : List Bool} (h : t.rwt on p = some t') : ∃ u u', t.st p = some u ∧ u.r0 on = some u' ∧ t.rp p u' = some t' := by
  unfold rwt at h
  cases e : t.st p with
  | none => rw [e] at h; cases h
  | some u =>
    rw [e] at h
    have h : (u.r0 on).bind (fun u' => t.rp p u') = some t' := h
    cases e2 : u.r0 on with
    | none => rw [e2] at h; cases h
    | some u' =>
      rw [e2] at h
      exact ⟨u, u', rfl, e2, h⟩
theorem Tree.r0_ind {R : Tree → Tree → Prop} (he : ∀ a b c, R (.N a (.N b c)) (.N (.N a b) (.N a c))) (hc : ∀ a b c, R (.N (.N a b) (.N a c)) (.N a (.N b c))) : ∀ (on : Bool) (u u' : Tree), u.r0 on = some u' → R u u'
  | true, .N a (.N b c), u', h => by
    have h : some (Tree.N (.N a b) (.N a c)) = some u' := h
    cases h
    exact he a b c
  | true, .N a .L, u', h => by
    have h : (none : Option Tree) = some u' := h
    cases h
  | true, .L, u', h => by
    have h : (none : Option Tree) = some u' := h
    cases h
  | false, .N (.N a b) (.N a' c), u', h => by
    have h : (if a.eqb a' = true then some (Tree.N a (.N b c)) else none) = some u' := h
    by_cases e : a.eqb a' = true
    · rw [if_pos e] at h
      cases h
      rw [← eqb_eq e]
      exact hc a b c
    · rw [if_neg e] at h
      cases h
  | false, .N .L r, u', h => by
    have h : (none : Option Tree) = some u' := h
    cases h
  | false, .N (.N a b) .L, u', h => by
    have h : (none : Option Tree) = some u' := h
    cases h
  | false, .L, u', h => by
    have h : (none : Option Tree) = some u' := h
    cases h
/-- a relation that the steps keep -/
theorem Tree.rwt_ind {R : Tree → Tree → Prop} (he : ∀ a b c, R (.N a (.N b c)) (.N (.N a b) (.N a c))) (hc : ∀ a b c, R (.N (.N a b) (.N a c)) (.N a (.N b c))) (hl : ∀ a a' b, R a a' → R (.N a b) (.N a' b)) (hr : ∀ a b b', R b b' → R (.N a b) (.N a b')) {on : Bool} {t t' : Tree} {p : List Bool} (h : t.rwt on p = some t') : R t t' := by
  obtain ⟨u, u', h1, h2, h3⟩ := rwt_parts h
  exact rp_rel hl hr t p u u' t' h1 h3 (r0_ind he hc on u u' h2)
theorem Tree.rwt_dp {on : Bool} {t t' : Tree} {p : List Bool} (h : t.rwt on p = some t') : t'.dp ≤ t.dp + 1 := by
  refine rwt_ind (R := fun a b => b.dp ≤ a.dp + 1) ?_ ?_ ?_ ?_ h
  · intro a b c
    show max (max a.dp b.dp + 1) (max a.dp c.dp + 1) + 1 ≤ max a.dp (max b.dp c.dp + 1) + 1 + 1
    omega
  · intro a b c
    show max a.dp (max b.dp c.dp + 1) + 1 ≤ max (max a.dp b.dp + 1) (max a.dp c.dp + 1) + 1 + 1
    omega
  · intro a a' b h
    show max a'.dp b.dp + 1 ≤ max a.dp b.dp + 1 + 1
    omega
  · intro a b b' h
    show max a.dp b'.dp + 1 ≤ max a.dp b.dp + 1 + 1
    omega
theorem Tree.rwt_len {on : Bool} {t t' : Tree} {p : List Bool} (h : t.rwt on p = some t') : p.length ≤ t.dp := by
  obtain ⟨u, u', h1, _⟩ := rwt_parts h
  have := st_len t p u h1
  omega
inductive Stp : Tree → Tree → Prop
  | refl (t : Tree) : Stp t t
  | step {t u v : Tree} {on : Bool} {p : List Bool} : Stp t u → u.rwt on p = some v → Stp t v
theorem Stp.ind {R : Tree → Tree → Prop} (h0 : ∀ t, R t t) (h2 : ∀ a b c, R a b → R b c → R a c) (he : ∀ a b c, R (.N a (.N b c)) (.N (.N a b) (.N a c))) (hc : ∀ a b c, R (.N (.N a b) (.N a c)) (.N a (.N b c))) (hl : ∀ a a' b, R a a' → R (.N a b) (.N a' b)) (hr : ∀ a b b', R b b' → R (.N a b) (.N a b')) {t u : Tree} (h : Stp t u) : R t u := by
  induction h with
  | refl => exact h0 _
  | step _ h2' ih => exact h2 _ _ _ ih (Tree.rwt_ind he hc hl hr h2')
def spR0 (K : PySem.W.Frag) (on : Bool) : Sp := fun vs H Q _ => ∃ (v : V) (t : Tree), vs = [v] ∧ TA K H v t ∧ t.dp ≤ 60 ∧ (t.r0 on = none → ∀ H', Same H H' → Q .non H') ∧ ∀ u, t.r0 on = some u → ∀ (x : V) (H' : Hp), TA K H' x u → Same H H' → Q x H'
def spRwN (K : PySem.W.Frag) (n : Nat) : Sp := fun vs H Q _ => ∃ (v : V) (t : Tree) (p : List Bool) (on : Bool), vs = [v, .str (ptx p), .bl on] ∧ TA K H v t ∧ t.dp ≤ 60 ∧ p.length < n ∧ n ≤ 62 ∧ (t.rwt on p = none → ∀ H', Same H H' → Q .non H') ∧ ∀ u, t.rwt on p = some u → ∀ (x : V) (H' : Hp), TA K H' x u → Same H H' → Q x H'
def spFits (K : PySem.W.Frag) : Sp := fun vs H Q _ => ∃ (v : V) (t : Tree) (top : Int), vs = [v, .int top] ∧ TA K H v t ∧ t.dp ≤ 8 ∧ (∀ H', Same H H' → (t.sz : Int) ≤ top → t.dp ≤ 6 → Q (.bl true) H') ∧ ∀ H', Same H H' → Q (.bl false) H'
def StepAt (K : PySem.W.Frag) (H : Hp) (t : Tree) (v : V) : Prop := ∃ (q : Addr) (p : List Bool) (on : Bool) (t' : Tree), v = .ref q ∧ SqT K H q [.str (ptx p), .bl on] ∧ t.rwt on p = some t'
theorem StepAt.tp {K : PySem.W.Frag} {H H' : Hp} {t : Tree} {v : V} (e : Tp H H') (h : StepAt K H t v) : StepAt K H' t v := by
  obtain ⟨q, p, on, t', h1, h2, h3⟩ := h
  exact ⟨q, p, on, t', h1, e.sqT h2, h3⟩
def spStps (K : PySem.W.Frag) : Sp := fun vs H Q _ => ∃ (v : V) (t : Tree), vs = [v] ∧ TA K H v t ∧ t.dp ≤ 8 ∧ t.nodes ≤ 400 ∧ ∀ (l : Addr) (xs : List V) (H' : Hp), Same H H' → H l = none → H' l = some (.lst xs) → xs.length ≤ 1000 → (∀ x ∈ xs, StepAt K H' t x) → Q (.ref l) H'
def spRwd (K : PySem.W.Frag) : Sp := fun vs H Q _ => ∃ (r c : Addr) (v : V) (t : Tree) (turns top : Int), vs = [.ref r, v, .int turns, .int top] ∧ RngC H r c ∧ TA K H v t ∧ t.dp ≤ 6 ∧ t.sz ≤ 12 ∧ 0 ≤ turns ∧ turns ≤ 1000 ∧ top ≤ 12 ∧
  ∀ (x : V) (t' : Tree) (H' : Hp), TA K H' x t' → Stp t t' → t'.dp ≤ 6 → t'.sz ≤ 12 → (t' = t ∨ (t'.sz : Int) ≤ top) → RngC H' r c → But r H H' → Q x H'
theorem Tree.dp_sz : ∀ t : Tree, t.dp + 1 ≤ t.sz
  | .L => Nat.le_refl _
  | .N l r => by
    have h1 := Tree.dp_sz l
    have h2 := Tree.dp_sz r
    show max l.dp r.dp + 1 + 1 ≤ l.sz + r.sz
    omega
/-! ### a written tuple, by what it is -/
def tMkD (K : PySem.W.Frag) (d : PyData) : TE := fun σ H Q => ∀ v H', Same H H' → Dp K H' v d → Q v H'
theorem pe_mk {X : Cx} {e : Expr} {te : TE} {d : PyData} (h : PE X e te) (m : Mk X.K te d) : PE X e (tMkD X.K d) := ⟨fun pins s σ H Q I q => h.run pins s σ H Q I (m σ H Q q)⟩
/-! ### defs that let out exceptions whose context may stand on the ground -/
section OKC
open PySem.Spec PyProof.Rows
theorem Fun.okC {P : Program} {w : World} {K : PySem.W.Frag} {mg : Str → Option Value} {base : Heap} {x qual : Str} {st : Stmt} {f : Addr} {fd : FuncData} {N ps : List Str} {k : Nat} {sp : Sp} (F : L2.Fun K x qual st f fd) (S : FnScope N ps (defScope st)) (len : ∀ vs H Q E, sp vs H Q E → vs.length = ps.length)
    (hbody : ∀ (cdv : Value) (A : Around) (outer : List Env) (s : Shared) (H : Hp) (vs : List V) (Q : VK) (E : XK), Room k (A.deeper (PyProof.Rows.envOfC qual (defScope st) s.heap.objs.size f cdv)) → sp vs H Q E →
      ∃ t, PSs (cxOf (L2C.CX P w) P w K mg base N qual (defScope st) f cdv A outer s H E) (defBody st) t ∧ t { nx := fun _ H' => Q .non H', rt := Q } (L2.start N vs) H) : FnOk P w K mg base (L2C.CX P w) (k + 1) f fd ps sp := by
  obtain ⟨oc, od, kV, doc, pm, an, cdv, ct, osl, rfl, lk, hcd⟩ := F.ex
  exact fn_of lk hcd S len fun A outer s H vs Q E hr hsp => hbody cdv A outer s H vs Q E hr hsp
section
variable {P : Program} {w : World} {K : PySem.W.Frag} {mg : Str → Option Value} {base : Heap} {N : List Str} {q : Str} {sc : Scope} {f : Addr} {cdv : Value} {A : Around} {outer : List Env} {s : Shared} {H : Hp} {E : XK}
theorem passDC : Passes (L2N.CX P w) (cxOf (L2C.CX P w) P w K mg base N q sc f cdv A outer s H E) E := L2C.passesN (X := cxOf (L2C.CX P w) P w K mg base N q sc f cdv A outer s H E) (L2C.takes_of rfl rfl rfl rfl)
theorem passDCC : Passes (L2C.CX P w) (cxOf (L2C.CX P w) P w K mg base N q sc f cdv A outer s H E) E := L2C.passes (X := cxOf (L2C.CX P w) P w K mg base N q sc f cdv A outer s H E) (L2C.takes_of rfl rfl rfl rfl)
end
theorem passC0 {X : Cx} : Passes (L2C.CX X.prog X.w) X (fun _ _ _ => False) := fun _ _ _ _ _ _ _ ⟨_, _, _, _, _, _, _, _, _, _, _, _, z⟩ => z.elim
theorem passAt {X : Cx} {W : WX} (tk : L2N.Takes X W) : ∀ σ, PassesAt (L2N.CX X.prog X.w) X σ (fun cls d H => W cls d σ H) := fun σ pins H s e s' I c => tk e s' (L2N.XE.of_call I (fun _ _ _ h => h) c)
/-- C(v): the error and its field -/
theorem out_core {H : Hp} {E : XK} {C : Addr} {fld : Str} {okv : V → Prop} {v : V} (ok : okv v) (q : ∀ (e : Addr) (H' : Hp), Same H H' → H e = none → H' e = some (.xd [(fld, v)]) → E (.ref C) (some e) H') : [v].length ≤ 1000 ∧ ∀ a, H a = none → spS C fld okv (.ref a :: ([v] ++ [])) (upd H a (exo a C none))
    (fun v H2 => v = .non ∧ ∃ (d : Addr) (fs : List (Str × V)), H2 a = some (exo a C (some d)) ∧ H2 d = some (exd d fs) ∧ H d = none ∧ E (.ref C) (some d) (upd (del H2 a) d (.xd fs))) (fun _ _ _ => False) := by
  refine ⟨(by show 1 ≤ 1000; omega), fun a na => ⟨a, v, rfl, upd_same, ok, fun dx' ndx ne => ?_⟩⟩
  rw [upd_ne ne] at ndx
  refine ⟨rfl, dx', _, upd_same, (upd_ne ne).trans upd_same, ndx, ?_⟩
  refine q dx' _ (fun b o hb' => ?_) ndx upd_same
  have ba : b ≠ a := ne_of_none hb' na
  have bd : b ≠ dx' := ne_of_none hb' ndx
  rw [upd_ne bd, del_ne ba, upd_ne ba, upd_ne bd, upd_ne ba]
  exact hb'
theorem out_own {σ : L2.St} {H : Hp} {E : XK} {C : Addr} {fld : Str} {okv : V → Prop} {v : V} {i : Nat} (hv : σ[i]? = some (some v)) (ok : okv v) (q : ∀ (e : Addr) (H' : Hp), Same H H' → H e = none → H' e = some (.xd [(fld, v)]) → E (.ref C) (some e) H') : tMkO C (spS C fld okv) [] (tCons (tVar i) tNil) σ H (fun cls d H' => E cls d H') := ⟨_, hv, out_core ok q⟩
end OKC
/-! ### try: .. except (A, B): a suite that raises out -/
section TRYSEL
open PySem PySem.Spec PyProof.Rows L2 HotX L2H
theorem fly_push {B h h' : Heap} {l : List Env} {a : Addr} {Z : Obj → Prop} (k : ∀ b o, h.get? b = some o → h'.get? b = some o) (x : HandSPX.FlyingZ B l a Z h) : HandSPX.FlyingZ B l a Z h' := by
  obtain ⟨x1, x2, x3, oe, vs, T, oT, ts, e1, z, d1, f1, nb, ne, e2, d2, f2⟩ := x
  exact ⟨fun b o q => k b o (x1 b o q), x2, Heap.FunFrames.of_keeps (fun b o q _ => ⟨o, k b o q, rfl⟩) x3, oe, vs, T, oT, ts, k _ _ e1, z, d1, f1, nb, ne, k _ _ e2, d2, f2⟩
/-- the clause's test, asked of an exception of a class -/
def SelT (X : Cx) (te : Expr) (m : Value → Option Bool) : Prop := ∀ (a : Addr) (oe : Obj) (pn pins : List (Addr × Obj)) (σ : L2.St) (H : Hp) (s : Shared) (cls : Value) (b : Bool) (Q : Bool → Shared → Prop) (E : Value → Shared → Prop),
  Inv (X.suite a ((a, oe) :: pn)) pins σ H s → X.K.In s.heap → PySem.W.Looks (model X.prog X.w) s.heap (typeOf (.ref a)) cls → m cls = some b → (∀ h', (∀ q o, s.heap.get? q = some o → h'.get? q = some o) → Q b { s with heap := h' }) →
  wpAny (model X.prog X.w) (X.A.mark (some (.ref a))) (eval te X.env) (fun c s1 => wpAny (model X.prog X.w) (X.A.mark (some (.ref a))) (excMatches (.ref a) c) Q E s1) E s
theorem sel_name {X : Cx} {a : Addr} {oe : Obj} {pn pins : List (Addr × Obj)} {σ : L2.St} {H : Hp} {s : Shared} {x : Str} {np : Pos} {c : Value} {Q E : Value → Shared → Prop} (hc : Names X x c) (I : Inv (X.suite a ((a, oe) :: pn)) pins σ H s) (q : Q c s) :
    wpAny (model X.prog X.w) (X.A.mark (some (.ref a))) (eval (.Name x np) X.env) Q E s := by
  obtain ⟨g, db, hm | ⟨hm, hv, hn⟩⟩ := hc
  · exact ld_glob I g hm q db
  · exact ld_blt I g hm hv q hn db
theorem sel_tup2 {X : Cx} {x1 x2 : Str} {c1 c2 : Value} {p1 p2 tp : Pos} {kk : Nat} (n1 : Names X x1 c1) (n2 : Names X x2 c2) : SelT X (.Tuple [.Name x1 p1, .Name x2 p2] kk tp) fun cls => PySem.W.exmAny X.K cls [c1, c2] := by
  intro a oe pn pins σ H s cls b Q E I KI LT hm q
  refine wpAny_Tuple (wpAny_items_cons (sel_name n1 I (wpAny_items_cons (sel_name n2 I (wpAny_items_nil ⟨by size_fits, ?_⟩)))))
  have k : ∀ z o, s.heap.get? z = some o → (s.heap.push { cls := .type "tuple", data := .seq [c1, c2].toArray }).get? z = some o := fun _ _ => Heap.get?_push_of_some _
  exact (PySem.W.exm_tup2 (KI.keeps k) (LT.keeps k) (Heap.get?_push_size s.heap rfl) hm).here (q _ k)
theorem sel_tup3 {X : Cx} {x1 x2 x3 : Str} {c1 c2 c3 : Value} {p1 p2 p3 tp : Pos} {kk : Nat} (n1 : Names X x1 c1) (n2 : Names X x2 c2) (n3 : Names X x3 c3) : SelT X (.Tuple [.Name x1 p1, .Name x2 p2, .Name x3 p3] kk tp) fun cls => PySem.W.exmAny X.K cls [c1, c2, c3] := by
  intro a oe pn pins σ H s cls b Q E I KI LT hm q
  refine wpAny_Tuple (wpAny_items_cons (sel_name n1 I (wpAny_items_cons (sel_name n2 I (wpAny_items_cons (sel_name n3 I (wpAny_items_nil ⟨by size_fits, ?_⟩)))))))
  have k : ∀ z o, s.heap.get? z = some o → (s.heap.push { cls := .type "tuple", data := .seq [c1, c2, c3].toArray }).get? z = some o := fun _ _ => Heap.get?_push_of_some _
  exact (PySem.W.exm_tup3 (KI.keeps k) (LT.keeps k) (Heap.get?_push_size s.heap rfl) hm).here (q _ k)
/-- what such a clause wishes of an exception of the body -/
def wSel (m : Value → Option Bool) (ts : Addr → Value → Option Addr → TS) (Wout : WX) (D : Ends) : WX := fun cls d σ H => ∃ b, m cls = some b ∧ (b = true → ∀ a, H a = none → ts a cls d D σ H) ∧ (b = false → Wout cls d σ H)
theorem ps_try_sel {X : Cx} {te : Expr} {m : Value → Option Bool} {body suite : List Stmt} {b₀ : Stmt} {pos pos' : Pos} {tb : WX → TS} {ts : Addr → Value → Option Addr → TS} {Wout : WX} (hs : X.stack = X.env :: X.outer) (hf : X.env.frame = some X.env.locals) (ht : SelT X te m)
    (hpa : ∀ hd : Option Value, PassesOwnAt (model X.prog X.w) (X.A.mark hd) X.A X.env X.xe) (tk : L2C.Takes X Wout)
    (hb : ∀ (W : WX) (pn : List (Addr × Obj)) (xe : Value → Shared → Prop), L2N.Takes (X.tr pn xe) W → PassesOwn (model X.prog X.w) X.A X.env xe → PSs (X.tr pn xe) body (tb W))
    (hsu : ∀ (a : Addr) (oe : Obj) (cls : Value) (d : Option Addr) (pn : List (Addr × Obj)), L2C.Takes (L2H.suiteX X a ((a, oe) :: pn)) Wout → HotC (L2H.suiteX X a ((a, oe) :: pn)) → PSs (L2H.suiteX X a ((a, oe) :: pn)) (b₀ :: suite) (ts a cls d)) :
    PS X (.Try body [.ExceptHandler (some te) none (b₀ :: suite) pos'] [] [] pos) (fun D σ H => tb (wSel m ts Wout D) D σ H) := by
  refine ⟨fun pins s σ H D I h => ?_⟩
  have ok := I.ok
  have fr : X.A.frames = some (X.env :: X.outer) := by rw [ok.frames, hs]
  refine wpAny_Try_except (wpAny_mono ((hb (wSel m ts Wout D) (X.pn ++ pins) (fun e s₁ => wpAny (model X.prog X.w) X.A (noteFrame e X.env) (fun _ s₂ => wpAny (model X.prog X.w) X.A (setFlight e none) (fun _ s₃ => wpAny (model X.prog X.w) X.A (handleBy e X.env [.ExceptHandler (some te) none (b₀ :: suite) pos']) (SP X pins D) X.xe s₃) X.xe s₂) X.xe s₁) (fun u s' xx => ?_) PassesOwn.looking).run [] s σ H D (I.toTry _) h) (fun f s1 hsp => ?_) fun e s1 he => he)
  · obtain ⟨a, B, sI, _, σ', H', cls, d, rfl, JT, nb, up, sky, na, os, ag, b, hm, hyes, hno⟩ := xx
    have J : Inv X pins σ' H' sI := JT.ofTry ok
    show wpAny (model X.prog X.w) X.A (noteFrame (.ref a) X.env) _ _ _
    refine L2N.Sky.land L2N.Zn.steady fr hf (show Sky B (X.env :: X.outer) a (L2N.Zn cls d) X.env.locals s'.heap by rw [← hs]; exact sky) fun g1 fl1 up1 => ?_
    obtain ⟨o1, w1, eo1, z1, d1⟩ := fl1.there
    have offF : ∀ {B2 h2 : Heap} {o2 : Obj} {w2 : Array Value}, h2.FunFrames B2 (X.env :: X.outer) → h2.get? a = some o2 → o2.data = .fields w2 → a ∉ frs (X.env :: X.outer) := fun ff eq dq hq => by
      obtain ⟨_, o', e', hd'⟩ := ff.mem hq
      rw [eq] at e'
      cases e'
      exact hd' _ dq
    have off := offF fl1.2.2.1 eo1 d1
    have offL : a ≠ X.env.locals := fun z => off (List.mem_filterMap.mpr ⟨X.env, List.mem_cons_self, by rw [hf, z]⟩)
    have offS : a ∉ X.fs := fun hq => by
      obtain ⟨e, he, hq⟩ := List.mem_filterMap.mp hq
      exact off (List.mem_filterMap.mpr ⟨e, List.mem_cons_of_mem _ he, hq⟩)
    have J1 : Inv X pins σ' H' { s' with heap := g1 } := J.landed nb fl1.1 (up.trans up1) os ag
    have LT : PySem.W.Looks (model X.prog X.w) g1 (typeOf (.ref a)) cls := fun A Q E s k q => wpAny_typeOf_ref (k _ _ eo1) (by rw [z1.1]; exact q)
    refine wpAny_handleBy_cons (codeAny_handlers_test (ht a o1 (X.pn ++ pins) _ _ _ _ cls b _ _ (J1.suite eo1 d1 na offL offS) J1.kIn LT hm fun g2 k2 => ?_)) (by intro q; cases q)
    have fl2 := fly_push k2 fl1
    have up2 : sI.heap.UpToSlots g2 := (up.trans up1).trans (Heap.UpToSlots.of_keeps k2)
    cases b with
    | true =>
      refine codeAny_handlers_suite (HandSPX.lands_againZ fl2 fun g3 fl3 up3 => ?_)
      obtain ⟨o3, w3, eo3, z3, d3⟩ := fl3.there
      have S3 := (J.landed (s' := { s' with heap := g3 }) nb fl3.1 (up2.trans up3) os ag).suite eo3 d3 na offL offS
      have tkS : L2C.Takes (L2H.suiteX X a ((a, o3) :: (X.pn ++ pins))) Wout := fun u4 s4 x4 => by
        obtain ⟨a4, B4, sI4, pn4, σ4, H4, cls4, d4, e4, I4, nb4, up4, sky4, na4, os4, ag4, w4⟩ := x4
        exact tk u4 s4 ⟨a4, B4, sI4, pins, σ4, H4, cls4, d4, e4, L2H.unsuiteX I4 ok, nb4, up4, sky4, na4, os4, ag4, w4⟩
      refine wpAny_mono ((hsu a o3 cls d (X.pn ++ pins) tkS ⟨(a, o3), ⟨rfl, w3, d3, z3.2.2 w3 d3⟩, List.mem_cons_self⟩).run [] _ _ H' _ (L2H.suiteX_of S3) (hyes rfl a na)) (fun f s6 hq => ?_) fun e6 s6 z => hpa (some (.ref a)) e6 s6 z
      cases f with
      | next => exact hq.elim fun σ6 y => y.elim fun H6 y => ⟨σ6, H6, L2H.unsuiteX y.1 ok, y.2⟩
      | brk => exact hq.elim fun σ6 y => y.elim fun H6 y => ⟨σ6, H6, L2H.unsuiteX y.1 ok, y.2⟩
      | cont => exact hq.elim fun σ6 y => y.elim fun H6 y => ⟨σ6, H6, L2H.unsuiteX y.1 ok, y.2⟩
      | ret u => exact hq.elim fun v6 y => y.elim fun σ6 y => y.elim fun H6 y => ⟨v6, σ6, H6, L2H.unsuiteX y.1 ok, y.2⟩
    | false =>
      show wpAny _ X.A (handleBy (.ref a) X.env []) _ _ _
      refine wpAny_handleBy_nil ?_
      have flc : HandSPX.FlyingZ B (X.env :: X.outer) a (L2C.Zx B H' cls d) g2 := ⟨fl2.1, fl2.2.1, fl2.2.2.1, L2C.traced_imp (fun o => L2C.zx_ofN) fl2.2.2.2⟩
      obtain ⟨_, _, _, oe, vs, T, oT, ts', he, hz, hd, h1, hr⟩ := id flc
      unfold PySem.passOn
      refine wpAny_bind (wpAny_field he hd h1 ?_)
      rw [if_neg (show ¬ ((Value.ref T == Value.none) = true) by simp)]
      have fin : wpAny (model X.prog X.w) X.A (setFlight (.ref a) X.env.frame) (fun _ s4 => wpAny (model X.prog X.w) X.A (throw (.ref a) : Sem Flow) (SP X pins D) X.xe s4) X.xe { s' with heap := g2 } := by
        rw [hf]
        exact HandSPX.setFlight_upZ flc fun g4 hh4 up4 => wpAny_throw (tk _ _ ⟨a, B, sI, pins, σ', H', cls, d, rfl, J, nb, up2.trans up4, .inr (.inr (by rw [hs]; exact hh4)), na, os, ag, hno rfl⟩)
      first | exact wpAny_bind (wpAny_pure (wpAny_bind fin)) | exact wpAny_bind fin
  · cases f with
    | next => exact hsp.elim fun σ6 y => y.elim fun H6 y => wpAny_execs_nil ⟨σ6, H6, y.1.ofTry ok, y.2⟩
    | brk => exact hsp.elim fun σ6 y => y.elim fun H6 y => ⟨σ6, H6, y.1.ofTry ok, y.2⟩
    | cont => exact hsp.elim fun σ6 y => y.elim fun H6 y => ⟨σ6, H6, y.1.ofTry ok, y.2⟩
    | ret u => exact hsp.elim fun v6 y => y.elim fun σ6 y => y.elim fun H6 y => ⟨v6, σ6, H6, y.1.ofTry ok, y.2⟩
/-- a new exception, its context on the ground, is in our air -/
theorem xe_newC {X : Cx} {W : WX} {pins : List (Addr × Obj)} {σ : L2.St} {H : Hp} {sI s' : Shared} {a : Addr} {oe : Obj} {vs : Array Value} {cls : Value} {d : Option Addr} (I : Inv X pins σ H sI) (k : ∀ b o, sI.heap.get? b = some o → s'.heap.get? b = some o) (fr : sI.heap.get? a = none) (he : s'.heap.get? a = some oe)
    (hcl : oe.cls = cls) (hdi : oe.dict = d) (hd : oe.data = .fields vs) (h1 : vs[1]? = some .none) (cx : HotY.Ctx2 (fun y oy => sI.heap.get? y = some oy ∧ H y = none ∧ y ∉ frs X.stack) vs[2]?) (na : H a = none) (os : s'.os = sI.os) (ag : AllBare s'.gens) (w : W cls d σ H) : L2C.XE X W (.ref a) s' := by
  have off : (PySem.W.hideAll sI.heap (frs X.stack)).get? a = none := by
    cases q : (PySem.W.hideAll sI.heap (frs X.stack)).get? a with
    | none => rfl
    | some o => exact absurd ((PySem.W.of_hideAll _ q).symm.trans fr) (by simp)
  refine ⟨a, PySem.W.hideAll sI.heap (frs X.stack), sI, pins, σ, H, cls, d, rfl, I, fun b o e m => PySem.W.hideAll_get _ e m, Heap.UpToSlots.of_keeps k, .inl ⟨fun b o e => k b o (PySem.W.of_hideAll _ e), off, ?_, oe, vs, he, ⟨hcl, hdi, fun vs2 e2 => ?_⟩, hd, h1⟩, na, os, ag, w⟩
  · exact Heap.FunFrames.of_keeps (fun b o e _ => ⟨o, k b o e, rfl⟩) (funFrames_none I.stack fun b m => PySem.W.hideAll_none _ m)
  · rw [hd] at e2
    cases e2
    exact cx.imp fun y oy z _ => ⟨PySem.W.hideAll_get _ z.1 z.2.2, z.2.1⟩
/-- raise X(..) from None in an except suite: the handled one becomes its context -/
theorem ps_raiseHC {X : Cx} {W : WX} {e : Expr} {t : L2.St → Hp → XK → Prop} {j : Nat} {cpos pos : Pos} (hc : HotC X) (tk : L2C.Takes X W) (he : PMk5 X e t) :
    PS X (.Raise (some e) (some (.Constant .none j cpos)) pos) (fun _ σ H => t σ H fun cls d H' => W cls d σ H') := by
  refine ⟨fun pins s σ H D I h => ?_⟩
  obtain ⟨p, ⟨ph, pv, pe, pc⟩, pm⟩ := hc
  show wpAny _ _ (do standAt pos; raiseStmt X.env (some (do let v ← eval e X.env; standAt pos; pure v)) (some (do let v ← eval (.Constant .none j cpos) X.env; standAt pos; pure v))) _ _ _
  refine wpAny_bind (wpAny_standAt (raise_made_hotN (x1 := p.1) (fun s2 Q2 q2 => wpAny_bind (Constant_none (wpAny_bind (wpAny_standAt (wpAny_pure q2))))) (wpAny_bind (wpAny_mono (he pins s σ H _ I h) (fun u s1 hu => wpAny_bind (wpAny_standAt (wpAny_pure ?_))) fun _ _ x => x))))
  obtain ⟨⟨a, oe, vs, sI, H', cls, d, rfl, J, k, fr, ha, hz, hd, h1, na, os, ag, r, q⟩, six⟩ := hu
  have big : 4 < vs.size := six a oe vs rfl ha hd
  have ne : ∀ {b u}, sI.heap.get? b = some u → a ≠ b := fun z y => by
    rw [← y, fr] at z
    cases z
  have kN : ∀ b u, sI.heap.get? b = some u → (noneFrom s1.heap a).get? b = some u := fun b u z => (noneFrom_other (ne z)).trans (k b u z)
  obtain ⟨p1, p2, p3, p4, _⟩ := J.pin p (List.mem_append_left _ pm)
  obtain ⟨aN, dN⟩ := noneFrom_at ha hd
  have rD := Obj.data_mapFields dN (·.setIfInBounds 2 (Value.ref p.1))
  have c1 : (((vs.setIfInBounds 3 Value.none).setIfInBounds 4 (Value.bool true)).setIfInBounds 2 (Value.ref p.1))[1]? = some Value.none := set_other (by decide) (set_other (by decide) (set_other (by decide) h1))
  have c2 : (((vs.setIfInBounds 3 Value.none).setIfInBounds 4 (Value.bool true)).setIfInBounds 2 (Value.ref p.1))[2]? = some (Value.ref p.1) := by
    rw [Array.getElem?_setIfInBounds_self_of_lt (by rw [set_size, set_size]; omega)]
  refine ⟨a, oe, vs, cls, rfl, ha, hz.1, hd, h1, big, (ne p1).symm, ⟨ph, p.2, pv, k _ _ p1, pe, pc⟩, (r (model X.prog X.w) s1.heap (J.kIn.keeps k)).1, (r (model X.prog X.w) (noneFrom s1.heap a) (J.kIn.keeps kN)).2, tk _ _ (xe_newC J (fun b u z => ?_) fr (Heap.get?_update_self _ aN (Obj.isFreed_of_fields rD)) ?_ ?_ rD c1 (.inr ⟨p.1, p.2, pv, c2, ⟨p1, p2, fun z => (List.mem_cons.mp (J.stkSub p.1 z)).elim p3 p4⟩, pe, pc⟩) na os ag q)⟩
  · show ((noneFrom s1.heap a).update a (Obj.mapFields (·.setIfInBounds 2 (.ref p.1)))).get? b = some u
    rw [Heap.get?_update_other _ _ (ne z)]
    exact kN b u z
  · rw [Obj.cls_mapFields, Obj.cls_mapFields, Obj.cls_mapFields]
    exact hz.1
  · rw [HandSPX.dict_mapFields, HandSPX.dict_mapFields, HandSPX.dict_mapFields]
    exact hz.2.1
end TRYSEL
/-! ### compare with a bound on the moves -/
theorem rmM_wo : ∀ (at_ f : Int) (l : List Int), (rmM at_ f l).length ≤ (wo f l).length + 1
  | at_, f, [] => by show 1 ≤ 0 + 1; decide
  | at_, f, x :: l => by
    rw [wo_cons, List.length_append]
    unfold rmM
    split
    · have ih := rmM_wo (at_ + 3) f l
      show (rmM (at_ + 3) f l).length + 1 + 1 ≤ 3 + (wo f l).length + 1
      omega
    · have ih := rmM_wo (at_ + 1) f l
      show (rmM (at_ + 1) f l).length + 1 ≤ 1 + (wo f l).length + 1
      omega
theorem mvsF_skip {k : Nat} {dn t : List Int} {a : Int} (h : hsv a dn = -1) : mvsF k dn (a :: t) = mvsF k (a :: dn) t := by
  cases k with
  | zero => rfl
  | succ k =>
    have e : fhS dn (a :: t) = fhS (a :: dn) t := by
      show (if 0 ≤ hsv a dn then _ else _) = _
      rw [if_neg (by omega)]
    unfold mvsF
    rw [e]
theorem mvsF_take {k : Nat} {m r t : List Int} {a : Int} (h : hsv a (m ++ (-a) :: r) = r.length) : mvsF (k + 1) (m ++ (-a) :: r) (a :: t) = rmM (r.length : Nat) (-a) m.reverse ++ mvsF k r (wo (-a) m.reverse ++ t) := by
  have e : fhS (m ++ (-a) :: r) (a :: t) = some (m.reverse.reverse ++ (-a) :: r, a, t) := by
    rw [List.reverse_reverse]
    show (if 0 ≤ hsv a (m ++ (-a) :: r) then _ else _) = _
    rw [if_pos (by omega)]
  exact (step_eq (inner := m.reverse) e (by rw [List.reverse_reverse, h, Int.toNat_natCast]) k).1
theorem red5_mv : ∀ {n m : Nat} {dn wt : List Int} {r : List Nat}, (∀ x ∈ dn, x ≠ 0) → (∀ x ∈ wt, x ≠ 0) → dn.length + wt.length = m → m ≤ 1000 → red5 n m (dn.map cod) (wt.map cod) = some r → ∃ (r' : List Int) (k : Nat), k ≤ n ∧ redF k dn wt = some r' ∧ r = r'.map cod ∧ (mvsF k dn wt).length + wt.length ≤ 2 * n
  | 0, _, _, _, _, _, _, _, _, h => by cases h
  | n + 1, m, dn, [], r, h1, _, hm, hl, h => by
    have h : some (dn.map cod).reverse = some r := h
    cases h
    have hm : dn.length + 0 = m := hm
    refine ⟨dn.reverse, 1, by omega, ?_, by rw [List.map_reverse], ?_⟩
    · show (if dn.length + 0 ≤ 1000 then _ else none) = _
      rw [if_pos (by omega)]
      show some (dn.reverse ++ []) = _
      rw [List.append_nil]
    · show ([] : List (Str × List Int)).length + 0 ≤ _
      exact Nat.zero_le _
  | n + 1, m, dn, a :: t, r, h1, h2, hm, hl, h => by
    have ha := h2 a List.mem_cons_self
    have ht : ∀ x ∈ t, x ≠ 0 := fun x hx => h2 x (List.mem_cons_of_mem _ hx)
    have hs := spl5_ok ha (acc := []) h1
    have h : (Option.rec (motive := fun _ => Option (List Nat)) (red5 n m (cod a :: dn.map cod) (t.map cod))
      (fun p => Bool.rec none (red5 n (m + 2 * (cnt5 (flp (cod a) + 2) (cod a + 2) p.1) - 2) p.2 (wo5 (flp (cod a)) (cod a) (flp (cod a) + 2) (cod a + 2) p.1 (t.map cod))) (Nat.ble (m + 2 * (cnt5 (flp (cod a) + 2) (cod a + 2) p.1) - 2) 900))
      (spl5 (flp (cod a)) (cod a) (lo1 (cod a)) (lo2 (cod a)) (dn.map cod) []) : Option (List Nat)) = some r := h
    have hs : spl5 (flp (cod a)) (cod a) (lo1 (cod a)) (lo2 (cod a)) (dn.map cod) [] = (spl a dn []).map fun p => (p.1.map cod, p.2.map cod) := hs
    rw [hs] at h
    cases e : spl a dn [] with
    | none =>
      rw [e] at h
      have h : red5 n m ((a :: dn).map cod) (t.map cod) = some r := h
      obtain ⟨r', k, hk, hr, er, hc⟩ := red5_mv (fun x hx => (List.mem_cons.mp hx).elim (fun z => by rw [z]; exact ha) (h1 x)) ht (by rw [List.length_cons] at hm ⊢; omega) hl h
      refine ⟨r', k, by omega, by rw [redF_skip (spl_none e)]; exact hr, er, ?_⟩
      rw [mvsF_skip (spl_none e), List.length_cons]
      omega
    | some p =>
      obtain ⟨inner, r0⟩ := p
      rw [e] at h
      obtain ⟨g1, mm, g2, g3⟩ := spl_some e
      subst g2
      rw [List.append_nil] at g3
      subst g3
      have hin : ∀ x ∈ mm.reverse, x ≠ 0 := fun x hx => h1 x (List.mem_append_left _ (List.mem_reverse.mp hx))
      have hr0 : ∀ x ∈ r0, x ≠ 0 := fun x hx => h1 x (List.mem_append_right _ (List.mem_cons_of_mem _ hx))
      have hna : -a ≠ 0 := by omega
      have ew := wo5_ok hna (t := t) hin
      rw [Int.neg_neg, cod_neg ha] at ew
      have ec := cnt5_ok (flp (cod a)) (cod a) (flp (cod a) + 2) (cod a + 2) (t.map cod) (mm.reverse.map cod)
      rw [ew] at ec
      have h : (Bool.rec none (red5 n (m + 2 * (cnt5 (flp (cod a) + 2) (cod a + 2) (mm.reverse.map cod)) - 2) (r0.map cod) (wo5 (flp (cod a)) (cod a) (flp (cod a) + 2) (cod a + 2) (mm.reverse.map cod) (t.map cod))) (Nat.ble (m + 2 * (cnt5 (flp (cod a) + 2) (cod a + 2) (mm.reverse.map cod)) - 2) 900) : Option (List Nat)) = some r := h
      rw [ew, brec] at h
      split at h
      · rename_i c
        have c := Nat.le_of_ble_eq_true c
        rw [List.length_map, List.length_map, List.length_map, List.length_reverse] at ec
        rw [List.length_append, List.length_cons, List.length_cons] at hm
        have hlen : r0.length + (wo (-a) mm.reverse ++ t).length = m + 2 * (cnt5 (flp (cod a) + 2) (cod a + 2) (mm.reverse.map cod)) - 2 := by omega
        obtain ⟨r', k, hk, hr, er, hc⟩ := red5_mv hr0 (fun x hx => (List.mem_append.mp hx).elim (wo_nz hna hin x) (ht x)) hlen (by omega) h
        refine ⟨r', k + 1, by omega, ?_, er, ?_⟩
        · rw [redF_take g1 (by rw [List.length_append, List.length_cons, List.length_cons]; omega)]
          exact hr
        · have h1 := rmM_wo (r0.length : Nat) (-a) mm.reverse
          rw [List.length_append] at hc
          rw [mvsF_take g1, List.length_append, List.length_cons]
          omega
      · cases h
noncomputable def cmpV (w : List Nat) : Nat := Bool.rec 3 (Option.rec (motive := fun _ => Nat) 3 (fun r => Bool.rec (Bool.rec (Bool.rec 3 2 (and (hasN 3 r) (not (hasN 2 r)))) 1 (and (hasN 2 r) (not (hasN 3 r)))) 0 (List.isEmpty r)) (red5 190 (lenN w) [] w)) (Nat.ble (lenN w) 100)
noncomputable def cmpM (x y : Tree) : Nat := cmpV (jwN x y)
theorem cmpM_r {x y : Tree} (h : cmpM x y < 3) : ∃ (r : List Int) (k : Nat), k ≤ 190 ∧ redF k [] (jw x y) = some r ∧ (mvsF k [] (jw x y)).length + (jw x y).length ≤ 380 ∧ (jw x y).length ≤ 100 ∧ shV r = .str (nmC (cmpM x y)) ∧ (r = [] ↔ cmpM x y = 0) := by
  unfold cmpM cmpV at h ⊢
  rw [brec] at h ⊢
  split at h
  · rename_i c
    have c := Nat.le_of_ble_eq_true c
    rw [if_pos (by rw [Nat.ble_eq]; exact c)] at ⊢
    rw [lenN_eq, jwN_eq] at *
    cases e : red5 190 ((jw x y).map cod).length [] ((jw x y).map cod) with
    | none =>
      rw [e] at h
      exact absurd h (by decide)
    | some r0 =>
      rw [e] at h
      rw [List.length_map] at e c
      obtain ⟨r, k, hk, hr, rfl, hc⟩ := red5_mv (dn := []) (wt := jw x y) (fun _ z => (nomatch z)) (jw_nz x y) (by rw [List.length_nil]; omega) (by omega) e
      refine ⟨r, k, hk, hr, by omega, by omega, ?_⟩
      have h2 : hasN 2 (r.map cod) = r.contains 1 := hasN_eq 1 r
      have h3 : hasN 3 (r.map cod) = r.contains (-1) := by
        have e3 : cod (-1) = 3 := by decide
        rw [← e3]
        exact hasN_eq (-1) r
      dsimp only at h ⊢
      rw [h2, h3, brec, brec, brec] at h ⊢
      have ee : (r.map cod).isEmpty = r.isEmpty := by cases r <;> rfl
      rw [ee] at h ⊢
      unfold shV
      by_cases c1 : r.isEmpty = true
      · rw [if_pos (List.isEmpty_iff.mp c1), if_pos c1]
        exact ⟨rfl, fun _ => rfl, fun _ => List.isEmpty_iff.mp c1⟩
      have c1' : r ≠ [] := fun z => c1 (List.isEmpty_iff.mpr z)
      rw [if_neg c1'] at ⊢
      rw [if_neg c1] at h ⊢
      by_cases c2 : (r.contains 1 && !r.contains (-1)) = true
      · have c2' : lessR r = true := c2
        rw [if_pos c2', if_pos c2]
        exact ⟨rfl, fun z => absurd z c1', fun z => absurd z (by decide)⟩
      have c2' : ¬ lessR r = true := c2
      rw [if_neg c2', if_neg c2]
      rw [if_neg c2] at h
      by_cases c3 : (r.contains (-1) && !r.contains 1) = true
      · have c3' : grR r = true := c3
        rw [if_pos c3', if_pos c3]
        exact ⟨rfl, fun z => absurd z c1', fun z => absurd z (by decide)⟩
      · rw [if_neg c3] at h
        exact absurd h (by decide)
  · exact absurd h (by decide)
/-! ### promises: certificate, check_certificate -/
theorem jw_okW {a b : Tree} (ha : a.dp ≤ 6) (hb : b.dp ≤ 6) (hl : (jw a b).length ≤ 300) : okW (jw a b) = true :=
  okW_of (m := 6) (by decide) (Lets.app ((wd_lets a).inv.mono (by omega)) ((wd_lets b).mono (by omega))) hl
def spCert (K : PySem.W.Frag) : Sp := fun vs H Q _ => ∃ (x y : V) (a b : Tree) (r : List Int) (k : Nat), vs = [x, y] ∧ TA K H x a ∧ TA K H y b ∧ a.sz ≤ 12 ∧ a.dp ≤ 6 ∧ b.sz ≤ 12 ∧ b.dp ≤ 6 ∧ k ≤ 1000 ∧ redF k [] (jw a b) = some r ∧ (jw a b).length ≤ 300 ∧
  ∀ (q m l : Addr) (us : List V) (H' : Hp), SqT K H' q [shV r, .ref m, .ref l] → H' m = some (.lst us) → MvTs K H' us (mvsF k [] (jw a b)) → WT K H' l r → Same H H' → Q (.ref q) H'
/-- what check_certificate says -/
def ckD (a b : Tree) (w : Str) (ms : List (Str × List Int)) (last : List Int) : Bool := match runX ms 0 (jw a b) with
  | .ok r => decide (r = last) && decide (V.str w = shV last)
  | .error _ => false
def spCkC (K : PySem.W.Frag) : Sp := fun vs H Q _ => ∃ (x y : V) (a b : Tree) (q m l : Addr) (w : Str) (us : List V) (ms : List (Str × List Int)) (last : List Int), vs = [x, y, .ref q] ∧ TA K H x a ∧ TA K H y b ∧ a.sz ≤ 12 ∧ a.dp ≤ 6 ∧ b.sz ≤ 12 ∧ b.dp ≤ 6 ∧ (jw a b).length ≤ 300 ∧
  SqT K H q [.str w, .ref m, .ref l] ∧ (SqL K H m us ∨ SqT K H m us) ∧ MvTs K H us ms ∧ us.length ≤ 1000 ∧ runA ms (jw a b) ∧ WT K H l last ∧ ∀ H', Same H H' → Q (.bl (ckD a b w ms last)) H'
theorem sel_one {X : Cx} {x : Str} {np : Pos} {c : Value} (n : Names X x c) : SelT X (.Name x np) fun cls => PySem.W.exmOne X.K cls c := by
  intro a oe pn pins σ H s cls b Q E I KI LT hm q
  exact sel_name n I ((PySem.W.exm_one KI LT hm).here (q _ fun _ _ z => z))
theorem wD_eqv : ∀ (r s : List Int), (wD r).eqv (wD s) = decide (r = s)
  | [], [] => rfl
  | [], _ :: _ => rfl
  | _ :: _, [] => rfl
  | a :: r, b :: s => by
    have ih := wD_eqv r s
    have e1 : (wD (a :: r)).eqv (wD (b :: s)) = ((PyData.int a).eqv (.int b) && (wD r).eqv (wD s)) := rfl
    have e2 : (PyData.int a).eqv (.int b) = decide (a = b) := rfl
    rw [e1, e2, ih, Bool.eq_iff_iff, Bool.and_eq_true, decide_eq_true_iff, decide_eq_true_iff, decide_eq_true_iff]
    constructor
    · rintro ⟨rfl, rfl⟩; rfl
    · intro h; cases h; exact ⟨rfl, rfl⟩
theorem runA_len : ∀ {ms : List (Str × List Int)} {ns r : List Int} {j : Nat}, runA ms ns → runX ms j ns = .ok r → r.length ≤ 900
  | [], ns, r, _, h, e => by
    have e : Except.ok ns = Except.ok r := e
    cases e
    exact h
  | m :: ms, ns, r, j, h, e => by
    have h : ns.length ≤ 900 ∧ (m.2.length ≤ 2) ∧ ∀ r, mvX m.1 m.2 ns = some r → runA ms r := h
    unfold runX at e
    split at e
    · cases e
    · rename_i x hx
      exact runA_len (h.2.2 x hx) e
/-! ### the law's side -/
def spLApX (K : PySem.W.Frag) : Sp := fun vs H Q _ => ∃ (a b : Addr) (ns : List Int) (us : List V) (ms : List (Str × List Int)), vs = [.ref a, .ref b] ∧ WT K H a ns ∧ H b = some (.lst us) ∧ MvTs K H us ms ∧ (∀ m ∈ ms, m.2.length ≤ 2) ∧ us.length ≤ 1000 ∧ ns.length + 2 * ms.length ≤ 900 ∧
  (∀ r, runX ms 0 ns = .ok r → ∀ p H', WT K H' p r → Same H H' → Q (.ref p) H') ∧ (∀ j, runX ms 0 ns = .error j → ∀ H', Same H H' → Q .non H')
def spLChk (K : PySem.W.Frag) : Sp := fun vs H Q _ => ∃ (x y : V) (a b : Tree) (q m l : Addr) (w : Str) (us : List V) (ms : List (Str × List Int)) (last : List Int), vs = [x, y, .ref q] ∧ TA K H x a ∧ TA K H y b ∧ a.sz ≤ 12 ∧ a.dp ≤ 6 ∧ b.sz ≤ 12 ∧ b.dp ≤ 6 ∧
  SqT K H q [.str w, .ref m, .ref l] ∧ H m = some (.lst us) ∧ MvTs K H us ms ∧ (∀ z ∈ ms, z.2.length ≤ 2) ∧ us.length ≤ 1000 ∧ (jw a b).length + 2 * ms.length ≤ 900 ∧ WT K H l last ∧ ∀ H', Same H H' → Q (.bl (ckD a b w ms last)) H'
/-- what the law makes of a certificate -/
def spAlt (K : PySem.W.Frag) : Sp := fun vs H Q _ => ∃ (r c t m l : Addr) (w : Str) (us : List V) (ms : List (Str × List Int)) (last : List Int), vs = [.ref r, .ref t] ∧ RngC H r c ∧ SqT K H t [.str w, .ref m, .ref l] ∧ H m = some (.lst us) ∧ m ≠ r ∧ MvTs K H us ms ∧ (∀ z ∈ ms, MvOk z) ∧ us.length ≤ 400 ∧ WT K H l last ∧ last.length ≤ 1000 ∧
  ∀ (q m2 l2 : Addr) (w2 : Str) (us2 : List V) (ms2 : List (Str × List Int)) (last2 : List Int) (H' : Hp), SqT K H' q [.str w2, .ref m2, .ref l2] → H' m2 = some (.lst us2) → m2 ≠ r → MvTs K H' us2 ms2 → (∀ z ∈ ms2, MvOk z) → us2.length ≤ us.length + 2 → WT K H' l2 last2 → RngC H' r c → But r H H' → Q (.ref q) H'
theorem shV_equal (l : List Int) : decide (V.str "equal" = shV l) = decide (((l.length : Nat) : Int) = 0) := by
  unfold shV
  cases l with
  | nil => rfl
  | cons a t =>
    rw [if_neg (by intro z; cases z), decide_eq_false (show ¬ (((a :: t).length : Nat) : Int) = 0 by rw [List.length_cons]; omega)]
    (repeat' split) <;> decide
theorem shV_less (l : List Int) : decide (V.str "less" = shV l) = lessR l := by
  unfold shV
  cases l with
  | nil => rfl
  | cons a t =>
    rw [if_neg (by intro z; cases z)]
    cases e : lessR (a :: t) with
    | true => rfl
    | false => (repeat' split) <;> first | decide | contradiction
theorem shV_great (l : List Int) : decide (V.str "greater" = shV l) = grR l := by
  unfold shV
  cases l with
  | nil => rfl
  | cons a t =>
    rw [if_neg (by intro z; cases z)]
    cases e : lessR (a :: t) with
    | true =>
      have g : grR (a :: t) = false := by
        unfold lessR at e
        unfold grR
        rw [Bool.and_eq_true] at e
        rw [e.1]
        exact Bool.and_false _
      rw [g]
      rfl
    | false =>
      cases g : grR (a :: t) with
      | true => rfl
      | false => rfl
theorem shV_other {w : Str} (l : List Int) (h1 : w ≠ "equal") (h2 : w ≠ "less") (h3 : w ≠ "greater") : decide (V.str w = shV l) = false := by
  refine decide_eq_false fun z => ?_
  unfold shV at z
  split at z
  · exact h1 (V.str.inj z)
  split at z
  · exact h2 (V.str.inj z)
  split at z
  · exact h3 (V.str.inj z)
  · cases z
theorem inV_i (x : Int) (l : List Int) : inV (V.int x) (l.map V.int) = l.contains x := by
  have e : ∀ a b : Int, eqV (V.int a) (V.int b) = decide (a = b) := fun a b => rfl
  unfold inV
  rw [List.any_map, Bool.eq_iff_iff, List.any_eq_true, List.contains_iff_mem]
  constructor
  · rintro ⟨y, hy, h⟩
    rw [← (of_decide_eq_true h : y = x)]
    exact hy
  · exact fun h => ⟨x, h, decide_eq_true rfl⟩
theorem flat_i : ∀ l : List Int, (l.map V.int).all flatV = true
  | [] => rfl
  | _ :: l => flat_i l
theorem cutV_to {xs : List V} {j : Nat} (h : j ≤ xs.length) : cutV xs none (some (j : Int)) = xs.take j := by
  unfold cutV
  have e2 : HT.sIx xs.length xs.length (some (j : Int)) = j := by rw [HT.sIx_nat]; omega
  rw [e2, HT.sIx_none, List.drop_zero, Nat.sub_zero]
theorem cutV_fr {xs : List V} {j : Nat} : cutV xs (some (j : Int)) none = xs.drop j := by
  unfold cutV
  have e1 : HT.sIx xs.length 0 (some (j : Int)) = min j xs.length := by rw [HT.sIx_nat]
  rw [e1, HT.sIx_none, List.take_of_length_le (by rw [List.length_drop]; omega)]
  rcases Nat.le_total j xs.length with z | z
  · rw [Nat.min_eq_left z]
  · rw [Nat.min_eq_right z, List.drop_length, List.drop_eq_nil_of_le z]
theorem MvTs.take {K : PySem.W.Frag} {H : Hp} {vs : List V} {ms : List (Str × List Int)} (n : Nat) (h : MvTs K H vs ms) : MvTs K H (vs.take n) (ms.take n) := by
  refine ⟨by rw [List.length_take, List.length_take, h.1], fun i v m a b => ?_⟩
  rw [List.getElem?_take] at a b
  split at a
  · rename_i z
    rw [if_pos z] at b
    exact h.2 i v m a b
  · cases a
theorem MvTs.drop {K : PySem.W.Frag} {H : Hp} {vs : List V} {ms : List (Str × List Int)} (n : Nat) (h : MvTs K H vs ms) : MvTs K H (vs.drop n) (ms.drop n) := by
  refine ⟨by rw [List.length_drop, List.length_drop, h.1], fun i v m a b => ?_⟩
  rw [List.getElem?_drop] at a b
  exact h.2 (n + i) v m a b
theorem mv_ne {K : PySem.W.Frag} {H : Hp} {r c m : Addr} {us : List V} {ms : List (Str × List Int)} (hR : RngC H r c) (hm : H m = some (.lst us)) (hM : MvTs K H us ms) : m ≠ r := fun z => by
  obtain ⟨ns, i, b, s, h1, _⟩ := hR
  rw [z, h1] at hm
  cases hm
  have hl : 1 < ms.length := by rw [← hM.1]; show 1 < 4; decide
  obtain ⟨p, e, _⟩ := hM.2 1 (.int i) _ rfl (List.getElem?_eq_getElem hl)
  cases e
theorem slL_to {K : PySem.W.Frag} {H : Hp} {m : Addr} {us : List V} {n : Nat} {Q : VK} (hm : H m = some (.lst us)) (hn : n ≤ us.length) (q : ∀ p, H p = none → Q (.ref p) (upd H p (.lst (us.take n)))) : rSlL K (.ref m) none (some (n : Int)) H Q := ⟨m, us, rfl, SqL.here hm, fun p np => by rw [cutV_to hn]; exact q p np⟩
theorem slL_fr {K : PySem.W.Frag} {H : Hp} {m : Addr} {us : List V} {n : Nat} {Q : VK} (hm : H m = some (.lst us)) (q : ∀ p, H p = none → Q (.ref p) (upd H p (.lst (us.drop n)))) : rSlL K (.ref m) (some (n : Int)) none H Q := ⟨m, us, rfl, SqL.here hm, fun p np => by rw [cutV_fr]; exact q p np⟩
theorem catL {H : Hp} {a b : Addr} {xs zs : List V} {Q : VK} (ha : H a = some (.lst xs)) (hb : H b = some (.lst zs)) (hl : xs.length + zs.length ≤ 10000) (q : ∀ p, H p = none → Q (.ref p) (upd H p (.lst (xs ++ zs)))) : rCat (.ref a) (.ref b) H Q := ⟨a, b, xs, zs, rfl, rfl, ha, hb, Nat.le_trans hl (by decide), q⟩
theorem canLay_ints : ∀ is : List Int, PyData.canLayAll0 (is.map PyData.int) = true
  | [] => rfl
  | i :: is => by
    show (PyData.canLay0 (.int i) && PyData.canLayAll0 (is.map PyData.int)) = true
    rw [canLay_ints is]
    rfl
theorem depth_intsX : ∀ is : List Int, PyData.depthAll (is.map PyData.int) ≤ 1
  | [] => Nat.zero_le _
  | i :: is => by
    have h := depth_intsX is
    have h2 : (PyData.int i).depth ≤ 1 := by first | exact Nat.le_refl _ | exact Nat.zero_le _
    show max (PyData.int i).depth (PyData.depthAll (is.map PyData.int)) ≤ 1
    omega
theorem mD_lay {m : Str × List Int} (h : MvOk m) : (mD m).canLay0 = true := by
  show (PyData.canLay0 (.str m.1) && PyData.canLayAll0 (m.2.map PyData.int)) = true
  rw [canLay_ints, show PyData.canLay0 (.str m.1) = PyData.strOk m.1 from rfl, h.2]
  rfl
theorem mD_depth (m : Str × List Int) : (mD m).depth ≤ 2 := by
  have h := depth_intsX m.2
  have h2 : (PyData.str m.1).depth ≤ 1 := by first | exact Nat.le_refl _ | exact Nat.zero_le _
  show max (PyData.str m.1).depth (PyData.depthAll (m.2.map PyData.int)) + 1 ≤ 2
  omega
def msD (ms : List (Str × List Int)) : PyData := .list (ms.map mD)
theorem msD_lay : ∀ {ms : List (Str × List Int)}, (∀ m ∈ ms, MvOk m) → PyData.canLayAll0 (ms.map mD) = true
  | [], _ => rfl
  | m :: ms, h => by
    show (PyData.canLay0 (mD m) && PyData.canLayAll0 (ms.map mD)) = true
    rw [mD_lay (h m List.mem_cons_self), msD_lay fun x hx => h x (List.mem_cons_of_mem _ hx)]
    rfl
theorem msD_dep : ∀ ms : List (Str × List Int), PyData.depthAll (ms.map mD) ≤ 2
  | [] => Nat.zero_le _
  | m :: ms => by
    have h := msD_dep ms
    have h2 := mD_depth m
    show max (mD m).depth (PyData.depthAll (ms.map mD)) ≤ 2
    omega
theorem msD_shaped {ms : List (Str × List Int)} (h : ∀ m ∈ ms, MvOk m) : SeqAt.shaped (msD ms) = true := by
  have e1 : (msD ms).canLay0 = PyData.canLayAll0 (ms.map mD) := rfl
  have e2 : (msD ms).depth = PyData.depthAll (ms.map mD) + 1 := rfl
  have e3 := msD_dep ms
  unfold SeqAt.shaped
  rw [e1, msD_lay h, decide_eq_true (by omega)]
  rfl
theorem rmM_okM : ∀ (at_ f : Int) (l : List Int), ∀ m ∈ rmM at_ f l, MvOk m
  | at_, f, [], m, hm => by
    have hm : m ∈ [((("cancel" : Str), [at_]) : Str × List Int)] := hm
    rw [List.mem_singleton.mp hm]
    exact mvOk_of (by show 1 ≤ 2; decide) (by decide +kernel)
  | at_, f, x :: l, m, hm => by
    unfold rmM at hm
    split at hm
    · rcases List.mem_cons.mp hm with rfl | hm
      · exact mvOk_of (by show 2 ≤ 2; decide) (by decide +kernel)
      rcases List.mem_cons.mp hm with rfl | hm
      · exact mvOk_of (by show 1 ≤ 2; decide) (by decide +kernel)
      · exact rmM_okM _ _ l m hm
    · rcases List.mem_cons.mp hm with rfl | hm
      · exact mvOk_of (by show 1 ≤ 2; decide) (by decide +kernel)
      · exact rmM_okM _ _ l m hm
theorem mvsF_okM : ∀ (k : Nat) (dn wt : List Int), ∀ m ∈ mvsF k dn wt, MvOk m
  | 0, _, _, m, hm => nomatch hm
  | k + 1, dn, wt, m, hm => by
    unfold mvsF at hm
    split at hm
    · nomatch hm
    · rcases List.mem_append.mp hm with hm | hm
      · exact rmM_okM _ _ _ m hm
      · exact mvsF_okM k _ _ m hm
/-! ### certificates: the pairs that the law draws, a finite check -/
def hasT (l : List Tree) (t : Tree) : Bool := l.any fun u => u.eqb t
theorem hasT_mem {l : List Tree} {t : Tree} (h : hasT l t = true) : t ∈ l := by
  obtain ⟨u, hu, e⟩ := List.any_eq_true.mp h
  rw [← Tree.eqb_eq e]
  exact hu
def nxT : Tree → List Tree
  | .L => []
  | .N l r => (Tree.N l r).ex0.toList ++ (Tree.N l r).ct0.toList ++ ((nxT l).map fun x => .N x r) ++ (nxT r).map fun x => .N l x
theorem nxT_mem : ∀ {t : Tree} {p : List Bool} {on : Bool} {u : Tree}, t.rwt on p = some u → u ∈ nxT t := fun {t p on u} h => by
  unfold Tree.rwt at h
  obtain ⟨v, h1, h⟩ := Option.bind_eq_some_iff.mp h
  obtain ⟨x, h2, h3⟩ := Option.bind_eq_some_iff.mp h
  refine Tree.rp_rel (R := fun a b => b ∈ nxT a) (fun a a' b h => ?_) (fun a b b' h => ?_) t p v x u h1 h3 ?_
  · exact List.mem_append_left _ (List.mem_append_right _ (List.mem_map.mpr ⟨a', h, rfl⟩))
  · exact List.mem_append_right _ (List.mem_map.mpr ⟨b', h, rfl⟩)
  · unfold Tree.r0 at h2
    cases v with
    | L =>
      split at h2
      · cases h2
      · cases h2
    | N l r =>
      split at h2
      · exact List.mem_append_left _ (List.mem_append_left _ (List.mem_append_left _ (by rw [h2]; exact List.mem_singleton.mpr rfl)))
      · exact List.mem_append_left _ (List.mem_append_left _ (List.mem_append_right _ (by rw [h2]; exact List.mem_singleton.mpr rfl)))
def spRwR (K : PySem.W.Frag) : Sp := fun vs H Q _ => ∃ (Rl : Tree → Prop) (r c : Addr) (v : V) (t : Tree) (turns top : Int), vs = [.ref r, v, .int turns, .int top] ∧ RngC H r c ∧ TA K H v t ∧ t.dp ≤ 6 ∧ t.sz ≤ 12 ∧ 0 ≤ turns ∧ turns ≤ 1000 ∧ top ≤ 12 ∧ Rl t ∧ (∀ (u u' : Tree) (p : List Bool) (on : Bool), Rl u → u.rwt on p = some u' → (u'.sz : Int) ≤ top → u'.dp ≤ 6 → Rl u') ∧
  ∀ (x : V) (u : Tree) (H' : Hp), TA K H' x u → Rl u → u.dp ≤ 6 → u.sz ≤ 12 → RngC H' r c → But r H H' → Q x H'
/-- a term out of its bits, least first: 1 a pair, 0 the generator -/
def decT : Nat → Nat → Tree × Nat
  | 0, n => (.L, n)
  | k + 1, n => match Nat.beq (n % 2) 0 with
    | true => (.L, n / 2)
    | false => match decT k (n / 2) with
      | (l, m) => match decT k m with
        | (r, p) => (.N l r, p)
def dT (n : Nat) : Tree := (decT 12 n).1
def fitsB (s : Nat) (t : Tree) : Bool := Nat.ble t.sz s && Nat.ble t.dp 6
theorem fitsB_of {s : Nat} {t : Tree} (h1 : t.sz ≤ s) (h2 : t.dp ≤ 6) : fitsB s t = true := by
  unfold fitsB
  rw [Nat.ble_eq.mpr h1, Nat.ble_eq.mpr h2]
  rfl
def clsd (s : Nat) (S : List Tree) : Bool := S.all fun u => (nxT u).all fun v => !fitsB s v || hasT S v
theorem clsd_of {s : Nat} {S : List Tree} (h : clsd s S = true) : ∀ (u v : Tree) (p : List Bool) (on : Bool), u ∈ S → u.rwt on p = some v → v.sz ≤ s → v.dp ≤ 6 → v ∈ S := fun u v p on hu hw hs hd => by
  have h := List.all_eq_true.mp (List.all_eq_true.mp h u hu) v (nxT_mem hw)
  rw [fitsB_of hs hd] at h
  exact hasT_mem h
def U6 : List Tree := (List.range 7).flatMap (trs 6)
theorem u6_in {t : Tree} (hz : t.sz ≤ 6) : t ∈ U6 := by
  have hd := t.dp_sz
  exact List.mem_flatMap.mpr ⟨t.sz, List.mem_range.mpr (by omega), trs_mem t 6 (by omega)⟩
def U2 : List Tree := (List.range 3).flatMap (trs 2)
theorem u2_in {t : Tree} (hz : t.sz ≤ 2) : t ∈ U2 := by
  have hd := t.dp_sz
  exact List.mem_flatMap.mpr ⟨t.sz, List.mem_range.mpr (by omega), trs_mem t 2 (by omega)⟩
noncomputable def okM (x y : Tree) : Bool := Nat.ble (cmpM x y) 2
noncomputable def ck32 (e : Nat × List Nat × List Nat) : Bool :=
  clsd 8 (dT e.1 :: e.2.1.map dT) && clsd 6 (dT e.1 :: e.2.2.map dT) && ((dT e.1 :: e.2.1.map dT).all fun u => okM (dT e.1) u) && ((dT e.1 :: e.2.2.map dT).all fun o => U2.all fun a => okM (dT e.1) (.N o a)) && (U6.all fun u => okM (dT e.1) u)
def e32_0 : Nat × List Nat × List Nat := (0, [], [])
def e32_1 : Nat × List Nat × List Nat := (1, [], [])
def e32_2 : Nat × List Nat × List Nat := (5, [19, 199], [19, 199])
def e32_3 : Nat × List Nat × List Nat := (3, [], [])
def e32_4 : Nat × List Nat × List Nat := (21, [83, 77, 1223, 307, 331, 797, 327, 4903, 3187, 1319, 1227, 3355], [83, 77, 307, 331])
def e32_5 : Nat × List Nat × List Nat := (13, [75, 2839, 295, 4495], [75, 295])
def e32_6 : Nat × List Nat × List Nat := (19, [199, 5], [199, 5])
def e32_7 : Nat × List Nat × List Nat := (11, [39, 399], [39])
def e32_8 : Nat × List Nat × List Nat := (7, [], [])
def e32_9 : Nat × List Nat × List Nat := (85, [339, 333, 309, 5319, 1331, 1235, 1355, 4893, 1229, 1325, 3189, 1351, 4915, 5299, 5415, 5323, 4939, 1309, 5419, 5277, 4909, 4935, 5403], [339, 333, 309])
def e32_10 : Nat × List Nat × List Nat := (53, [211, 301, 3271, 1203, 1323, 1181, 4723, 5287, 5275, 4907], [211, 301])
def e32_11 : Nat × List Nat × List Nat := (77, [331, 797, 21, 1319, 1227, 3355, 83, 4903, 1223, 307, 327, 3187], [331, 21, 83, 307])
def e32_12 : Nat × List Nat × List Nat := (45, [299, 157, 1191, 1179, 1597, 4711, 4759], [299, 157])
def e32_13 : Nat × List Nat × List Nat := (29, [283, 1175, 4687], [283])
def e32_14 : Nat × List Nat × List Nat := (83, [1223, 21, 307, 327, 77, 4903, 3187, 331, 797, 1227, 1319, 3355], [21, 307, 77, 331])
def e32_15 : Nat × List Nat × List Nat := (51, [807, 203], [])
def e32_16 : Nat × List Nat × List Nat := (75, [2839, 13, 295, 4495], [13, 295])
def e32_17 : Nat × List Nat × List Nat := (71, [1807], [])
def e32_18 : Nat × List Nat × List Nat := (43, [167, 155, 2447, 615, 663, 1595, 655, 2639, 2455], [167, 155])
def e32_19 : Nat × List Nat × List Nat := (27, [151, 591], [151])
def e32_20 : Nat × List Nat × List Nat := (39, [399, 11], [11])
def e32_21 : Nat × List Nat × List Nat := (23, [79, 799], [79])
def e32_22 : Nat × List Nat × List Nat := (15, [], [])
def e32_23 : Nat × List Nat × List Nat := (341, [1363, 1357, 1333, 1237, 5427, 5331, 4947, 5451, 5325, 4941, 5421, 4917, 5301], [])
def e32_24 : Nat × List Nat × List Nat := (213, [851, 845, 1205, 3379, 4819, 3403, 4813, 5293, 4725], [])
def e32_25 : Nat × List Nat × List Nat := (309, [1235, 1325, 3189, 85, 5299, 339, 5419, 5277, 4909, 333, 5319, 1331, 1355, 4893, 1229, 1351, 4915, 5415, 5323, 4939, 1309, 4935, 5403], [85, 339, 333])
def e32_26 : Nat × List Nat × List Nat := (181, [723, 1197, 629, 4787, 2515, 5291, 4765, 4717], [])
def e32_27 : Nat × List Nat × List Nat := (117, [467, 1133, 4531, 5227, 4701], [])
def e32_28 : Nat × List Nat × List Nat := (333, [1355, 4893, 85, 1229, 5415, 5323, 4939, 1309, 339, 309, 5403, 5319, 1331, 1235, 1325, 3189, 1351, 4915, 5299, 5419, 5277, 4909, 4935], [85, 339, 309])
def e32_29 : Nat × List Nat × List Nat := (205, [843, 3229, 3367, 4811, 813, 3371], [])
def e32_30 : Nat × List Nat × List Nat := (301, [1323, 53, 1181, 5287, 5275, 4907, 211, 3271, 1203, 4723], [53, 211])
def e32_31 : Nat × List Nat × List Nat := (285, [1307, 5271, 4891], [])
def e32_32 : Nat × List Nat × List Nat := (173, [1195, 669, 621, 4775, 4763, 4715, 2461, 2653], [])
def e32_33 : Nat × List Nat × List Nat := (109, [1131, 605, 4519, 4699, 2365], [])
def e32_34 : Nat × List Nat × List Nat := (157, [1179, 1597, 45, 4759, 299, 1191, 4711], [45, 299])
def e32_35 : Nat × List Nat × List Nat := (93, [1115, 317, 4695, 4411], [])
def e32_36 : Nat × List Nat × List Nat := (61, [1083, 4663], [])
def e32_37 : Nat × List Nat × List Nat := (339, [5319, 85, 1331, 1235, 1351, 333, 309, 4915, 5299, 4935, 1355, 4893, 1229, 1325, 3189, 5415, 5323, 4939, 1309, 5419, 5277, 4909, 5403], [85, 333, 309])
def e32_38 : Nat × List Nat × List Nat := (211, [3271, 53, 1203, 301, 4723, 1323, 1181, 5287, 5275, 4907], [53, 301])
def e32_39 : Nat × List Nat × List Nat := (307, [4903, 3187, 83, 1227, 1319, 1223, 21, 331, 327, 77, 797, 3355], [83, 21, 77, 331])
def e32_40 : Nat × List Nat × List Nat := (179, [3239, 627, 811, 3227], [])
def e32_41 : Nat × List Nat × List Nat := (115, [3175], [])
def e32_42 : Nat × List Nat × List Nat := (331, [77, 1319, 1227, 797, 21, 4903, 3355, 83, 307, 1223, 3187, 327], [77, 21, 83, 307])
def e32_43 : Nat × List Nat × List Nat := (203, [807, 51], [])
def e32_44 : Nat × List Nat × List Nat := (327, [1223, 83, 21, 307, 77, 4903, 3187, 331, 797, 1227, 1319, 3355], [])
def e32_45 : Nat × List Nat × List Nat := (199, [19, 5], [19, 5])
def e32_46 : Nat × List Nat × List Nat := (299, [45, 1191, 1179, 157, 4711, 4759, 1597], [45, 157])
def e32_47 : Nat × List Nat × List Nat := (283, [29, 1175, 4687], [29])
def e32_48 : Nat × List Nat × List Nat := (295, [4495, 75, 2839, 13], [75, 13])
def e32_49 : Nat × List Nat × List Nat := (279, [1103], [])
def e32_50 : Nat × List Nat × List Nat := (271, [], [])
def e32_51 : Nat × List Nat × List Nat := (171, [679, 667, 619, 2663, 2471, 2711, 2459, 2651], [])
def e32_52 : Nat × List Nat × List Nat := (107, [423, 603, 2407, 2647, 2363], [])
def e32_53 : Nat × List Nat × List Nat := (155, [663, 1595, 43, 2639, 2455, 167, 2447, 615, 655], [43, 167])
def e32_54 : Nat × List Nat × List Nat := (91, [599, 315, 2383, 2359], [])
def e32_55 : Nat × List Nat × List Nat := (59, [567, 2351], [])
def e32_56 : Nat × List Nat × List Nat := (167, [2447, 43, 615, 655, 155, 663, 1595, 2639, 2455], [43, 155])
def e32_57 : Nat × List Nat × List Nat := (103, [1615, 407], [])
def e32_58 : Nat × List Nat × List Nat := (151, [27, 591], [27])
def e32_59 : Nat × List Nat × List Nat := (143, [], [])
def e32_60 : Nat × List Nat × List Nat := (87, [335, 311, 1231, 1327], [])
def e32_61 : Nat × List Nat × List Nat := (55, [303, 1183], [])
def e32_62 : Nat × List Nat × List Nat := (79, [799, 23], [23])
def e32_63 : Nat × List Nat × List Nat := (47, [159], [])
def e32_64 : Nat × List Nat × List Nat := (31, [], [])
theorem c32_0 : ck32 e32_0 = true := by decide +kernel
theorem c32_1 : ck32 e32_1 = true := by decide +kernel
theorem c32_2 : ck32 e32_2 = true := by decide +kernel
theorem c32_3 : ck32 e32_3 = true := by decide +kernel
theorem c32_4 : ck32 e32_4 = true := by decide +kernel
theorem c32_5 : ck32 e32_5 = true := by decide +kernel
theorem c32_6 : ck32 e32_6 = true := by decide +kernel
theorem c32_7 : ck32 e32_7 = true := by decide +kernel
theorem c32_8 : ck32 e32_8 = true := by decide +kernel
theorem c32_9 : ck32 e32_9 = true := by decide +kernel
theorem c32_10 : ck32 e32_10 = true := by decide +kernel
theorem c32_11 : ck32 e32_11 = true := by decide +kernel
theorem c32_12 : ck32 e32_12 = true := by decide +kernel
theorem c32_13 : ck32 e32_13 = true := by decide +kernel
theorem c32_14 : ck32 e32_14 = true := by decide +kernel
theorem c32_15 : ck32 e32_15 = true := by decide +kernel
theorem c32_16 : ck32 e32_16 = true := by decide +kernel
theorem c32_17 : ck32 e32_17 = true := by decide +kernel
theorem c32_18 : ck32 e32_18 = true := by decide +kernel
theorem c32_19 : ck32 e32_19 = true := by decide +kernel
theorem c32_20 : ck32 e32_20 = true := by decide +kernel
theorem c32_21 : ck32 e32_21 = true := by decide +kernel
theorem c32_22 : ck32 e32_22 = true := by decide +kernel
theorem c32_23 : ck32 e32_23 = true := by decide +kernel
theorem c32_24 : ck32 e32_24 = true := by decide +kernel
theorem c32_25 : ck32 e32_25 = true := by decide +kernel
theorem c32_26 : ck32 e32_26 = true := by decide +kernel
theorem c32_27 : ck32 e32_27 = true := by decide +kernel
theorem c32_28 : ck32 e32_28 = true := by decide +kernel
theorem c32_29 : ck32 e32_29 = true := by decide +kernel
theorem c32_30 : ck32 e32_30 = true := by decide +kernel
theorem c32_31 : ck32 e32_31 = true := by decide +kernel
theorem c32_32 : ck32 e32_32 = true := by decide +kernel
theorem c32_33 : ck32 e32_33 = true := by decide +kernel
theorem c32_34 : ck32 e32_34 = true := by decide +kernel
theorem c32_35 : ck32 e32_35 = true := by decide +kernel
theorem c32_36 : ck32 e32_36 = true := by decide +kernel
theorem c32_37 : ck32 e32_37 = true := by decide +kernel
theorem c32_38 : ck32 e32_38 = true := by decide +kernel
theorem c32_39 : ck32 e32_39 = true := by decide +kernel
theorem c32_40 : ck32 e32_40 = true := by decide +kernel
theorem c32_41 : ck32 e32_41 = true := by decide +kernel
theorem c32_42 : ck32 e32_42 = true := by decide +kernel
theorem c32_43 : ck32 e32_43 = true := by decide +kernel
theorem c32_44 : ck32 e32_44 = true := by decide +kernel
theorem c32_45 : ck32 e32_45 = true := by decide +kernel
theorem c32_46 : ck32 e32_46 = true := by decide +kernel
theorem c32_47 : ck32 e32_47 = true := by decide +kernel
theorem c32_48 : ck32 e32_48 = true := by decide +kernel
theorem c32_49 : ck32 e32_49 = true := by decide +kernel
theorem c32_50 : ck32 e32_50 = true := by decide +kernel
theorem c32_51 : ck32 e32_51 = true := by decide +kernel
theorem c32_52 : ck32 e32_52 = true := by decide +kernel
theorem c32_53 : ck32 e32_53 = true := by decide +kernel
theorem c32_54 : ck32 e32_54 = true := by decide +kernel
theorem c32_55 : ck32 e32_55 = true := by decide +kernel
theorem c32_56 : ck32 e32_56 = true := by decide +kernel
theorem c32_57 : ck32 e32_57 = true := by decide +kernel
theorem c32_58 : ck32 e32_58 = true := by decide +kernel
theorem c32_59 : ck32 e32_59 = true := by decide +kernel
theorem c32_60 : ck32 e32_60 = true := by decide +kernel
theorem c32_61 : ck32 e32_61 = true := by decide +kernel
theorem c32_62 : ck32 e32_62 = true := by decide +kernel
theorem c32_63 : ck32 e32_63 = true := by decide +kernel
theorem c32_64 : ck32 e32_64 = true := by decide +kernel
def E32 : List (Nat × List Nat × List Nat) := [e32_0, e32_1, e32_2, e32_3, e32_4, e32_5, e32_6, e32_7, e32_8, e32_9, e32_10, e32_11, e32_12, e32_13, e32_14, e32_15, e32_16, e32_17, e32_18, e32_19, e32_20, e32_21, e32_22, e32_23, e32_24, e32_25, e32_26, e32_27, e32_28, e32_29, e32_30, e32_31, e32_32, e32_33, e32_34, e32_35, e32_36, e32_37, e32_38, e32_39, e32_40, e32_41, e32_42, e32_43, e32_44, e32_45, e32_46, e32_47, e32_48, e32_49, e32_50, e32_51, e32_52, e32_53, e32_54, e32_55, e32_56, e32_57, e32_58, e32_59, e32_60, e32_61, e32_62, e32_63, e32_64]
theorem E32_ok : ∀ e ∈ E32, ck32 e = true := by
  intro e he
  unfold E32 at he
  simp only [List.mem_cons, List.not_mem_nil, or_false] at he
  rcases he with rfl | rfl | rfl | rfl | rfl | rfl | rfl | rfl | rfl | rfl | rfl | rfl | rfl | rfl | rfl | rfl | rfl | rfl | rfl | rfl | rfl | rfl | rfl | rfl | rfl | rfl | rfl | rfl | rfl | rfl | rfl | rfl | rfl | rfl | rfl | rfl | rfl | rfl | rfl | rfl | rfl | rfl | rfl | rfl | rfl | rfl | rfl | rfl | rfl | rfl | rfl | rfl | rfl | rfl | rfl | rfl | rfl | rfl | rfl | rfl | rfl | rfl | rfl | rfl | rfl
  · exact c32_0
  · exact c32_1
  · exact c32_2
  · exact c32_3
  · exact c32_4
  · exact c32_5
  · exact c32_6
  · exact c32_7
  · exact c32_8
  · exact c32_9
  · exact c32_10
  · exact c32_11
  · exact c32_12
  · exact c32_13
  · exact c32_14
  · exact c32_15
  · exact c32_16
  · exact c32_17
  · exact c32_18
  · exact c32_19
  · exact c32_20
  · exact c32_21
  · exact c32_22
  · exact c32_23
  · exact c32_24
  · exact c32_25
  · exact c32_26
  · exact c32_27
  · exact c32_28
  · exact c32_29
  · exact c32_30
  · exact c32_31
  · exact c32_32
  · exact c32_33
  · exact c32_34
  · exact c32_35
  · exact c32_36
  · exact c32_37
  · exact c32_38
  · exact c32_39
  · exact c32_40
  · exact c32_41
  · exact c32_42
  · exact c32_43
  · exact c32_44
  · exact c32_45
  · exact c32_46
  · exact c32_47
  · exact c32_48
  · exact c32_49
  · exact c32_50
  · exact c32_51
  · exact c32_52
  · exact c32_53
  · exact c32_54
  · exact c32_55
  · exact c32_56
  · exact c32_57
  · exact c32_58
  · exact c32_59
  · exact c32_60
  · exact c32_61
  · exact c32_62
  · exact c32_63
  · exact c32_64
theorem E32_all : (U6.all fun t => E32.any fun e => (dT e.1).eqb t) = true := by decide +kernel
/-- the reduction of the joint word of two terms, its moves few -/
def RelC (x y : Tree) : Prop := ∃ (r : List Int) (k : Nat) (z : Str), k ≤ 190 ∧ redF k [] (jw x y) = some r ∧ (mvsF k [] (jw x y)).length + (jw x y).length ≤ 380 ∧ (jw x y).length ≤ 100 ∧ shV r = .str z
theorem relC_of {x y : Tree} (h : okM x y = true) : RelC x y := by
  have h := Nat.le_of_ble_eq_true h
  obtain ⟨r, k, hk, hr, h1, h2, hs, _⟩ := cmpM_r (x := x) (y := y) (by omega)
  exact ⟨r, k, _, hk, hr, h1, h2, hs⟩
structure Cl32 (t : Tree) (S8 S6 : List Tree) : Prop where
  s8 : t ∈ S8
  s6 : t ∈ S6
  n8 : ∀ u v p on, u ∈ S8 → u.rwt on p = some v → v.sz ≤ 8 → v.dp ≤ 6 → v ∈ S8
  n6 : ∀ u v p on, u ∈ S6 → u.rwt on p = some v → v.sz ≤ 6 → v.dp ≤ 6 → v ∈ S6
  r8 : ∀ u ∈ S8, RelC t u
  r6 : ∀ o ∈ S6, ∀ a : Tree, a.sz ≤ 2 → RelC t (.N o a)
  r2 : ∀ u : Tree, u.sz ≤ 6 → RelC t u
theorem cl32_of {t : Tree} (hz : t.sz ≤ 6) : ∃ S8 S6, Cl32 t S8 S6 := by
  obtain ⟨e, he, et⟩ := List.any_eq_true.mp (List.all_eq_true.mp E32_all t (u6_in hz))
  have hc := E32_ok e he
  unfold ck32 at hc
  rw [Tree.eqb_eq et] at hc
  rw [Bool.and_eq_true, Bool.and_eq_true, Bool.and_eq_true, Bool.and_eq_true] at hc
  obtain ⟨⟨⟨⟨h2, h3⟩, h4⟩, h5⟩, h6⟩ := hc
  exact ⟨_, _, ⟨List.mem_cons_self, List.mem_cons_self, clsd_of h2, clsd_of h3, fun u hu => relC_of (List.all_eq_true.mp h4 u hu), fun o ho a ha => relC_of (List.all_eq_true.mp (List.all_eq_true.mp h5 o ho) a (u2_in ha)), fun u hu => relC_of (List.all_eq_true.mp h6 u (u6_in hu))⟩⟩
def spPair32 (K : PySem.W.Frag) : Sp := fun vs H Q _ => ∃ (r c : Addr), vs = [.ref r, .int 6] ∧ RngC H r c ∧ ∀ (q : Addr) (x y : V) (t u : Tree) (H' : Hp), SqT K H' q [x, y] → TA K H' x t → TA K H' y u → t.sz ≤ 6 → t.dp ≤ 6 → u.sz ≤ 8 → u.dp ≤ 6 → RelC t u → RngC H' r c → But r H H' → Q (.ref q) H'
section
variable {P : Program} {w : World} {K : PySem.W.Frag} {mg : Str → Option Value} {base : Heap} {f : Addr} {fd : FuncData}

abbrev s_ISInit : Stmt := inClass (top 2) 0
theorem sc_ISInit : SupScope ["self", "position"] (defScope s_ISInit) := ⟨rfl, rfl, rfl, by decide +kernel, by decide +kernel, by decide +kernel, by decide +kernel, by decide +kernel, fun x h => by
  have z : ∀ y ∈ (defScope s_ISInit).names, y.2 = .free → y.1 = ("__class__" : Str) := by decide +kernel
  exact z _ (PySem.mem_of_lookup h) rfl⟩
theorem ok_ISInit {C : Addr} (F : FunS P K mg "InvalidStep" "InvalidStep.__init__" s_ISInit ["self", "position"] C f fd) (hno : PySem.W.findIn K (.ref C) "position" = some none) : FnOk P w K mg base CX0 1 f fd ["self", "position"] (spS C "position" okInt) := by
  obtain ⟨oc, od, dV, kV, doc, pm, an, cda, ct, osl, cc, cl, cld, csl, ccl, cdd, cvs, ccs, file, tf, rfl, lk, hcd, hcode, hvs, hfile, hcell⟩ := F.ex
  refine ok_sup (sf := "self") (xn := "position") (fld := "position") lk hcd sc_ISInit rfl rfl hcode hvs hfile F.top hcell F.T F.mro F.sup F.any F.ini F.val hno (fun A outer s H E a v hv => ?_)
  obtain ⟨n, rfl, h1, h2⟩ := hv
  refine ⟨_, pa_cons (pe_joined (PJ.cons pe_str (PJ.cons (pe_fmt (pv 1)) (PJ.cons pe_str PJ.nil)))) pa_nil, ?_⟩
  have L : (Str.ofString (toString n)).length ≤ 12 := PyProof.Rows.toString_length_le h1 (by decide) h2
  have lg : n.natAbs.log2 < 1920 := by
    have a1 : n.natAbs < 2 ^ 40 := by
      have : (10 : Int) ^ 12 < 2 ^ 40 := by decide
      omega
    have := (Nat.log2_lt (n := n.natAbs) (k := 40))
    by_cases z : n.natAbs = 0
    · rw [z]; decide
    · have := (Nat.log2_lt z).mpr a1
      omega
  have e := PySem.Str.length_append (Str.empty ++ Str.ofString "the step at position ") (Str.ofString (toString n))
  have e2 : (Str.empty ++ Str.ofString "the step at position ").length ≤ 100 := by decide +kernel
  have e3 : ((Str.empty ++ Str.ofString "the step at position ") ++ (toString n : Str)).length = _ := e
  refine ⟨_, rfl, (by decide +kernel), _, rfl, .inr ⟨n, rfl, lg, _, rfl, ?_, ?_⟩⟩
  · rw [sizeLine_eq]
    omega
  · refine ⟨_, rfl, ?_, ⟨by show 1 ≤ 1000; omega, rfl⟩⟩
    have e4 := PySem.Str.length_append ((Str.empty ++ Str.ofString "the step at position ") ++ Str.ofString (toString n)) (Str.ofString " does not apply")
    have e5 : (Str.ofString " does not apply").length ≤ 100 := by decide +kernel
    have e6 : (((Str.empty ++ Str.ofString "the step at position ") ++ (toString n : Str)) ++ (" does not apply" : Str)).length = _ := e4
    rw [sizeLine_eq]
    omega
abbrev s_SInit : Stmt := inClass (top 28) 0
abbrev s_SLast : Stmt := inClass (top 28) 1
abbrev s_SStart : Stmt := inClass (top 28) 2
abbrev s_SFind : Stmt := inClass (top 28) 3
abbrev s_SRead : Stmt := inClass (top 28) 4
theorem sc_SInit : FnScope ["self", "word"] ["self", "word"] (defScope s_SInit) := ⟨rfl, rfl, rfl, by decide +kernel, rfl, by decide +kernel, by decide +kernel⟩
theorem sc_SLast : FnScope ["self", "magnitude", "indexes"] ["self", "magnitude"] (defScope s_SLast) := ⟨rfl, rfl, rfl, by decide +kernel, rfl, by decide +kernel, by decide +kernel⟩
theorem sc_SStart : FnScope ["self", "letter", "start"] ["self"] (defScope s_SStart) := ⟨rfl, rfl, rfl, by decide +kernel, rfl, by decide +kernel, by decide +kernel⟩
theorem sc_SFind : FnScope ["self", "start"] ["self"] (defScope s_SFind) := ⟨rfl, rfl, rfl, by decide +kernel, rfl, by decide +kernel, by decide +kernel⟩
theorem sc_SRead : FnScope ["self", "letter"] ["self"] (defScope s_SRead) := ⟨rfl, rfl, rfl, by decide +kernel, rfl, by decide +kernel, by decide +kernel⟩
theorem ok_SInit {C : Addr} (F : Fun K "__init__" "Scan.__init__" s_SInit f fd) (T : ScT K mg C) (B : Blt mg) (BW : BltW mg) : FnOk P w K mg base CX0 1 f fd ["self", "word"] (spScI K C) := by
  refine F.ok sc_SInit (fun vs H Q E h => ?_) (fun cdv A outer s H vs Q E hr h => ?_)
  · obtain ⟨_, _, _, _, _, rfl, _⟩ := h
    rfl
  obtain ⟨H0, x, dx, a, ns, rfl, s0, x0, hx, ha, q⟩ := h
  refine ⟨_, pss_cons (ps_fld (pv 0) (pe_lst pa_nil) rfl) (pss_cons (ps_fld (pv 0) (pe_lstRev rfl (by rfl) B.list (by rfl) BW.reversed (pv 1)) rfl) (pss_one (ps_fld (pv 0) pe_dnewK rfl))), ?_⟩
  refine ⟨zero_le', fun d nd => ?_⟩
  have nxd : x ≠ d := ne_of_none hx nd
  have d0 : H0 d = none := s0.free nd
  have s1 := Same.new nd (.lst [])
  refine ⟨_, rfl, x, C, dx, [], rfl, s1 _ _ hx, T.cl, T.n1, (by show 0 < 1000; decide), ?_⟩
  have k1 : ∀ q o, q ≠ x → H q = some o → (upd (upd H d (.lst [])) x (.ins C dx (putF "done" (.ref d) []))) q = some o := fun q o nq e => by
    rw [upd_ne nq]
    exact s1 _ _ e
  have hd1 : (upd (upd H d (.lst [])) x (.ins C dx (putF "done" (.ref d) []))) d = some (.lst []) := by rw [upd_ne nxd.symm, upd_same]
  have hx1 : (upd (upd H d (.lst [])) x (.ins C dx (putF "done" (.ref d) []))) x = some (.ins C dx (putF "done" (.ref d) [])) := upd_same
  have ha1 : WT K (upd (upd H d (.lst [])) x (.ins C dx (putF "done" (.ref d) []))) a ns := by
    have t1 := (Tp.same s1).sqT ha
    rcases t1 with (t1 | ⟨o, t1⟩) | t1
    · exact .inl (.inl (by rw [upd_ne (ne_of t1 (s1 _ _ hx) (by intro z; cases z))]; exact t1))
    · exact .inl (.inr ⟨o, by rw [upd_ne (ne_of t1 (s1 _ _ hx) (by intro z; cases z))]; exact t1⟩)
    · exact .inr t1
  generalize (upd (upd H d (.lst [])) x (.ins C dx (putF "done" (.ref d) []))) = H1 at *
  refine ⟨_, rfl, a, _, rfl, ha1, fun w' nw => ?_⟩
  have nxw : x ≠ w' := ne_of_none hx1 nw
  have ndw : d ≠ w' := ne_of_none hd1 nw
  have w0 : H0 w' = none := by
    cases e : H0 w' with
    | none => rfl
    | some o =>
      have := k1 w' o (fun z => by rw [z, x0] at e; cases e) (s0 _ _ e)
      rw [nw] at this
      cases this
  have s2 := Same.new nw (.lst (ns.map V.int).reverse)
  refine ⟨_, rfl, x, C, dx, _, rfl, s2 _ _ hx1, T.cl, T.n2, (by show 1 < 1000; decide), ?_⟩
  have k2 : ∀ q o, q ≠ x → H q = some o → (upd (upd H1 w' (.lst (ns.map V.int).reverse)) x (.ins C dx (putF "waiting" (.ref w') (putF "done" (.ref d) [])))) q = some o := fun q o nq e => by
    rw [upd_ne nq]
    exact s2 _ _ (k1 q o nq e)
  have hd2 : (upd (upd H1 w' (.lst (ns.map V.int).reverse)) x (.ins C dx (putF "waiting" (.ref w') (putF "done" (.ref d) [])))) d = some (.lst []) := by rw [upd_ne nxd.symm]; exact s2 _ _ hd1
  have hw2 : (upd (upd H1 w' (.lst (ns.map V.int).reverse)) x (.ins C dx (putF "waiting" (.ref w') (putF "done" (.ref d) [])))) w' = some (.lst (stk ns)) := by rw [upd_ne nxw.symm, upd_same]; unfold stk; rw [List.map_reverse]
  have hx2 : (upd (upd H1 w' (.lst (ns.map V.int).reverse)) x (.ins C dx (putF "waiting" (.ref w') (putF "done" (.ref d) [])))) x = some (.ins C dx (putF "waiting" (.ref w') (putF "done" (.ref d) []))) := upd_same
  generalize (upd (upd H1 w' (.lst (ns.map V.int).reverse)) x (.ins C dx (putF "waiting" (.ref w') (putF "done" (.ref d) [])))) = H2 at *
  intro p np
  have nxp : x ≠ p := ne_of_none hx2 np
  have p0 : H0 p = none := by
    cases e : H0 p with
    | none => rfl
    | some o =>
      have := k2 p o (fun z => by rw [z, x0] at e; cases e) (s0 _ _ e)
      rw [np] at this
      cases this
  have s3 := Same.new np (.dK [])
  refine ⟨_, rfl, x, C, dx, _, rfl, s3 _ _ hx2, T.cl, T.n3, (by show 2 < 1000; decide), q d w' p _ ⟨fun b o e => ?_, x0, d0, w0, p0, ⟨dx, upd_same⟩, ?_, ?_, ndw, [], ?_, Nat.le_refl _, fun m => rfl, fun m m' a e => (by cases e)⟩⟩
  · have nb : b ≠ x := fun z => by rw [z, x0] at e; cases e
    rw [upd_ne nb]
    exact s3 _ _ (k2 b o nb (s0 _ _ e))
  · rw [upd_ne nxd.symm]
    exact s3 _ _ hd2
  · rw [upd_ne nxw.symm]
    exact s3 _ _ hw2
  · rw [upd_ne nxp.symm, upd_same]
theorem ok_SLast {C : Addr} (F : Fun K "last_place" "Scan.last_place" s_SLast f fd) (T : ScT K mg C) : FnOk P w K mg base CX0 1 f fd ["self", "magnitude"] (spLP C) := by
  refine F.ok sc_SLast (fun vs H Q E h => ?_) (fun cdv A outer s H vs Q E hr h => ?_)
  · obtain ⟨_, _, _, _, _, _, _, _, _, rfl, _⟩ := h
    rfl
  obtain ⟨H0, x, d, w', p, dn, wt, m, N, rfl, hA, q⟩ := h
  obtain ⟨dx, hx⟩ := hA.ix
  obtain ⟨kvs, hp, hl, hP, hI⟩ := hA.hp
  refine ⟨_, pss_cons (ps_set (i := 2) sc_SLast.nd rfl (Or.inl rfl) (pe_dget1 (hu_of hr) (pe_fld (pv 0) rfl) (pv 1) ⟨rfl, rfl, rfl, rfl⟩)) (pss_one (ps_ret (pe_ifExp (pt_truth (pv 2) (by intro _; rfl)) (pe_ix ix_list (pv 2) (pe_un un_neg pe_int) (fun _ _ => rfl)) (pe_un un_neg pe_int)))), ?_⟩
  refine ⟨_, rfl, x, C, dx, _, _, rfl, hx, T.cl, T.n3, scf_p _ _ _, p, rfl, .inl ⟨kvs, .inl hp⟩, _, rfl, _, DGet.k (k := Sum.inl m) hp, ?_⟩
  have hm := hP m
  cases e : valV kvs (Sum.inl m) with
  | none =>
    rw [e] at hm
    have hm : plR m dn = [] := hm
    rcases plR_last m dn with ⟨_, h2⟩ | ⟨ys, h2, _⟩
    · rw [h2] at q
      exact ⟨_, rfl, false, rfl, ite_no rfl ⟨_, rfl, q⟩⟩
    · rw [hm] at h2
      exact absurd h2 (by simp)
  | some v =>
    rw [e] at hm
    obtain ⟨a, rfl, _, ha, _⟩ := hm
    rcases plR_last m dn with ⟨h1, h2⟩ | ⟨ys, h1, h2⟩
    · have h1 : plR m dn = [] := h1
      rw [h2] at q
      simp only [h1, List.map_nil] at ha
      exact ⟨_, rfl, false, .inl ⟨_, SqL.here ha, rfl⟩, ite_no rfl ⟨_, rfl, q⟩⟩
    · simp only [h1, List.map_append, List.map_cons, List.map_nil] at ha
      exact ⟨_, rfl, true, .inl ⟨_, SqL.here ha, by cases ys <;> rfl⟩, ite_yes rfl ⟨_, rfl, _, rfl, a, _, _, _, rfl, rfl, SqL.here ha, atI_last _ _, q⟩⟩
theorem ok_SStart {C fL : Addr} {fdL : FuncData} (F : Fun K "handle_start" "Scan.handle_start" s_SStart f fd) (T : ScT K mg C) (BW : BltW mg) (FL : Fun K "last_place" "Scan.last_place" s_SLast fL fdL) (bL : Binds K fdL ["self", "magnitude"] []) (mL : Meth K C "last_place" fL) : FnOk P w K mg base CX0 2 f fd ["self"] (spHS C) := by
  have GL : FnOk P w K mg base CX0 1 fL fdL ["self", "magnitude"] (spLP C) := ok_SLast FL T
  refine F.ok sc_SStart (fun vs H Q E h => ?_) (fun cdv A outer s H vs Q E hr h => ?_)
  · obtain ⟨_, _, _, _, _, _, _, _, _, rfl, _⟩ := h
    rfl
  obtain ⟨H0, x, d, w', p, dn, wt, a, N, rfl, hA, q⟩ := h
  obtain ⟨dx, hx⟩ := hA.ix
  refine ⟨_, pss_cons (ps_set (i := 1) sc_SStart.nd rfl (Or.inl rfl) (pe_ix ix_list (pe_fld (pv 0) rfl) (pe_un un_neg pe_int) (fun _ _ => rfl)))
    (pss_cons (ps_set (i := 2) sc_SStart.nd rfl (Or.inl rfl) (pe_meth (pv 0) T.cl mL GL (hr.mono (by decide)) bL .nil pass0 (pa_cons (pe_callB call_abs (by rfl) BW.abs (by decide +kernel) (pa_cons (pv 1) pa_nil)) pa_nil)))
    (pss_cons (ps_if (PW.pt (pw_and (pt_cmpR op_gt (pv 2) (pe_meth (pv 0) T.cl mL GL (hr.mono (by decide)) bL .nil pass0 (pa_cons (pe_op op_sub (pe_callB call_abs (by rfl) BW.abs (by decide +kernel) (pa_cons (pv 1) pa_nil)) pe_int) pa_nil)) (nomark _)) (pw_and1 (pt_cmpR op_eq (pe_ix ix_list (pe_fld (pv 0) rfl) (pv 2) (fun _ _ => rfl)) (pe_un un_neg (pv 1)) (nomark _))))) (pss_one (ps_ret (pv 2))) pss_nil)
    (pss_one (ps_ret (pe_un un_neg pe_int))))), ?_⟩
  have noL : (scf d w' p).lookup ("last_place" : Str) = none := scf_no _ _ _ (by decide +kernel) (by decide +kernel) (by decide +kernel)
  have hw := hA.hw
  rw [stk_cons] at hw
  refine ⟨_, rfl, x, C, dx, _, _, rfl, hx, T.cl, T.n2, scf_w _ _ _, _, rfl, w', _, _, _, rfl, rfl, SqL.here hw, atI_last _ _, ?_⟩
  refine ⟨_, rfl, x, dx, _, rfl, hx, noL, _, rfl, a, rfl, H0, x, d, w', p, dn, _, ab a, N, rfl, hA, ?_⟩
  refine ⟨_, rfl, _, rfl, x, dx, _, rfl, hx, noL, _, rfl, a, rfl, _, _, rfl, rfl, H0, x, d, w', p, dn, _, ab a - 1, N, rfl, hA, _, _, rfl, rfl, _, rfl, ?_⟩
  have b1 := lastR_b (ab a) dn
  have b2 := lastR_b (ab a - 1) dn
  unfold hsv at q
  refine ite2 (fun c1 => ?_) (fun c1 => ?_)
  · have c1 : lastR (ab a) dn > lastR (ab a - 1) dn := of_decide_eq_true c1
    obtain ⟨b, eb, _⟩ := lastR_get (ab a) dn (by omega)
    have ea : atI (stk dn) (lastR (ab a) dn) = some (.int b) := by
      rw [show lastR (ab a) dn = (((lastR (ab a) dn).toNat : Nat) : Int) by omega]
      refine atI_nat ?_
      unfold stk
      rw [List.getElem?_map, eb]
      rfl
    refine ⟨_, rfl, x, C, dx, _, _, rfl, hx, T.cl, T.n1, scf_d _ _ _, _, rfl, d, _, _, _, rfl, rfl, SqL.here hA.hd, ea, _, rfl, _, rfl, rfl, _, rfl, ?_⟩
    refine ite2 (fun c2 => ?_) (fun c2 => ?_)
    · have c2 : b = -a := V.int.inj (of_decide_eq_true c2)
      rw [if_pos ⟨c1, by rw [eb, c2]⟩] at q
      exact ⟨_, rfl, q⟩
    · have c2 : b ≠ -a := fun z => c2 (decide_eq_true (congrArg V.int z))
      rw [if_neg (fun z => c2 (Option.some.inj (eb.symm.trans z.2)))] at q
      exact ⟨_, rfl, q⟩
  · have c1 : ¬ lastR (ab a) dn > lastR (ab a - 1) dn := fun z => c1 (decide_eq_true z)
    rw [if_neg (fun z => c1 z.1)] at q
    exact iteF ⟨_, rfl, q⟩
theorem ok_SRead {C : Addr} (F : Fun K "read_letter" "Scan.read_letter" s_SRead f fd) (T : ScT K mg C) (B : Blt mg) (BW : BltW mg) : FnOk P w K mg base CX0 1 f fd ["self"] (spRL C) := by
  refine F.ok sc_SRead (fun vs H Q E h => ?_) (fun cdv A outer s H vs Q E hr h => ?_)
  · obtain ⟨_, _, _, _, _, _, _, _, _, rfl, _⟩ := h
    rfl
  obtain ⟨H0, x, d, w', p, dn, wt, a, N, rfl, hA, hl, hN, q⟩ := h
  obtain ⟨dx, hx⟩ := hA.ix
  obtain ⟨kvs, hp, hkl, hP, hI⟩ := hA.hp
  refine ⟨_, pss_cons (ps_set (i := 1) sc_SRead.nd rfl (Or.inl rfl) (pe_bm0 PySem.F.plainAttrs_list PySem.F.slot_list_pop PySem.F.type_list_pop mt_pop (pe_fld (pv 0) rfl)))
    (pss_cons (ps_expr (pe_bm PySem.F.plainAttrs_list PySem.F.slot_list_append PySem.F.type_list_append mt_append (pe_dsetd (pe_fld (pv 0) rfl) (pe_callB call_abs (by rfl) BW.abs (by decide +kernel) (pa_cons (pv 1) pa_nil)) (pe_lst pa_nil) ⟨rfl, rfl, rfl, rfl⟩) (pa_cons (pe_callB call_len_seq (by rfl) B.len PySem.boot_len (pa_cons (pe_fld (pv 0) rfl) pa_nil)) pa_nil)))
    (pss_one (ps_expr (pe_bm PySem.F.plainAttrs_list PySem.F.slot_list_append PySem.F.type_list_append mt_append (pe_fld (pv 0) rfl) (pa_cons (pv 1) pa_nil))))), ?_⟩
  have hw := hA.hw
  rw [stk_cons] at hw
  refine ⟨_, rfl, x, C, dx, _, _, rfl, hx, T.cl, T.n2, scf_w _ _ _, .inl ⟨rfl, _, SqL.here hw⟩, w', _, .int a, rfl, rfl, hw, by simp, ?_⟩
  rw [List.dropLast_concat]
  have nxw : x ≠ w' := ne_of hx hw (by intro z; cases z)
  have npw : p ≠ w' := ne_of hp hw (by intro z; cases z)
  have ndw := hA.dw
  have hx1 : upd H w' (.lst (stk wt)) x = _ := (upd_ne nxw).trans hx
  have hp1 : upd H w' (.lst (stk wt)) p = _ := (upd_ne npw).trans hp
  have hd1 : upd H w' (.lst (stk wt)) d = _ := (upd_ne ndw).trans hA.hd
  have hw1 : upd H w' (.lst (stk wt)) w' = some (.lst (stk wt)) := upd_same
  have k1 : ∀ c o, c ≠ w' → H c = some o → upd H w' (.lst (stk wt)) c = some o := fun c o n e => (upd_ne n).trans e
  have fr1 : ∀ c, upd H w' (.lst (stk wt)) c = none → H c = none := fun c e => by
    by_cases n : c = w'
    · rw [n, upd_same] at e; cases e
    · rw [upd_ne n] at e; exact e
  generalize upd H w' (.lst (stk wt)) = H1 at *
  refine ⟨_, rfl, x, C, dx, _, _, rfl, hx1, T.cl, T.n3, scf_p _ _ _, p, rfl, .inl ⟨kvs, .inl hp1⟩, _, rfl, a, rfl, zero_le', fun e ne => ?_⟩
  have s2 := Same.new ne (.lst [])
  have e0 : H0 e = none := by
    cases z : H0 e with
    | none => rfl
    | some o =>
      have := hA.sm _ _ z
      rw [fr1 e ne] at this
      cases this
  have nde : d ≠ e := ne_of_none hd1 ne
  have nwe : w' ≠ e := ne_of_none hw1 ne
  have nxe : x ≠ e := ne_of_none hx1 ne
  have npe : p ≠ e := ne_of_none hp1 ne
  have npd : p ≠ d := ne_of hp1 hd1 (by intro z; cases z)
  have nxd : x ≠ d := ne_of hx1 hd1 (by intro z; cases z)
  have nxp : x ≠ p := ne_of hx1 hp1 (by intro z; cases z)
  have lens : kvs.length < sizeLine := Nat.lt_of_le_of_lt (show _ ≤ 10000000 by omega) (by decide)
  have lend : (stk dn).length < sizeLine := by rw [stk_len]; exact Nat.lt_of_le_of_lt hl (by decide)
  refine ⟨kvs, Sum.inl (ab a), s2 _ _ hp1, rfl, lens, fun v ev => ?_, fun ev => ?_⟩
  · have hm := hP (ab a)
    rw [ev] at hm
    obtain ⟨b, rfl, b0, hb, bd, bw⟩ := hm
    have hpl := plR_len (ab a) dn
    have hb2 := s2 _ _ (k1 b _ bw hb)
    refine ⟨.inl ⟨rfl, _, SqL.here hb2⟩, _, rfl, x, C, dx, _, _, rfl, s2 _ _ hx1, T.cl, T.n1, scf_d _ _ _, d, _, rfl, .inl (SqL.here (s2 _ _ hd1)), b, _, _, rfl, rfl, hb2, ?_, ?_⟩
    · rw [List.length_map]
      exact Nat.lt_of_le_of_lt (show _ ≤ 1001 by omega) (by decide)
    have nxb : x ≠ b := ne_of (s2 _ _ hx1) hb2 (by intro z; cases z)
    have npb : p ≠ b := ne_of (s2 _ _ hp1) hb2 (by intro z; cases z)
    refine ⟨_, rfl, x, C, dx, _, _, rfl, (upd_ne nxb).trans (s2 _ _ hx1), T.cl, T.n1, scf_d _ _ _, .inl ⟨rfl, _, SqL.here ((upd_ne (Ne.symm bd)).trans (s2 _ _ hd1))⟩, _, rfl, d, _, _, rfl, rfl, (upd_ne (Ne.symm bd)).trans (s2 _ _ hd1), lend, q _ ?_⟩
    have epl : plR (ab a) (a :: dn) = plR (ab a) dn ++ [(dn.length : Int)] := if_pos rfl
    refine ScB.next hA (b := b) (kvs' := kvs) hp hP hI (fun c o n1 n2 n3 n4 ec => ?_) ?_ ?_ ?_ ?_ ev (fun m _ => rfl) (by omega) b0 bd bw nxb (fun m hm ec => hm (hI m (ab a) b ec ev))
    · rw [upd_ne n2, upd_ne n4]
      exact s2 _ _ (k1 c o n1 ec)
    · rw [upd_ne (Ne.symm ndw), upd_ne (Ne.symm bw)]
      exact s2 _ _ hw1
    · rw [upd_same, stk_cons]
    · rw [upd_ne npd, upd_ne npb]
      exact s2 _ _ hp1
    · rw [upd_ne bd, upd_same, epl, stk_len, List.map_append]
      rfl
  · have hp3 : upd (upd H1 e (.lst [])) p (.dK (kvs ++ [(Sum.inl (ab a), .ref e)])) p = _ := upd_same
    have he3 : upd (upd H1 e (.lst [])) p (.dK (kvs ++ [(Sum.inl (ab a), .ref e)])) e = some (.lst []) := (upd_ne (Ne.symm npe)).trans upd_same
    have hx3 : upd (upd H1 e (.lst [])) p (.dK (kvs ++ [(Sum.inl (ab a), .ref e)])) x = _ := (upd_ne nxp).trans (s2 _ _ hx1)
    have hd3 : upd (upd H1 e (.lst [])) p (.dK (kvs ++ [(Sum.inl (ab a), .ref e)])) d = _ := (upd_ne (Ne.symm npd)).trans (s2 _ _ hd1)
    have hw3 : upd (upd H1 e (.lst [])) p (.dK (kvs ++ [(Sum.inl (ab a), .ref e)])) w' = _ := (upd_ne (Ne.symm npw)).trans (s2 _ _ hw1)
    have k3 : ∀ c o, c ≠ w' → c ≠ p → H c = some o → upd (upd H1 e (.lst [])) p (.dK (kvs ++ [(Sum.inl (ab a), .ref e)])) c = some o := fun c o n1 n2 ec => (upd_ne n2).trans (s2 _ _ (k1 c o n1 ec))
    generalize upd (upd H1 e (.lst [])) p (.dK (kvs ++ [(Sum.inl (ab a), .ref e)])) = H3 at *
    refine ⟨.inl ⟨rfl, _, SqL.here he3⟩, _, rfl, x, C, dx, _, _, rfl, hx3, T.cl, T.n1, scf_d _ _ _, d, _, rfl, .inl (SqL.here hd3), e, _, _, rfl, rfl, he3, (by show 0 < sizeLine; decide), ?_⟩
    refine ⟨_, rfl, x, C, dx, _, _, rfl, (upd_ne nxe).trans hx3, T.cl, T.n1, scf_d _ _ _, .inl ⟨rfl, _, SqL.here ((upd_ne nde).trans hd3)⟩, _, rfl, d, _, _, rfl, rfl, (upd_ne nde).trans hd3, lend, q _ ?_⟩
    have hm0 := hP (ab a)
    rw [ev] at hm0
    have epl : plR (ab a) (a :: dn) = [(dn.length : Int)] := by
      have z : plR (ab a) dn = [] := hm0
      show (if ab a = ab a then plR (ab a) dn ++ [(dn.length : Int)] else plR (ab a) dn) = _
      rw [if_pos rfl, z]
      rfl
    refine ScB.next hA (b := e) (kvs' := kvs ++ [(Sum.inl (ab a), .ref e)]) hp hP hI (fun c o n1 n2 n3 n4 ec => ?_) ?_ ?_ ?_ ?_ (valV_new ev) (fun m hm => valV_old (fun z => hm (Sum.inl.inj z).symm)) ?_ e0 (Ne.symm nde) (Ne.symm nwe) nxe (fun m hm ec => ?_)
    · rw [upd_ne n2, upd_ne n4]
      exact k3 c o n1 n3 ec
    · rw [upd_ne (Ne.symm ndw), upd_ne nwe]
      exact hw3
    · rw [upd_same, stk_cons]
    · rw [upd_ne npd, upd_ne npe]
      exact hp3
    · rw [upd_ne (Ne.symm nde), upd_same, epl, stk_len]
      rfl
    · rw [List.length_append]
      show kvs.length + 1 ≤ N + 1
      omega
    · have h := hP m
      rw [ec] at h
      obtain ⟨c, ecc, _, hc, _⟩ := h
      cases ecc
      rw [fr1 e ne] at hc
      cases hc
theorem ok_SFind {C fL fH fR : Addr} {fdL fdH fdR : FuncData} (F : Fun K "find_handle" "Scan.find_handle" s_SFind f fd) (T : ScT K mg C) (B : Blt mg) (BW : BltW mg) (FL : Fun K "last_place" "Scan.last_place" s_SLast fL fdL) (bL : Binds K fdL ["self", "magnitude"] []) (mL : Meth K C "last_place" fL) (FH : Fun K "handle_start" "Scan.handle_start" s_SStart fH fdH) (bH : Binds K fdH ["self"] []) (mH : Meth K C "handle_start" fH)
    (FR : Fun K "read_letter" "Scan.read_letter" s_SRead fR fdR) (bR : Binds K fdR ["self"] []) (mR : Meth K C "read_letter" fR) : FnOk P w K mg base CX0 3 f fd ["self"] (spFH C) := by
  have GH : FnOk P w K mg base CX0 2 fH fdH ["self"] (spHS C) := ok_SStart FH T BW FL bL mL
  have GR : FnOk P w K mg base CX0 1 fR fdR ["self"] (spRL C) := ok_SRead FR T B BW
  refine F.ok sc_SFind (fun vs H Q E h => ?_) (fun cdv A outer s H vs Q E hr h => ?_)
  · obtain ⟨_, _, _, _, _, _, _, _, rfl, _⟩ := h
    rfl
  obtain ⟨H0, x, d, w', p, dn, wt, N, rfl, hA, hl, hN, q0, q1⟩ := h
  refine ⟨_, pss_cons (ps_while PassesOwn.never (pt_truth (pe_fld (pv 0) rfl) (by intro _; rfl)) (pss_cons (ps_set (i := 1) sc_SFind.nd rfl (Or.inl rfl) (pe_meth0 (pv 0) T.cl mH GH (hr.mono (by decide)) bH .nil pass0))
    (pss_cons (ps_if (pt_cmpR op_ge (pv 1) pe_int (nomark _)) (pss_one (ps_ret (pv 1))) pss_nil) (pss_one (ps_expr (pe_meth0 (pv 0) T.cl mR GR (hr.mono (by decide)) bR .nil pass0))))))
    (pss_one (ps_ret (pe_un un_neg pe_int))), ?_⟩
  refine ⟨fun m σ G => ∃ (dn' wt' : List Int) (N' : Nat) (x1 : Option V), σ = [some (.ref x), x1] ∧ ScA H0 G C x d w' p dn' wt' N' ∧ fhS dn wt = fhS dn' wt' ∧ dn'.length + wt'.length = dn.length + wt.length ∧ wt'.reverse ++ dn' = wt.reverse ++ dn ∧ N' + wt'.length = N + wt.length ∧ m = wt'.length, ⟨_, dn, wt, N, none, rfl, hA, rfl, rfl, rfl, rfl, rfl⟩, ?_⟩
  rintro m σ G ⟨dn', wt', N', x1, rfl, hG, hf, hle, hrv, hNN, rfl⟩
  obtain ⟨dx, hx⟩ := hG.ix
  cases wt' with
  | nil =>
    refine ⟨_, rfl, x, C, dx, _, _, rfl, hx, T.cl, T.n2, scf_w _ _ _, false, .inl ⟨_, SqL.here hG.hw, rfl⟩, iteF ?_⟩
    have hrv : dn' = wt.reverse ++ dn := hrv
    exact ⟨_, rfl, q0 hf G N' (by rw [List.length_nil] at hNN; omega) (hrv ▸ hG)⟩
  | cons a t =>
    have hw := hG.hw
    refine ⟨_, rfl, x, C, dx, _, _, rfl, hx, T.cl, T.n2, scf_w _ _ _, true, .inl ⟨_, SqL.here hw, by rw [stk_cons]; cases stk t <;> rfl⟩, iteT ?_⟩
    refine ⟨fun σ' G' => ∃ (dn' wt' : List Int) (N' : Nat) (x1 : Option V), σ' = [some (.ref x), x1] ∧ ScA H0 G' C x d w' p dn' wt' N' ∧ fhS dn wt = fhS dn' wt' ∧ dn'.length + wt'.length = dn.length + wt.length ∧ wt'.reverse ++ dn' = wt.reverse ++ dn ∧ N' + wt'.length = N + wt.length ∧ wt'.length < (a :: t).length, ?_, ?_⟩
    · rintro σ' G' ⟨dn2, wt2, N2, x1, e1, e2, e3, e4, e6, e7, e5⟩
      exact ⟨_, e5, dn2, wt2, N2, x1, e1, e2, e3, e4, e6, e7, rfl⟩
    have noH : (scf d w' p).lookup ("handle_start" : Str) = none := scf_no _ _ _ (by decide +kernel) (by decide +kernel) (by decide +kernel)
    have noR : (scf d w' p).lookup ("read_letter" : Str) = none := scf_no _ _ _ (by decide +kernel) (by decide +kernel) (by decide +kernel)
    refine ⟨_, rfl, x, dx, _, rfl, hx, noH, H0, x, d, w', p, dn', t, a, N', rfl, hG, ?_⟩
    refine ⟨_, rfl, _, _, rfl, rfl, _, rfl, ?_⟩
    have ef : fhS dn' (a :: t) = if 0 ≤ hsv a dn' then some (dn', a, t) else fhS (a :: dn') t := rfl
    refine ite2 (fun c => ?_) (fun c => ?_)
    · have c : 0 ≤ hsv a dn' := of_decide_eq_true c
      rw [if_pos c] at ef
      exact ⟨_, rfl, q1 _ _ _ (hf.trans ef) c G N' (by omega) hG⟩
    · have c : ¬ 0 ≤ hsv a dn' := fun z => c (decide_eq_true z)
      rw [if_neg c] at ef
      have : (a :: t).length = t.length + 1 := rfl
      refine ⟨_, rfl, x, dx, _, rfl, hx, noR, H0, x, d, w', p, dn', t, a, N', rfl, hG, by omega, by omega, fun H2 h2 => ?_⟩
      exact ⟨a :: dn', t, N' + 1, _, rfl, h2, hf.trans ef, by rw [List.length_cons]; omega, by rw [← hrv, List.reverse_cons, List.append_assoc]; rfl, by omega, by rw [List.length_cons]; omega⟩
abbrev s_STake : Stmt := inClass (top 28) 5
abbrev s_SPut : Stmt := inClass (top 28) 6
theorem sc_STake : FnScope ["self", "start", "handle", "letter"] ["self", "start"] (defScope s_STake) := ⟨rfl, rfl, rfl, by decide +kernel, rfl, by decide +kernel, by decide +kernel⟩
theorem sc_SPut : FnScope ["self", "letters"] ["self", "letters"] (defScope s_SPut) := ⟨rfl, rfl, rfl, by decide +kernel, rfl, by decide +kernel, by decide +kernel⟩
theorem ok_SPut {C : Addr} (F : Fun K "put_back" "Scan.put_back" s_SPut f fd) (T : ScT K mg C) (B : Blt mg) (BW : BltW mg) : FnOk P w K mg base CX0 1 f fd ["self", "letters"] (spPB C) := by
  refine F.ok sc_SPut (fun vs H Q E h => ?_) (fun cdv A outer s H vs Q E hr h => ?_)
  · obtain ⟨_, _, _, _, _, _, _, _, _, _, rfl, _⟩ := h
    rfl
  obtain ⟨H0, x, d, w', p, l, dn, wt, ls, N, rfl, hA, hl, hz, q⟩ := h
  obtain ⟨dx, hx⟩ := hA.ix
  refine ⟨_, pss_one (ps_expr (pe_bm PySem.F.plainAttrs_list PySem.F.slot_list_extend PySem.F.type_list_extend mt_extend (pe_fld (pv 0) rfl) (pa_cons (pe_lstRevL rfl (by rfl) B.list (by rfl) BW.reversed (pv 1)) pa_nil))), ?_⟩
  refine ⟨_, rfl, x, C, dx, _, _, rfl, hx, T.cl, T.n2, scf_w _ _ _, .inl ⟨rfl, _, SqL.here hA.hw⟩, ?_⟩
  refine ⟨_, rfl, l, _, rfl, SqL.here hl, fun b nb => ?_⟩
  have s1 := Same.new nb (.lst (ls.map V.int).reverse)
  have ndb : d ≠ b := ne_of_none hA.hd nb
  have hwb := s1 _ _ hA.hw
  have erev : (ls.map V.int).reverse = ls.reverse.map V.int := List.map_reverse.symm
  refine ⟨w', b, _, _, rfl, rfl, hwb, upd_same, ?_, q _ ?_⟩
  · rw [stk_len, List.length_reverse, List.length_map]
    exact Nat.le_trans hz (by decide)
  · obtain ⟨kvs, hp, hkl, hP, hI⟩ := hA.hp
    have hx2 := s1 _ _ hx
    have hp2 := s1 _ _ hp
    have hd2 := s1 _ _ hA.hd
    have ne1 : x ≠ w' := ne_of hx2 hwb (by intro z; cases z)
    have ne2 : p ≠ w' := ne_of hp2 hwb (by intro z; cases z)
    refine ⟨fun c o e => ?_, hA.fx, hA.fd, hA.fw, hA.fp, ⟨dx, (upd_ne ne1).trans hx2⟩, (upd_ne hA.dw).trans hd2, ?_, hA.dw, kvs, (upd_ne ne2).trans hp2, hkl, fun m => ?_, hI⟩
    · have nc : c ≠ w' := fun z => by rw [z, hA.fw] at e; cases e
      rw [upd_ne nc]
      exact s1 _ _ (hA.sm _ _ e)
    · rw [upd_same, erev]
      unfold stk
      rw [List.reverse_append, List.map_append]
    · have hm := hP m
      cases ev : valV kvs (Sum.inl m) with
      | none =>
        rw [ev] at hm
        exact hm
      | some v =>
        rw [ev] at hm
        obtain ⟨c, rfl, c0, hc, cd, cw⟩ := hm
        exact ⟨c, rfl, c0, (upd_ne cw).trans (s1 _ _ hc), cd, cw⟩
theorem ok_STake {C : Addr} (F : Fun K "take_handle" "Scan.take_handle" s_STake f fd) (T : ScT K mg C) (B : Blt mg) (BW : BltW mg) : FnOk P w K mg base CX0 1 f fd ["self", "start"] (spTK C) := by
  refine F.ok sc_STake (fun vs H Q E h => ?_) (fun cdv A outer s H vs Q E hr h => ?_)
  · obtain ⟨_, _, _, _, _, _, _, _, _, _, rfl, _⟩ := h
    rfl
  obtain ⟨H0, x, d, w', p, u, v, t, a, N, rfl, hA, hz, hu, q⟩ := h
  obtain ⟨dx, hx⟩ := hA.ix
  obtain ⟨kvs, hp, hkl, hP, hI⟩ := hA.hp
  refine ⟨_, pss_cons (ps_set (i := 2) sc_STake.nd rfl (Or.inl rfl) (pe_slice sl_list (pe_fld (pv 0) rfl) (po_some (pv 1)) po_none))
    (pss_cons (ps_for PassesOwn.never rfl (pi_list (pv 2)) (pg_name (i := 3) sc_STake.nd rfl (Or.inl rfl)) (pss_one (ps_expr (pe_bm0 PySem.F.plainAttrs_list PySem.F.slot_list_pop PySem.F.type_list_pop mt_pop (pe_dget (hu_of hr) (pe_fld (pv 0) rfl) (pe_callB call_abs (by rfl) BW.abs (by decide +kernel) (pa_cons (pv 3) pa_nil)) (fun _ _ => rfl))))))
    (pss_cons (ps_delT (pe_fld (pv 0) rfl) (pv 1))
    (pss_cons (ps_expr (pe_bm PySem.F.plainAttrs_list PySem.F.slot_list_append PySem.F.type_list_append mt_append (pv 2) (pa_cons (pe_bm0 PySem.F.plainAttrs_list PySem.F.slot_list_pop PySem.F.type_list_pop mt_pop (pe_fld (pv 0) rfl)) pa_nil)))
    (pss_one (ps_ret (pv 2)))))), ?_⟩
  refine ⟨_, rfl, x, C, dx, _, _, rfl, hx, T.cl, T.n1, scf_d _ _ _, _, rfl, _, rfl, d, _, rfl, SqL.here hA.hd, fun l nl => ?_⟩
  have ecut : cutV (stk (u ++ v)) (some ((v.length : Nat) : Int)) none = u.reverse.map V.int := by
    unfold stk
    rw [cutB (by rw [List.length_reverse, List.length_append]; omega), List.reverse_append, List.drop_left' (by rw [List.length_reverse])]
  rw [ecut]
  have s1 := Same.new nl (.lst (u.reverse.map V.int))
  have nd := ne_of_none hA.hd nl
  have nw := ne_of_none hA.hw nl
  have np := ne_of_none hp nl
  have nx := ne_of_none hx nl
  have l0 : H0 l = none := hA.sm.free nl
  have hll : upd H l (.lst (u.reverse.map V.int)) l = some (.lst (u.reverse.map V.int)) := upd_same
  have hx1 := s1 _ _ hx
  have hp1 := s1 _ _ hp
  have hd1 := s1 _ _ hA.hd
  have hw1 := s1 _ _ hA.hw
  have sm1 := hA.sm.trans s1
  have nbl : ∀ m b, valV kvs (Sum.inl m) = some (.ref b) → b ≠ l := fun m b e z => by
    have hm := hP m
    rw [e] at hm
    obtain ⟨c, ec, _, hc, _⟩ := hm
    cases ec
    rw [z, nl] at hc
    cases hc
  have hP1 : ∀ m, PlB H0 (upd H l (.lst (u.reverse.map V.int))) d w' (plR m (u ++ v)) (valV kvs (Sum.inl m)) := fun m => by
    have hm := hP m
    cases ev : valV kvs (Sum.inl m) with
    | none =>
      rw [ev] at hm
      exact hm
    | some z =>
      rw [ev] at hm
      obtain ⟨c, rfl, c0, hc, cd, cw⟩ := hm
      exact ⟨c, rfl, c0, s1 _ _ hc, cd, cw⟩
  generalize upd H l (.lst (u.reverse.map V.int)) = H1 at *
  refine ⟨_, rfl, l, rfl, ⟨_, SqL.here hll⟩, for_list (K := K) (a := l) (xs := u.reverse.map V.int) (fun i σ G => ∃ x3 : Option V, σ = [some (.ref x), some (.int (v.length : Nat)), some (.ref l), x3] ∧ Same H0 G ∧ G x = some (.ins C dx (scf d w' p)) ∧ G d = some (.lst (stk (u ++ v))) ∧ G w' = some (.lst (stk (a :: t))) ∧ G p = some (.dK kvs) ∧ G l = some (.lst (u.reverse.map V.int)) ∧ ∀ m, PlB H0 G d w' ((plR m (u ++ v)).take ((plR m (u ++ v)).length - cnM m (u.reverse.take i))) (valV kvs (Sum.inl m)))
    ⟨none, rfl, sm1, hx1, hd1, hw1, hp1, hll, fun m => ?_⟩ (fun i σ G _ z => ?_) ?_ ?_⟩
  · have e : (plR m (u ++ v)).take ((plR m (u ++ v)).length - cnM m (u.reverse.take 0)) = plR m (u ++ v) := by
      show (plR m (u ++ v)).take ((plR m (u ++ v)).length - 0) = _
      rw [Nat.sub_zero, List.take_length]
    rw [e]
    exact hP1 m
  · obtain ⟨_, _, _, _, _, _, _, h, _⟩ := z
    exact SqL.here h
  · rintro i y σ G hy ⟨x3, rfl, smG, hxG, hdG, hwG, hpG, hlG, hPG⟩
    have hy2 : (u.reverse.map V.int)[i]? = some y := hy
    rw [List.getElem?_map] at hy2
    obtain ⟨c, hc, rfl⟩ := Option.map_eq_some_iff.mp hy2
    have etk := take_snoc hc
    have hcn := plR_cn (ab c) (u ++ v)
    rw [cnM_app] at hcn
    have hc1 : cnM (ab c) (u.reverse.take (i + 1)) ≤ cnM (ab c) u := by
      have h1 := cnM_app (ab c) (u.reverse.take (i + 1)) (u.reverse.drop (i + 1))
      rw [List.take_append_drop, cnM_rev] at h1
      omega
    have hc2 : cnM (ab c) (u.reverse.take (i + 1)) = cnM (ab c) (u.reverse.take i) + 1 := by
      rw [etk, cnM_app, cnM_cons, if_pos rfl]
      show _ + (0 + 1) = _
      omega
    have hm := hPG (ab c)
    have hlen : ((plR (ab c) (u ++ v)).take ((plR (ab c) (u ++ v)).length - cnM (ab c) (u.reverse.take i))).length = (plR (ab c) (u ++ v)).length - cnM (ab c) (u.reverse.take i) := by
      rw [List.length_take]; omega
    cases ev : valV kvs (Sum.inl (ab c)) with
    | none =>
      rw [ev] at hm
      have hm : (plR (ab c) (u ++ v)).take _ = [] := hm
      rw [hm] at hlen
      have : ([] : List Int).length = 0 := rfl
      omega
    | some z =>
      rw [ev] at hm
      obtain ⟨b, rfl, b0, hb, bd, bw⟩ := hm
      have hbl := nbl _ _ ev
      have npb : p ≠ b := ne_of hpG hb (by intro z; cases z)
      have nxb : x ≠ b := ne_of hxG hb (by intro z; cases z)
      generalize eL : (plR (ab c) (u ++ v)).take ((plR (ab c) (u ++ v)).length - cnM (ab c) (u.reverse.take i)) = L at hb hlen
      have hLp : L.length - 1 < L.length := by omega
      refine ⟨_, rfl, x, C, dx, _, _, rfl, hxG, T.cl, T.n3, scf_p _ _ _, _, rfl, c, rfl, p, .ref b, rfl, by rw [← ev]; exact DGet.k (k := Sum.inl (ab c)) hpG, .inl ⟨rfl, _, SqL.here hb⟩, b, _, .int L[L.length - 1], rfl, rfl, hb, ?_, ?_⟩
      · rw [List.length_map, List.getElem?_map, List.getElem?_eq_getElem hLp]
        rfl
      have edl : (L.map V.int).dropLast = (L.take (L.length - 1)).map V.int := by rw [List.dropLast_eq_take, List.length_map, List.map_take]
      rw [edl]
      have keep : ∀ e o, e ≠ b → G e = some o → upd G b (.lst ((L.take (L.length - 1)).map V.int)) e = some o := fun e o n h => (upd_ne n).trans h
      refine ⟨_, rfl, fun e o h => keep e o (fun z => by rw [z, b0] at h; cases h) (smG _ _ h), keep _ _ nxb hxG, keep _ _ (Ne.symm bd) hdG, keep _ _ (Ne.symm bw) hwG, keep _ _ npb hpG, keep _ _ (Ne.symm hbl) hlG, fun m => ?_⟩
      by_cases em : m = ab c
      · subst em
        rw [ev]
        refine ⟨b, rfl, b0, ?_, bd, bw⟩
        have e4 : L.take (L.length - 1) = (plR (ab c) (u ++ v)).take ((plR (ab c) (u ++ v)).length - cnM (ab c) (u.reverse.take (i + 1))) := by
          rw [← eL, List.take_take]
          congr 1
          rw [List.length_take]
          omega
        rw [upd_same, e4]
      · have hm := hPG m
        have e3 : cnM m (u.reverse.take (i + 1)) = cnM m (u.reverse.take i) := by
          rw [etk, cnM_app, cnM_cons, if_neg (Ne.symm em)]
          show _ + (0 + 0) = _
          omega
        rw [e3]
        cases ev2 : valV kvs (Sum.inl m) with
        | none =>
          rw [ev2] at hm
          exact hm
        | some z =>
          rw [ev2] at hm
          obtain ⟨e, rfl, e0, he, ed, ew⟩ := hm
          refine ⟨e, rfl, e0, keep _ _ (fun z => em ?_) he, ed, ew⟩
          exact hI m (ab c) b (by rw [ev2, z]) ev
  · rintro σ G ⟨x3, rfl, smG, hxG, hdG, hwG, hpG, hlG, hPG⟩
    have hPv : ∀ m, PlB H0 G d w' (plR m v) (valV kvs (Sum.inl m)) := fun m => by
      have hm := hPG m
      rw [List.length_map, List.take_length, cnM_rev, plR_take] at hm
      exact hm
    refine ⟨_, rfl, x, C, dx, _, _, rfl, hxG, T.cl, T.n1, scf_d _ _ _, _, rfl, _, rfl, d, _, v.length, rfl, rfl, hdG, by rw [stk_len, List.length_append]; omega, ?_⟩
    have etk : (stk (u ++ v)).take v.length = stk v := by
      unfold stk
      rw [List.reverse_append, List.map_append, List.take_left' (by rw [List.length_map, List.length_reverse])]
    rw [etk]
    have nxd := ne_of hxG hdG (by intro z; cases z)
    have npd := ne_of hpG hdG (by intro z; cases z)
    have hx2 : upd G d (.lst (stk v)) x = _ := (upd_ne nxd).trans hxG
    have hp2 : upd G d (.lst (stk v)) p = _ := (upd_ne npd).trans hpG
    have hw2 : upd G d (.lst (stk v)) w' = _ := (upd_ne (Ne.symm hA.dw)).trans hwG
    have hl2 : upd G d (.lst (stk v)) l = _ := (upd_ne (Ne.symm nd)).trans hlG
    have hd2 : upd G d (.lst (stk v)) d = some (.lst (stk v)) := upd_same
    have sm2 : Same H0 (upd G d (.lst (stk v))) := fun c o e => (upd_ne (fun z => by rw [z, hA.fd] at e; cases e)).trans (smG _ _ e)
    have hP2 : ∀ m, PlB H0 (upd G d (.lst (stk v))) d w' (plR m v) (valV kvs (Sum.inl m)) := fun m => by
      have hm := hPv m
      cases ev : valV kvs (Sum.inl m) with
      | none =>
        rw [ev] at hm
        exact hm
      | some z =>
        rw [ev] at hm
        obtain ⟨c, rfl, c0, hc, cd, cw⟩ := hm
        exact ⟨c, rfl, c0, (upd_ne cd).trans hc, cd, cw⟩
    generalize upd G d (.lst (stk v)) = G2 at *
    refine ⟨_, rfl, .inl ⟨rfl, _, SqL.here hl2⟩, _, rfl, x, C, dx, _, _, rfl, hx2, T.cl, T.n2, scf_w _ _ _, .inl ⟨rfl, _, SqL.here hw2⟩, w', _, .int a, rfl, rfl, hw2, by rw [stk_cons]; simp, ?_⟩
    rw [stk_cons, List.dropLast_concat]
    have nxw := ne_of hx2 hw2 (by intro z; cases z)
    have npw := ne_of hp2 hw2 (by intro z; cases z)
    have hl3 : upd G2 w' (.lst (stk t)) l = _ := (upd_ne (Ne.symm nw)).trans hl2
    refine ⟨l, _, _, rfl, rfl, hl3, by rw [List.length_map, List.length_reverse]; exact small1000 (by omega), _, rfl, ?_⟩
    refine q l _ ⟨fun c o e => ?_, hA.fx, hA.fd, hA.fw, hA.fp, ⟨dx, ?_⟩, ?_, ?_, hA.dw, kvs, ?_, hkl, fun m => ?_, hI⟩ (by rw [upd_same, List.map_append]; rfl) l0 (Ne.symm nd) (Ne.symm nw) (Ne.symm np)
    · rw [upd_ne (fun z => by rw [z, l0] at e; cases e), upd_ne (fun z => by rw [z, hA.fw] at e; cases e)]
      exact sm2 _ _ e
    · rw [upd_ne nx, upd_ne nxw]; exact hx2
    · rw [upd_ne nd, upd_ne hA.dw]; exact hd2
    · rw [upd_ne nw, upd_same]
    · rw [upd_ne np, upd_ne npw]; exact hp2
    · have hm := hP2 m
      cases ev : valV kvs (Sum.inl m) with
      | none =>
        rw [ev] at hm
        exact hm
      | some z =>
        rw [ev] at hm
        obtain ⟨c, rfl, c0, hc, cd, cw⟩ := hm
        refine ⟨c, rfl, c0, ?_, cd, cw⟩
        rw [upd_ne (nbl _ _ ev), upd_ne cw]
        exact hc
abbrev s_is_pair : Stmt := top 9
theorem sc_is_pair : FnScope ["part"] ["part"] (defScope s_is_pair) := ⟨rfl, rfl, rfl, by decide +kernel, rfl, by decide +kernel, by decide +kernel⟩
theorem ok_is_pair (d : D K mg "is_pair" s_is_pair ["part"] f fd) (B : Blt mg) : FnOk P w K mg base CX0 1 f fd ["part"] (spIsPair K) := by
  refine d.F.ok sc_is_pair (fun vs H Q E h => ?_) (fun cdv A outer s H vs Q E hr h => ?_)
  · obtain ⟨_, _, rfl, _⟩ := h
    rfl
  obtain ⟨v, t, rfl, ha, q⟩ := h
  refine ⟨_, (pss_one (ps_ret (pe_and (pe_callB call_isi (by rfl) B.isinstance (by decide +kernel) (pa_cons (pv 0) (pa_cons (pe_bltn (v := .ty "tuple") (by rfl) B.tuple (by decide +kernel) rfl) pa_nil))) (pe_one (pe_cmpR op_eq (pe_callB call_len_seq (by rfl) B.len PySem.boot_len (pa_cons (pv 0) pa_nil)) pe_int (nomark _)))))), ?_⟩
  obtain ⟨a, xs, rfl, hS, hx⟩ : ∃ a xs, v = .ref a ∧ SqT K H a xs ∧ decide (V.int ((xs.length : Nat) : Int) = V.int 2) = !t.isL := by
    cases t with
    | L =>
      obtain ⟨a, e, q⟩ := ta_invL ha
      exact ⟨a, _, e, q, rfl⟩
    | N l r =>
      obtain ⟨a, x, y, e, q, _⟩ := ta_invN ha
      exact ⟨a, _, e, q, rfl⟩
  refine ⟨_, rfl, _, _, _, _, true, rfl, .ty "tuple", tyx_tup hS, kit_ty (by decide +kernel), true, rfl, iteT ⟨_, rfl, a, _, rfl, .inr hS, rfl, ?_⟩⟩
  show Q (.bl (decide (V.int ((xs.length : Nat) : Int) = V.int 2))) H
  rw [hx]
  exact q

abbrev s_is_term : Stmt := top 8
theorem sc_is_term : FnScope ["term", "waiting", "size", "part", "depth"] ["term"] (defScope s_is_term) := ⟨rfl, rfl, rfl, by decide +kernel, rfl, by decide +kernel, by decide +kernel⟩
theorem ok_is_term {fp : Addr} {fpd : FuncData} (d : D K mg "is_term" s_is_term ["term"] f fd) (B : Blt mg) (C : Cst mg) (d_is_pair : D K mg "is_pair" s_is_pair ["part"] fp fpd) : FnOk P w K mg base CX0 2 f fd ["term"] (spOkTerm K (.bl true)) := by
  have G_is_pair : FnOk P w K mg base CX0 1 fp fpd ["part"] (spIsPair K) := ok_is_pair d_is_pair B
  obtain ⟨⟨t1, C_MAX_SIZE⟩, ⟨t2, C_MAX_DEPTH⟩⟩ := C
  refine d.F.ok sc_is_term (fun vs H Q E h => ?_) (fun cdv A outer s H vs Q E hr h => ?_)
  · obtain ⟨_, _, rfl, _⟩ := h
    rfl
  obtain ⟨v, t, rfl, ha, hz, hd, q⟩ := h
  refine ⟨_, (pss_cons (ps_set (i := 1) sc_is_term.nd rfl (Or.inl rfl) (pe_lst (pa_cons (pe_tup (pa_cons (pv 0) (pa_cons pe_int pa_nil))) pa_nil)))
 (pss_cons (ps_set (i := 2) sc_is_term.nd rfl (Or.inl rfl) pe_int)
 (pss_cons (ps_while PassesOwn.never (pt_truth (pv 1) (by intro _; rfl)) (pss_cons (ps_asg (pe_bm0 PySem.F.plainAttrs_list PySem.F.slot_list_pop PySem.F.type_list_pop mt_pop (pv 1)) (pg_tup (by rfl) (pgs_cons (pg_name (i := 3) sc_is_term.nd rfl (Or.inl rfl)) (pgs_cons (pg_name (i := 4) sc_is_term.nd rfl (Or.inl rfl)) pgs_nil))))
 (pss_cons (ps_if (pt_cmpR (op_eqD hr.units) (pv 3) (pe_tup pa_nil) (nomark _)) (pss_one (ps_aug (i := 2) sc_is_term.nd rfl (Or.inl rfl) pe_int ip_add)) (pss_one (ps_if (PW.pt (pw_and (pt_val (pe_call G_is_pair (hr.mono (by decide)) rfl d_is_pair.m d_is_pair.F.kp d_is_pair.b .nil pass0 (pa_cons (pv 3) pa_nil))) (pw_and1 (pt_cmpR op_lt (pv 4) (pe_glob (v := .int 6) rfl C_MAX_DEPTH ⟨_, rfl⟩) (nomark _))))) (pss_cons (ps_expr (pe_bm PySem.F.plainAttrs_list PySem.F.slot_list_append PySem.F.type_list_append mt_append (pv 1) (pa_cons (pe_tup (pa_cons (pe_ix ix_tup (pv 3) pe_int (fun _ _ => rfl)) (pa_cons (pe_op op_add (pv 4) pe_int) pa_nil))) pa_nil)))
 (pss_one (ps_expr (pe_bm PySem.F.plainAttrs_list PySem.F.slot_list_append PySem.F.type_list_append mt_append (pv 1) (pa_cons (pe_tup (pa_cons (pe_ix ix_tup (pv 3) pe_int (fun _ _ => rfl)) (pa_cons (pe_op op_add (pv 4) pe_int) pa_nil))) pa_nil))))) (pss_one (ps_ret pe_bl)))))
 (pss_one (ps_if (pt_cmpR op_gt (pv 2) (pe_glob (v := .int 12) rfl C_MAX_SIZE ⟨_, rfl⟩) (nomark _)) (pss_one (ps_ret pe_bl)) pss_nil)))))
 (pss_one (ps_ret pe_bl))))), ?_⟩
  refine ⟨_, rfl, two_le, fun p hp => ⟨one_le, fun w hw => ?_⟩⟩
  have s1 := Same.new hp (.tup [v, .int 0])
  have s2 := s1.trans (Same.new hw (.lst [.ref p]))
  have hw0 : H w = none := s1.free hw
  refine ⟨fun m σ H' => ∃ (ps : List (V × Tree × Nat)) (n : Int) (x y : Option V), σ = [some v, some (.ref w), some (.int n), x, y] ∧ Same H H' ∧ H' w = some (.lst (ps.map (·.1))) ∧ (∀ p ∈ ps, Item K H' p) ∧ 0 ≤ n ∧ n + (szs ps : Int) = t.sz ∧ m = nds ps,
    ⟨_, [(.ref p, t, 0)], 0, none, none, rfl, s2, upd_same, ?_, by decide, by simp [szs], rfl⟩, ?_⟩
  · intro z hz'
    cases List.mem_singleton.mp hz'
    exact ⟨p, v, rfl, (Tp.same (Same.new hw _)).sqT (SqT.here upd_same), ta_mono (Tp.same s2) ha, by show 0 + t.dp ≤ 6; omega⟩
  · rintro m σ H' ⟨ps, n, x, y, rfl, sm, hl, hI, hn, hs, rfl⟩
    rcases List.eq_nil_or_concat ps with rfl | ⟨qs, z, rfl⟩
    · exact ⟨_, rfl, _, .inl ⟨_, SqL.here hl, rfl⟩, iteF (q H' sm)⟩
    · rw [List.concat_eq_append] at *
      rw [List.map_append] at hl
      refine ⟨_, rfl, true, .inl ⟨_, SqL.here hl, ?_⟩, iteT ?_⟩
      · cases qs <;> rfl
      have hIz := hI z (by simp)
      have hIq : ∀ p ∈ qs, Item K H' p := fun p hp => hI p (by simp [hp])
      obtain ⟨zv, zt, zd⟩ := z
      obtain ⟨a, u, ez, h2, h3, h4⟩ := hIz
      have ez' : zv = .ref a := ez
      subst ez'
      have h4 : zd + zt.dp ≤ 6 := h4
      have h3 : TA K H' u zt := h3
      have h2 : SqT K H' a [u, .int (zd : Int)] := h2
      have hs : n + ((szs qs + zt.sz : Nat) : Int) = t.sz := by
        rw [szs_snoc] at hs
        exact hs
      have en : nds (qs ++ [(V.ref a, zt, zd)]) = nds qs + zt.nodes := nds_snoc _ _
      have hsz := szs_len qs
      refine ⟨fun σ' H' => ∃ (ps : List (V × Tree × Nat)) (n : Int) (x y : Option V), σ' = [some v, some (.ref w), some (.int n), x, y] ∧ Same H H' ∧ H' w = some (.lst (ps.map (·.1))) ∧ (∀ p ∈ ps, Item K H' p) ∧ 0 ≤ n ∧ n + (szs ps : Int) = t.sz ∧ nds ps < nds (qs ++ [(V.ref a, zt, zd)]), ?_, ?_⟩
      · rintro σ' H'' ⟨ps, n, x, y, e1, e2, e3, e4, e5, e6, e7⟩
        exact ⟨_, e7, ps, n, x, y, e1, e2, e3, e4, e5, e6, rfl⟩
      -- part, depth = waiting.pop()
      have tp1 : Tp H' (upd H' w (.lst (qs.map (·.1)))) := Tp.but hl But.set
      refine ⟨_, rfl, .inl ⟨rfl, _, SqL.here hl⟩, w, _, .ref a, rfl, rfl, hl, ?_, a, [u, .int zd], rfl, ?_, rfl, _, _, rfl, _, _, rfl, rfl, ?_⟩
      · simp
      · rw [List.dropLast_append_of_ne_nil (by simp)]
        simp only [List.map_cons, List.map_nil, List.dropLast_singleton, List.append_nil]
        exact tp1.sqT h2
      rw [List.dropLast_append_of_ne_nil (by simp)]
      simp only [List.map_cons, List.map_nil, List.dropLast_singleton, List.append_nil]
      have sm1 : Same H (upd H' w (.lst (qs.map (·.1)))) := fun b o e => by
        rw [upd_ne (ne_of_none e hw0)]
        exact sm _ _ e
      refine ⟨_, rfl, zero_le', fun p5 hp5 => ⟨zt.d, .tuple [], ta_mono (Tp.same (Same.new hp5 _)) (ta_mono tp1 h3), Dp.tup (SqT.here upd_same) .nil, Tree.shaped (by omega), shapedE, _, rfl, ?_⟩⟩
      refine ite_eq (Tree.eqvL zt) ?_
      have tp2 : Tp (upd H' w (.lst (qs.map (·.1)))) (upd (upd H' w (.lst (qs.map (·.1)))) p5 (.tup [])) := Tp.same (Same.new hp5 _)
      have sm2 : Same H (upd (upd H' w (.lst (qs.map (·.1)))) p5 (.tup [])) := sm1.trans (Same.new hp5 _)
      have nw5 : w ≠ p5 := fun e => by
        rw [← e, upd_same] at hp5
        cases hp5
      have hl2 : (upd (upd H' w (.lst (qs.map (·.1)))) p5 (.tup [])) w = some (.lst (qs.map (·.1))) := by rw [upd_ne nw5, upd_same]
      generalize (upd (upd H' w (.lst (qs.map (·.1)))) p5 (.tup [])) = H2 at *
      cases zt with
      | L =>
        have hs : n + ((szs qs + 1 : Nat) : Int) = t.sz := hs
        refine iteT ⟨_, rfl, _, _, rfl, rfl, _, rfl, _, _, rfl, rfl, _, rfl, ?_⟩
        refine ite_no (decide_eq_false (by show ¬ (n + 1 > 12); omega)) ?_
        refine ⟨qs, n + 1, _, _, rfl, sm2, hl2, fun p hp => (hIq p hp).mono (tp1.trans tp2), by omega, by omega, ?_⟩
        rw [en]
        exact Nat.lt_succ_self _
      | N l r =>
        have hs : n + ((szs qs + (l.sz + r.sz) : Nat) : Int) = t.sz := hs
        have h4 : zd + (max l.dp r.dp + 1) ≤ 6 := h4
        obtain ⟨b, x1, x2, rfl, hS, hL, hR⟩ := ta_invN (ta_mono (tp1.trans tp2) h3)
        refine iteF ⟨_, rfl, _, _, rfl, ta_node hS hL hR, true, rfl, iteT ⟨_, rfl, _, _, rfl, rfl, _, rfl, ?_⟩⟩
        refine ite_yes (decide_eq_true (by omega)) ?_
        refine ⟨_, rfl, .inl ⟨rfl, _, SqL.here hl2⟩, _, rfl, b, _, 0, _, rfl, rfl, hS, rfl, _, rfl, _, _, rfl, rfl, two_le, fun p6 hp6 => ?_⟩
        have tp3 : Tp H2 (upd H2 p6 (.tup [x1, .int ((zd : Int) + 1)])) := Tp.same (Same.new hp6 _)
        have nw6 : w ≠ p6 := ne_of_none hl2 hp6
        refine ⟨w, _, _, rfl, rfl, (by rw [upd_ne nw6]; exact hl2), (by rw [List.length_map]; exact small1000 (by omega)), ?_⟩
        have hl3 : (upd (upd H2 p6 (.tup [x1, .int ((zd : Int) + 1)])) w (.lst (qs.map (·.1) ++ [.ref p6]))) w = some (.lst (qs.map (·.1) ++ [.ref p6])) := upd_same
        have tp4 : Tp (upd H2 p6 (.tup [x1, .int ((zd : Int) + 1)])) (upd (upd H2 p6 (.tup [x1, .int ((zd : Int) + 1)])) w (.lst (qs.map (·.1) ++ [.ref p6]))) := Tp.but (by rw [upd_ne nw6]; exact hl2) But.set
        have sm4 : Same H (upd (upd H2 p6 (.tup [x1, .int ((zd : Int) + 1)])) w (.lst (qs.map (·.1) ++ [.ref p6]))) := fun b o e => by
          rw [upd_ne (ne_of_none e hw0)]
          exact (sm2.trans (Same.new hp6 _)) _ _ e
        have h6 : SqT K (upd (upd H2 p6 (.tup [x1, .int ((zd : Int) + 1)])) w (.lst (qs.map (·.1) ++ [.ref p6]))) p6 [x1, .int ((zd : Int) + 1)] := tp4.sqT (SqT.here upd_same)
        have tp24 : Tp H2 _ := tp3.trans tp4
        generalize (upd (upd H2 p6 (.tup [x1, .int ((zd : Int) + 1)])) w (.lst (qs.map (·.1) ++ [.ref p6]))) = H4 at *
        refine ⟨_, rfl, .inl ⟨rfl, _, SqL.here hl3⟩, _, rfl, b, _, 1, _, rfl, rfl, tp24.sqT hS, rfl, _, rfl, _, _, rfl, rfl, two_le, fun p7 hp7 => ?_⟩
        have tp5 : Tp H4 (upd H4 p7 (.tup [x2, .int ((zd : Int) + 1)])) := Tp.same (Same.new hp7 _)
        have nw7 : w ≠ p7 := ne_of_none hl3 hp7
        refine ⟨w, _, _, rfl, rfl, (by rw [upd_ne nw7]; exact hl3), (by rw [List.length_append, List.length_map, List.length_singleton]; exact small1000 (by omega)), ?_⟩
        have tp6 : Tp (upd H4 p7 (.tup [x2, .int ((zd : Int) + 1)])) (upd (upd H4 p7 (.tup [x2, .int ((zd : Int) + 1)])) w (.lst ((qs.map (·.1) ++ [.ref p6]) ++ [.ref p7]))) := Tp.but (by rw [upd_ne nw7]; exact hl3) But.set
        refine ⟨_, rfl, _, _, rfl, rfl, _, rfl, ?_⟩
        have q1 := l.sz_pos
        have q2 := r.sz_pos
        refine ite_no (decide_eq_false (by omega)) ?_
        refine ⟨qs ++ [(.ref p6, l, zd + 1)] ++ [(.ref p7, r, zd + 1)], n, _, _, rfl, fun b o e => ?_, ?_, ?_, hn, ?_, ?_⟩
        · rw [upd_ne (ne_of_none e hw0)]
          exact (sm4.trans (Same.new hp7 _)) _ _ e
        · rw [upd_same, List.map_append, List.map_append]
          rfl
        · intro z hz'
          rcases List.mem_append.mp hz' with hz' | hz'
          · rcases List.mem_append.mp hz' with hz' | hz'
            · exact (hIq z hz').mono (((tp1.trans tp2).trans tp24).trans (tp5.trans tp6))
            · cases List.mem_singleton.mp hz'
              exact ⟨p6, x1, rfl, (tp5.trans tp6).sqT h6, ta_mono (tp5.trans tp6) (ta_mono tp24 hL), by show zd + 1 + l.dp ≤ 6; omega⟩
          · cases List.mem_singleton.mp hz'
            exact ⟨p7, x2, rfl, tp6.sqT (SqT.here upd_same), ta_mono (tp5.trans tp6) (ta_mono tp24 hR), by show zd + 1 + r.dp ≤ 6; omega⟩
        · rw [szs_snoc, szs_snoc]
          show n + ((szs qs + l.sz + r.sz : Nat) : Int) = t.sz
          omega
        · rw [nds_snoc, nds_snoc, en]
          show nds qs + l.nodes + r.nodes < nds qs + (l.nodes + r.nodes + 1)
          omega

abbrev s_check_term : Stmt := top 10
theorem sc_check_term : FnScope ["term"] ["term"] (defScope s_check_term) := ⟨rfl, rfl, rfl, by decide +kernel, rfl, by decide +kernel, by decide +kernel⟩
theorem ok_check_term {fp fi : Addr} {fpd fid : FuncData} (d : D K mg "check_term" s_check_term ["term"] f fd) (B : Blt mg) (C : Cst mg) (d_is_pair : D K mg "is_pair" s_is_pair ["part"] fp fpd) (d_is_term : D K mg "is_term" s_is_term ["term"] fi fid) : FnOk P w K mg base CX0 3 f fd ["term"] (spOkTerm K .non) := by
  have G_is_term : FnOk P w K mg base CX0 2 fi fid ["term"] (spOkTerm K (.bl true)) := ok_is_term d_is_term B C d_is_pair
  refine d.F.ok sc_check_term (fun vs H Q E h => ?_) (fun cdv A outer s H vs Q E hr h => ?_)
  · obtain ⟨_, _, rfl, _⟩ := h
    rfl
  obtain ⟨v, t, rfl, ha, hz, hd, q⟩ := h
  refine ⟨_, (pss_one (ps_if (pt_not (pt_val (pe_call G_is_term (hr.mono (by decide)) rfl d_is_term.m d_is_term.F.kp d_is_term.b .nil pass0 (pa_cons (pv 0) pa_nil)))) (pss_one ps_never) pss_nil)), ?_⟩
  exact ⟨_, rfl, v, t, rfl, ha, hz, hd, fun H' sm => ⟨true, rfl, iteF (q H' sm)⟩⟩

abbrev s_is_letter : Stmt := top 15
theorem sc_is_letter : FnScope ["number"] ["number"] (defScope s_is_letter) := ⟨rfl, rfl, rfl, by decide +kernel, rfl, by decide +kernel, by decide +kernel⟩
theorem ok_is_letter (d : D K mg "is_letter" s_is_letter ["number"] f fd) (BW : BltW mg) (CW : CstW mg) : FnOk P w K mg base CX0 1 f fd ["number"] spLet := by
  obtain ⟨⟨t1, C_MAX_LETTER⟩, _⟩ := CW
  refine d.F.ok sc_is_letter (fun vs H Q E h => ?_) (fun cdv A outer s H vs Q E hr h => ?_)
  · obtain ⟨_, rfl, _⟩ := h
    rfl
  obtain ⟨n, rfl, q⟩ := h
  refine ⟨_, (pss_one (ps_ret (pe_and (pe_cmpR op_ne (pv 0) pe_int (nomark _)) (pe_one (pe_cmpR op_le (pe_callB call_abs (by rfl) BW.abs (by decide +kernel) (pa_cons (pv 0) pa_nil)) (pe_glob (v := .int 40) rfl C_MAX_LETTER ⟨_, rfl⟩) (nomark _)))))), ?_⟩
  refine ⟨_, rfl, rfl, _, rfl, ?_⟩
  have q : Q (.bl (decide (n ≠ 0) && decide (ab n ≤ 40))) H := q
  by_cases h : n = 0
  · rw [decide_eq_false (fun z => z h), Bool.false_and] at q
    refine ite_no ?_ q
    rw [decide_eq_true (congrArg V.int h)]
    rfl
  · rw [decide_eq_true h, Bool.true_and] at q
    refine ite_yes ?_ ⟨_, rfl, _, rfl, _, _, rfl, rfl, q⟩
    rw [decide_eq_false (fun z => h (V.int.inj z))]
    rfl

abbrev s_are_letters : Stmt := top 16
theorem sc_are_letters : FnScope ["numbers", "number"] ["numbers"] (defScope s_are_letters) := ⟨rfl, rfl, rfl, by decide +kernel, rfl, by decide +kernel, by decide +kernel⟩
theorem ok_are_letters {f1 : Addr} {e1 : FuncData} (d : D K mg "are_letters" s_are_letters ["numbers"] f fd) (B : Blt mg) (BW : BltW mg) (CW : CstW mg) (d_is_letter : D K mg "is_letter" s_is_letter ["number"] f1 e1) : FnOk P w K mg base CX0 2 f fd ["numbers"] (spAre K) := by
  have G_is_letter : FnOk P w K mg base CX0 1 f1 e1 ["number"] spLet := ok_is_letter d_is_letter BW CW
  refine d.F.ok sc_are_letters (fun vs H Q E h => ?_) (fun cdv A outer s H vs Q E hr h => ?_)
  · obtain ⟨_, _, rfl, _⟩ := h
    rfl
  obtain ⟨a, ns, rfl, hS, hl, q⟩ := h
  refine ⟨_, (pss_one (ps_ret (pe_callB (cr_all rfl) (by rfl) B.all (by decide +kernel) (pa_cons (pe_lc (own := [("number", 1)]) (g := gName 1) (tt := tYes) (by rfl) sc_are_letters.nd (pi_tup (pv 0)) (blkOk_by (own := [("number", 1)]) (N := ["numbers", "number"]) (sc := defScope s_are_letters) (by decide +kernel)) (fun _ _ _ _ _ => (pg_name (i := 1) sc_are_letters.nd rfl (Or.inl rfl))) (fun _ _ _ _ _ => pts_nil) (fun _ _ _ _ _ => (pe_call G_is_letter (hr.mono (by decide)) rfl d_is_letter.m d_is_letter.F.kp d_is_letter.b .nil pass0 (pa_cons (pv 1) pa_nil)))) pa_nil)))), ?_⟩
  refine ⟨_, rfl, a, rfl, ⟨_, hS⟩, fun D hD => ?_⟩
  refine lc_mapT (ψ := fun v => .bl (isLet (vInt v))) hD hS (by rw [List.length_map]; exact hl) (fun x G R hx sm k => ?_) (fun G sm hg => ?_)
  · obtain ⟨n, _, rfl⟩ := mem_int hx
    exact ⟨rfl, _, rfl, n, rfl, k G (Same.refl _)⟩
  · rw [map_int (ψ := fun n => V.bl (isLet n))] at hg
    refine ⟨D, ns.map isLet, rfl, SqL.here (by rw [hg, List.map_map]; rfl), ?_⟩
    rw [List.all_map]
    exact q G sm

abbrev s_check_word : Stmt := top 17
theorem sc_check_word : FnScope ["word"] ["word"] (defScope s_check_word) := ⟨rfl, rfl, rfl, by decide +kernel, rfl, by decide +kernel, by decide +kernel⟩
theorem ok_check_word {f1 f2 C0 : Addr} {e1 e2 : FuncData} (d : D K mg "check_word" s_check_word ["word"] f fd) (B : Blt mg) (BW : BltW mg) (CW : CstW mg) (EC : ErrC K mg "InvalidWord" C0) (d_is_letter : D K mg "is_letter" s_is_letter ["number"] f1 e1) (d_are_letters : D K mg "are_letters" s_are_letters ["numbers"] f2 e2) : FnOk P w K mg base (L2N.CX P w) 3 f fd ["word"] (spChkW K C0) := by
  have G_are_letters : FnOk P w K mg base CX0 2 f2 e2 ["numbers"] (spAre K) := ok_are_letters d_are_letters B BW CW d_is_letter
  obtain ⟨_, ⟨t2, C_MAX_LETTERS⟩⟩ := CW
  refine Fun.okN d.F sc_check_word (fun vs H Q E h => ?_) (fun cdv A outer s H vs Q E hr h => ?_)
  · obtain ⟨_, _, rfl, _⟩ := h
    rfl
  obtain ⟨a, ns, rfl, hS, hl, h1, h2⟩ := h
  refine ⟨_, (pss_one (ps_if (PW.pt (pw_or (pt_cmpR op_gt (pe_callB call_len_seq (by rfl) B.len PySem.boot_len (pa_cons (pv 0) pa_nil)) (pe_glob (v := .int 300) rfl C_MAX_LETTERS ⟨_, rfl⟩) (nomark _)) (pw_or1 (pt_not (pt_val (pe_call G_are_letters (hr.mono (by decide)) rfl d_are_letters.m d_are_letters.F.kp d_are_letters.b .nil pass0 (pa_cons (pv 0) pa_nil))))))) (pss_one (L2N.ps_raise rfl (L2N.takes_of rfl rfl rfl rfl) (L2N.pmk_own PySem.F.excBase_ValueError EC.q EC.g EC.k (raises_own EC.b EC.t) (by exact rfl)))) pss_nil)), ?_⟩
  refine ⟨_, rfl, a, _, rfl, .inr hS, _, _, rfl, rfl, _, rfl, ?_⟩
  have e0 : okW ns = (decide (ns.length ≤ 300) && ns.all isLet) := rfl
  refine ite2 (fun c => ?_) (fun c => ?_)
  · have c : ((ns.map V.int).length : Int) > 300 := of_decide_eq_true c
    rw [List.length_map] at c
    exact h2 (by rw [e0, decide_eq_false (by omega)]; rfl) H (Same.refl _)
  · have c : ¬ ((ns.map V.int).length : Int) > 300 := fun z => c (decide_eq_true z)
    rw [List.length_map] at c
    rw [decide_eq_true (by omega), Bool.true_and] at e0
    refine ⟨_, rfl, a, ns, rfl, hS, hl, fun H' sm => ⟨_, rfl, ?_⟩⟩
    cases e : ns.all isLet with
    | true => exact iteF (h1 (e0.trans e) H' sm)
    | false => exact iteT (h2 (e0.trans e) H' sm)

abbrev s_with_sign : Stmt := top 20
theorem sc_with_sign : FnScope ["magnitude", "letter"] ["magnitude", "letter"] (defScope s_with_sign) := ⟨rfl, rfl, rfl, by decide +kernel, rfl, by decide +kernel, by decide +kernel⟩
theorem ok_with_sign (d : D K mg "with_sign" s_with_sign ["magnitude", "letter"] f fd) : FnOk P w K mg base CX0 1 f fd ["magnitude", "letter"] spSgn := by
  refine d.F.ok sc_with_sign (fun vs H Q E h => ?_) (fun cdv A outer s H vs Q E hr h => ?_)
  · obtain ⟨_, _, rfl, _⟩ := h
    rfl
  obtain ⟨m, l, rfl, q⟩ := h
  refine ⟨_, (pss_one (ps_ret (pe_ifExp (pt_cmpR op_gt (pv 1) pe_int (nomark _)) (pv 0) (pe_un un_neg (pv 0))))), ?_⟩
  refine ⟨_, rfl, _, _, rfl, rfl, _, rfl, ?_⟩
  unfold sgn at q
  refine ite2 (fun c => ?_) (fun c => ?_)
  · have c : l > 0 := of_decide_eq_true c
    rw [if_pos c] at q
    exact ⟨_, rfl, q⟩
  · have c : ¬ l > 0 := fun z => c (decide_eq_true z)
    rw [if_neg c] at q
    exact ⟨_, rfl, _, rfl, q⟩

abbrev s_braided : Stmt := top 26
theorem sc_braided : FnScope ["letters", "first", "second", "third", "outer", "inner"] ["letters"] (defScope s_braided) := ⟨rfl, rfl, rfl, by decide +kernel, rfl, by decide +kernel, by decide +kernel⟩
theorem ok_braided {f1 : Addr} {e1 : FuncData} (d : D K mg "braided" s_braided ["letters"] f fd) (B : Blt mg) (BW : BltW mg) (d_with_sign : D K mg "with_sign" s_with_sign ["magnitude", "letter"] f1 e1) : FnOk P w K mg base CX0 2 f fd ["letters"] spBrdP := by
  have G_with_sign : FnOk P w K mg base CX0 1 f1 e1 ["magnitude", "letter"] spSgn := ok_with_sign d_with_sign
  refine d.F.ok sc_braided (fun vs H Q E h => ?_) (fun cdv A outer s H vs Q E hr h => ?_)
  · obtain ⟨_, _, _, _, rfl, _⟩ := h
    rfl
  obtain ⟨l, a, b, c, rfl, hl, ha, hb, q⟩ := h
  refine ⟨_, (pss_cons (ps_asg (pv 0) (pg_lst (by rfl) (pgs_cons (pg_name (i := 1) sc_braided.nd rfl (Or.inl rfl)) (pgs_cons (pg_name (i := 2) sc_braided.nd rfl (Or.inl rfl)) (pgs_cons (pg_name (i := 3) sc_braided.nd rfl (Or.inl rfl)) pgs_nil)))))
 (pss_cons (ps_par (i := 4) (j := 5) (by rfl) sc_braided.nd rfl rfl (by decide) rfl rfl (pa_cons (pe_callB call_abs (by rfl) BW.abs (by decide +kernel) (pa_cons (pv 1) pa_nil)) (pa_cons (pe_callB call_abs (by rfl) BW.abs (by decide +kernel) (pa_cons (pv 2) pa_nil)) pa_nil)) (by rfl))
 (pss_cons (ps_if (pt_cmpR op_ne (pe_callB call_abs (by rfl) BW.abs (by decide +kernel) (pa_cons (pe_op op_sub (pv 4) (pv 5)) pa_nil)) pe_int (nomark _)) (pss_one (ps_ret pe_non)) pss_nil)
 (pss_cons (ps_if (pt_cmpR op_eq (pv 3) (pe_un un_neg (pv 1)) (nomark _)) (pss_one (ps_ret (pe_lst (pa_cons (pe_call G_with_sign (hr.mono (by decide)) rfl d_with_sign.m d_with_sign.F.kp d_with_sign.b .nil pass0 (pa_cons (pv 5) (pa_cons (pe_un un_neg (pv 1)) pa_nil))) (pa_cons (pe_call G_with_sign (hr.mono (by decide)) rfl d_with_sign.m d_with_sign.F.kp d_with_sign.b .nil pass0 (pa_cons (pv 4) (pa_cons (pv 2) pa_nil))) (pa_cons (pe_call G_with_sign (hr.mono (by decide)) rfl d_with_sign.m d_with_sign.F.kp d_with_sign.b .nil pass0 (pa_cons (pv 5) (pa_cons (pv 1) pa_nil))) pa_nil)))))) pss_nil)
 (pss_cons (ps_if (PW.pt (pw_and (pt_cmpR op_eq (pv 3) (pv 1) (nomark _)) (pw_and1 (pt_cmpR op_eq (pe_cmpR op_gt (pv 1) pe_int (nomark _)) (pe_cmpR op_gt (pv 2) pe_int (nomark _)) (nomark _))))) (pss_one (ps_ret (pe_lst (pa_cons (pv 2) (pa_cons (pv 1) (pa_cons (pv 2) pa_nil)))))) pss_nil)
 (pss_one (ps_ret pe_non))))))), ?_⟩
  have sg1 : ∀ m : Int, sgn m (-a) = 0 - lsg a * m := fun m => by
    unfold sgn lsg
    by_cases z : 0 < a
    · rw [if_neg (by omega), if_pos z]; omega
    · rw [if_pos (by omega), if_neg z]; omega
  have sg2 : ∀ m x : Int, sgn m x = lsg x * m := fun m x => by
    unfold sgn lsg
    split <;> omega
  have nB : ∀ {x y : Int}, (!decide (V.int x = V.int y)) = true → x ≠ y := fun h z => by
    rw [z, decide_eq_true rfl] at h
    cases h
  have nB' : ∀ {x y : Int}, ¬ (!decide (V.int x = V.int y)) = true → x = y := fun h => Classical.byContradiction fun z => h (by rw [decide_eq_false fun y => z (V.int.inj y)]; rfl)
  refine ⟨_, rfl, l, _, rfl, SqL.here hl, rfl, _, _, rfl, _, _, rfl, _, _, rfl, rfl, ?_⟩
  refine ⟨_, rfl, a, rfl, _, rfl, b, rfl, _, _, rfl, ?_⟩
  show tSeq _ _ _ [some (.ref l), some (.int a), some (.int b), some (.int c), some (.int (ab a)), some (.int (ab b))] H
  refine ⟨_, rfl, _, rfl, _, _, rfl, rfl, _, rfl, rfl, _, rfl, ?_⟩
  refine ite2 (fun c2 => ?_) (fun c2 => ?_)
  · have c2 : ab (ab a - ab b) ≠ 1 := nB c2
    exact q .non H (Same.refl _) (by unfold brd; rw [if_pos (.inr c2)]; rfl)
  have c2 : ab (ab a - ab b) = 1 := nB' c2
  refine ⟨_, rfl, _, rfl, _, rfl, rfl, _, rfl, ?_⟩
  refine ite2 (fun c3 => ?_) (fun c3 => ?_)
  · have c3 : c = -a := V.int.inj (of_decide_eq_true c3)
    have e0 : brd a b c = some [0 - lsg a * ab b, lsg b * ab a, lsg a * ab b] := by
      unfold brd
      rw [if_neg (fun z => z.elim (fun y => y (by rw [c3, ab_n])) (fun y => y c2)), if_pos (by omega)]
    refine ⟨_, rfl, _, rfl, _, rfl, _, _, rfl, _, rfl, _, rfl, _, _, rfl, _, rfl, _, rfl, _, _, rfl, three_le, fun p np => ?_⟩
    exact q _ _ (Same.new np _) (by rw [e0, sg1, sg2, sg2]; exact ⟨p, rfl, np, upd_same⟩)
  have c3 : c ≠ -a := fun z => c3 (decide_eq_true (congrArg V.int z))
  refine ⟨_, rfl, _, rfl, rfl, _, rfl, ?_⟩
  by_cases c4 : c = a
  · refine ite_yes (decide_eq_true (congrArg V.int c4)) ?_
    have e0 : brd a b c = if lsg b = lsg a then some [b, a, b] else none := by
      unfold brd
      rw [if_neg (fun z => z.elim (fun y => y (by rw [c4])) (fun y => y c2)), if_neg (by omega)]
    refine ⟨_, rfl, _, _, rfl, rfl, _, rfl, _, _, rfl, rfl, rfl, _, rfl, ?_⟩
    by_cases s1 : 0 < a
    · by_cases s2 : 0 < b
      · rw [show lsg b = lsg a by unfold lsg; rw [if_pos s1, if_pos s2], if_pos rfl] at e0
        refine ite_yes (by show decide (V.bl (decide (0 < a)) = V.bl (decide (0 < b))) = _; rw [decide_eq_true s1, decide_eq_true s2]; rfl) ⟨_, rfl, _, rfl, _, rfl, three_le, fun p np => ?_⟩
        exact q _ _ (Same.new np _) (by rw [e0]; exact ⟨p, rfl, np, upd_same⟩)
      · rw [if_neg (by unfold lsg; rw [if_pos s1, if_neg s2]; decide)] at e0
        refine ite_no (by show decide (V.bl (decide (0 < a)) = V.bl (decide (0 < b))) = _; rw [decide_eq_true s1, decide_eq_false s2]; rfl) ?_
        exact q .non H (Same.refl _) (by rw [e0]; rfl)
    · by_cases s2 : 0 < b
      · rw [if_neg (by unfold lsg; rw [if_neg s1, if_pos s2]; decide)] at e0
        refine ite_no (by show decide (V.bl (decide (0 < a)) = V.bl (decide (0 < b))) = _; rw [decide_eq_false s1, decide_eq_true s2]; rfl) ?_
        exact q .non H (Same.refl _) (by rw [e0]; rfl)
      · rw [show lsg b = lsg a by unfold lsg; rw [if_neg s1, if_neg s2], if_pos rfl] at e0
        refine ite_yes (by show decide (V.bl (decide (0 < a)) = V.bl (decide (0 < b))) = _; rw [decide_eq_false s1, decide_eq_false s2]; rfl) ⟨_, rfl, _, rfl, _, rfl, three_le, fun p np => ?_⟩
        exact q _ _ (Same.new np _) (by rw [e0]; exact ⟨p, rfl, np, upd_same⟩)
  · refine ite_no (decide_eq_false fun z => c4 (V.int.inj z)) (iteF ?_)
    have e0 : brd a b c = none := by
      unfold brd
      have : ab c ≠ ab a := by
        unfold ab
        split <;> split <;> omega
      rw [if_pos (.inl this)]
    exact q .non H (Same.refl _) (by rw [e0]; rfl)

abbrev s_replaced_by : Stmt := top 25
theorem sc_replaced_by : FnScope ["name", "letters"] ["name", "letters"] (defScope s_replaced_by) := ⟨rfl, rfl, rfl, by decide +kernel, rfl, by decide +kernel, by decide +kernel⟩
theorem ok_replaced_by {f1 f2 : Addr} {e1 e2 : FuncData} (d : D K mg "replaced_by" s_replaced_by ["name", "letters"] f fd) (B : Blt mg) (BW : BltW mg) (d_with_sign : D K mg "with_sign" s_with_sign ["magnitude", "letter"] f1 e1) (d_braided : D K mg "braided" s_braided ["letters"] f2 e2) : FnOk P w K mg base CX0 3 f fd ["name", "letters"] spRepl := by
  have G_braided : FnOk P w K mg base CX0 2 f2 e2 ["letters"] spBrdP := ok_braided d_braided B BW d_with_sign
  refine d.F.ok sc_replaced_by (fun vs H Q E h => ?_) (fun cdv A outer s H vs Q E hr h => ?_)
  · obtain ⟨_, _, _, rfl, _⟩ := h
    rfl
  obtain ⟨l, xs, u, rfl, hu, hl, hx, hz, q⟩ := h
  refine ⟨_, (pss_cons (ps_if (pt_cmpR op_eq (pv 0) pe_str (nomark _)) (pss_one (ps_ret (pe_ifExp (pt_cmpR op_eq (pe_ix ix_list (pv 1) pe_int (fun _ _ => rfl)) (pe_un un_neg (pe_ix ix_list (pv 1) pe_int (fun _ _ => rfl))) (nomark _)) (pe_lst pa_nil) pe_non))) pss_nil)
 (pss_cons (ps_if (pt_cmpR op_eq (pv 0) pe_str (nomark _)) (pss_one (ps_ret (pe_ifExp (pt_cmpR op_ge (pe_callB call_abs (by rfl) BW.abs (by decide +kernel) (pa_cons (pe_op op_sub (pe_callB call_abs (by rfl) BW.abs (by decide +kernel) (pa_cons (pe_ix ix_list (pv 1) pe_int (fun _ _ => rfl)) pa_nil)) (pe_callB call_abs (by rfl) BW.abs (by decide +kernel) (pa_cons (pe_ix ix_list (pv 1) pe_int (fun _ _ => rfl)) pa_nil))) pa_nil)) pe_int (nomark _)) (pe_lst (pa_cons (pe_ix ix_list (pv 1) pe_int (fun _ _ => rfl)) (pa_cons (pe_ix ix_list (pv 1) pe_int (fun _ _ => rfl)) pa_nil))) pe_non))) pss_nil)
 (pss_one (ps_ret (pe_call G_braided (hr.mono (by decide)) rfl d_braided.m d_braided.F.kp d_braided.b .nil pass0 (pa_cons (pv 1) pa_nil)))))), ?_⟩
  match u, hu, hx with
  | 0, _, hx =>
    obtain ⟨a, b, rfl⟩ := ints2 hx
    refine ⟨_, rfl, rfl, _, rfl, ite_yes (by decide +kernel) ?_⟩
    have ek : mvK 0 [a, b] 0 = if a = 0 - b then some [] else none := rfl
    refine ⟨_, rfl, l, _, _, _, rfl, rfl, SqL.here hl, rfl, _, rfl, l, _, _, _, rfl, rfl, SqL.here hl, rfl, _, rfl, rfl, _, rfl, ?_⟩
    refine ite2 (fun c => ?_) (fun c => ?_)
    · have c : a = -b := V.int.inj (of_decide_eq_true c)
      refine ⟨zero_le', fun p np => ?_⟩
      exact q _ _ (Same.new np _) (by rw [ek, if_pos (by omega)]; exact ⟨p, rfl, np, upd_same⟩)
    · have c : a ≠ -b := fun z => c (decide_eq_true (congrArg V.int z))
      exact q _ _ (Same.refl _) (by rw [ek, if_neg (by omega)]; rfl)
  | 1, _, hx =>
    obtain ⟨a, b, rfl⟩ := ints2 hx
    refine ⟨_, rfl, rfl, _, rfl, ite_no (by decide +kernel) ?_⟩
    refine ⟨_, rfl, rfl, _, rfl, ite_yes (by decide +kernel) ?_⟩
    have ek : mvK 1 [a, b] 0 = if ab (ab a - ab b) > 1 then some [b, a] else none := rfl
    refine ⟨_, rfl, l, _, _, _, rfl, rfl, SqL.here hl, rfl, _, rfl, _, rfl, l, _, _, _, rfl, rfl, SqL.here hl, rfl, _, rfl, _, _, rfl, rfl, _, rfl, _, _, rfl, rfl, _, rfl, ?_⟩
    refine ite2 (fun c => ?_) (fun c => ?_)
    · have c : 2 ≤ ab (ab a - ab b) := of_decide_eq_true c
      refine ⟨_, rfl, l, _, _, _, rfl, rfl, SqL.here hl, rfl, _, rfl, l, _, _, _, rfl, rfl, SqL.here hl, rfl, two_le, fun p np => ?_⟩
      exact q _ _ (Same.new np _) (by rw [ek, if_pos (by omega)]; exact ⟨p, rfl, np, upd_same⟩)
    · have c : ¬ 2 ≤ ab (ab a - ab b) := fun z => c (decide_eq_true z)
      exact q _ _ (Same.refl _) (by rw [ek, if_neg (by omega)]; rfl)
  | 2, _, hx =>
    obtain ⟨a, b, c, rfl⟩ := ints3 hx
    refine ⟨_, rfl, rfl, _, rfl, ite_no (by decide +kernel) ?_⟩
    refine ⟨_, rfl, rfl, _, rfl, ite_no (by decide +kernel) ?_⟩
    exact ⟨_, rfl, l, a, b, c, rfl, hl, hz a (by simp), hz b (by simp), q⟩

abbrev s_insertion_of : Stmt := top 24
theorem sc_insertion_of : FnScope ["letters", "move", "name", "start", "letter"] ["letters", "move"] (defScope s_insertion_of) := ⟨rfl, rfl, rfl, by decide +kernel, rfl, by decide +kernel, by decide +kernel⟩
theorem ok_insertion_of {f1 : Addr} {e1 : FuncData} (d : D K mg "insertion_of" s_insertion_of ["letters", "move"] f fd) (B : Blt mg) (BW : BltW mg) (CW : CstW mg) (d_is_letter : D K mg "is_letter" s_is_letter ["number"] f1 e1) : FnOk P w K mg base CX0 2 f fd ["letters", "move"] (spIns K) := by
  have G_is_letter : FnOk P w K mg base CX0 1 f1 e1 ["number"] spLet := ok_is_letter d_is_letter BW CW
  refine d.F.ok sc_insertion_of (fun vs H Q E h => ?_) (fun cdv A outer s H vs Q E hr h => ?_)
  · obtain ⟨_, _, _, _, _, _, rfl, _⟩ := h
    rfl
  obtain ⟨l, m, ns, nm, at_, k, rfl, hl, hm, hn, q⟩ := h
  refine ⟨_, (pss_cons (ps_asg (pv 1) (pg_tup (by rfl) (pgs_cons (pg_name (i := 2) sc_insertion_of.nd rfl (Or.inl rfl)) (pgs_cons (pg_name (i := 3) sc_insertion_of.nd rfl (Or.inl rfl)) (pgs_cons (pg_name (i := 4) sc_insertion_of.nd rfl (Or.inl rfl)) pgs_nil)))))
 (pss_cons (ps_if (PW.pt (pw_or (pt_cmpR op_ne (pv 2) pe_str (nomark _)) (pw_or (pt_not (pt_chain op_le op_le pe_int (pv 3) (pe_callB call_len_seq (by rfl) B.len PySem.boot_len (pa_cons (pv 0) pa_nil)))) (pw_or1 (pt_not (pt_val (pe_call G_is_letter (hr.mono (by decide)) rfl d_is_letter.m d_is_letter.F.kp d_is_letter.b .nil pass0 (pa_cons (pv 4) pa_nil)))))))) (pss_one (ps_ret pe_non)) pss_nil)
 (pss_one (ps_ret (pe_tup (pa_cons (pv 3) (pa_cons (pv 3) (pa_cons (pe_lst (pa_cons (pv 4) (pa_cons (pe_un un_neg (pv 4)) pa_nil))) pa_nil)))))))), ?_⟩
  have lnR : ((ns.map V.int).length : Int) = ns.length := by rw [List.length_map]
  have nB : ∀ {x y : Str}, (!decide (V.str x = V.str y)) = true → x ≠ y := fun h z => by
    rw [z, decide_eq_true rfl] at h
    cases h
  refine ⟨_, rfl, m, _, rfl, hm, rfl, _, _, rfl, _, _, rfl, _, _, rfl, rfl, ?_⟩
  have out : ¬ (nm = "insert" ∧ 0 ≤ at_ ∧ at_ ≤ ns.length ∧ 0 < ab k ∧ ab k < 41) → Q .non H := fun z => q .non H (Same.refl _) (by
    unfold chX
    dsimp only
    rw [if_neg z]
    rfl)
  refine ⟨_, rfl, rfl, _, rfl, ?_⟩
  refine ite2 (fun c1 => ?_) (fun c1 => ?_)
  · exact iteT (out fun z => nB c1 z.1)
  have c1 : nm = "insert" := Classical.byContradiction fun z => c1 (by rw [decide_eq_false fun y => z (V.str.inj y)]; rfl)
  by_cases e2 : 0 ≤ at_
  · by_cases e3 : at_ ≤ ns.length
    · refine ⟨_, rfl, _, _, rfl, rfl, _, rfl, ite_yes (decide_eq_true e2) ⟨_, rfl, l, _, rfl, .inl (SqL.here hl), _, _, rfl, rfl, _, rfl, ?_⟩⟩
      rw [decide_eq_true (show at_ ≤ ((ns.map V.int).length : Int) by rw [lnR]; exact e3)]
      refine iteF ?_
      refine ⟨_, rfl, k, rfl, _, rfl, ?_⟩
      by_cases e4 : 0 < ab k ∧ ab k < 41
      · have ek : isLet k = true := by
          unfold isLet
          rw [decide_eq_true (show k ≠ 0 from ab_z (by omega)), decide_eq_true (show ab k ≤ 40 by omega)]
          rfl
        rw [ek]
        refine iteF ⟨_, rfl, _, rfl, _, rfl, _, rfl, _, rfl, two_le, fun p np => ⟨three_le, fun t nt => ?_⟩⟩
        have s1 := Same.new np (.lst [.int k, .int (-k)])
        have s2 := Same.new nt (.tup [.int at_, .int at_, .ref p])
        refine q _ _ (s1.trans s2) ?_
        have ec : chX nm [at_, k] ns = some (at_.toNat, at_.toNat, [k, 0 - k]) := by
          unfold chX
          dsimp only
          rw [if_pos ⟨c1, e2, e3, e4.1, e4.2⟩]
        rw [ec]
        refine ⟨t, p, rfl, SqT.here ?_, np, ?_⟩
        · rw [upd_same]
          show some (HO.tup [.int at_, .int at_, .ref p]) = some (.tup [.int ((at_.toNat : Nat) : Int), .int ((at_.toNat : Nat) : Int), .ref p])
          rw [Int.toNat_of_nonneg e2]
        · have := s2 _ _ (show upd H p (.lst [.int k, .int (-k)]) p = _ from upd_same)
          rw [this]
          show some (HO.lst [.int k, .int (-k)]) = some (.lst [.int k, .int (0 - k)])
          rw [show -k = 0 - k by omega]
      · have ek : isLet k = false := by
          unfold isLet
          by_cases z : k = 0
          · rw [decide_eq_false (show ¬ k ≠ 0 from fun y => y z)]
            rfl
          · have := ab_pos' z
            rw [decide_eq_false (show ¬ ab k ≤ 40 by omega), Bool.and_false]
        rw [ek]
        exact iteT (out fun z => e4 ⟨z.2.2.2.1, z.2.2.2.2⟩)
    · refine ⟨_, rfl, _, _, rfl, rfl, _, rfl, ite_yes (decide_eq_true e2) ⟨_, rfl, l, _, rfl, .inl (SqL.here hl), _, _, rfl, rfl, _, rfl, ?_⟩⟩
      rw [decide_eq_false (show ¬ at_ ≤ ((ns.map V.int).length : Int) by rw [lnR]; exact e3)]
      exact iteT (iteT (out fun z => e3 z.2.2.1))
  · refine ⟨_, rfl, _, _, rfl, rfl, _, rfl, ite_no (decide_eq_false e2) ⟨_, rfl, iteT (iteT (out fun z => e2 z.2.1))⟩⟩

abbrev s_change_of : Stmt := top 23
theorem sc_change_of : FnScope ["letters", "move", "name", "start", "end", "replaced"] ["letters", "move"] (defScope s_change_of) := ⟨rfl, rfl, rfl, by decide +kernel, rfl, by decide +kernel, by decide +kernel⟩
theorem ok_change_of {WD : Addr} {f1 f2 f3 f4 f5 : Addr} {e1 e2 e3 e4 e5 : FuncData} (d : D K mg "change_of" s_change_of ["letters", "move"] f fd) (B : Blt mg) (BW : BltW mg) (CW : CstW mg) (mW : mg "WIDTHS" = some (.ref WD))
    (kW : ∀ nm : Str, ∃ r, KDin K w WD nm r ∧ (cdW nm = none → r = none) ∧ ∀ u, cdW nm = some u → ∃ t, r = some (.int (mvN u : Nat) t)) (d_is_letter : D K mg "is_letter" s_is_letter ["number"] f1 e1) (d_with_sign : D K mg "with_sign" s_with_sign ["magnitude", "letter"] f2 e2) (d_insertion_of : D K mg "insertion_of" s_insertion_of ["letters", "move"] f3 e3) (d_replaced_by : D K mg "replaced_by" s_replaced_by ["name", "letters"] f4 e4) (d_braided : D K mg "braided" s_braided ["letters"] f5 e5) : FnOk P w K mg base CX0 4 f fd ["letters", "move"] (spChange K) := by
  have G_insertion_of : FnOk P w K mg base CX0 2 f3 e3 ["letters", "move"] (spIns K) := ok_insertion_of d_insertion_of B BW CW d_is_letter
  have G_replaced_by : FnOk P w K mg base CX0 3 f4 e4 ["name", "letters"] spRepl := ok_replaced_by d_replaced_by B BW d_with_sign d_braided
  refine d.F.ok sc_change_of (fun vs H Q E h => ?_) (fun cdv A outer s H vs Q E hr h => ?_)
  · obtain ⟨_, _, _, _, _, rfl, _⟩ := h
    rfl
  obtain ⟨l, m, ns, nm, args, rfl, hl, hm, ha, hn, hz, q⟩ := h
  refine ⟨_, (pss_cons (ps_if (pt_cmpR op_eq (pe_callB call_len_seq (by rfl) B.len PySem.boot_len (pa_cons (pv 1) pa_nil)) pe_int (nomark _)) (pss_one (ps_ret (pe_call G_insertion_of (hr.mono (by decide)) rfl d_insertion_of.m d_insertion_of.F.kp d_insertion_of.b .nil pass0 (pa_cons (pv 0) (pa_cons (pv 1) pa_nil))))) pss_nil)
 (pss_cons (ps_if (PW.pt (pw_or (pt_cmpR op_ne (pe_callB call_len_seq (by rfl) B.len PySem.boot_len (pa_cons (pv 1) pa_nil)) pe_int (nomark _)) (pw_or1 (pt_cmpR op_notInKD (pe_ix ix_tup (pv 1) pe_int (fun _ _ => rfl)) (pe_glob (v := .ref WD) rfl mW rfl) (by with_unfolding_all rfl))))) (pss_one (ps_ret pe_non)) pss_nil)
 (pss_cons (ps_asg (pv 1) (pg_tup (by rfl) (pgs_cons (pg_name (i := 2) sc_change_of.nd rfl (Or.inl rfl)) (pgs_cons (pg_name (i := 3) sc_change_of.nd rfl (Or.inl rfl)) pgs_nil))))
 (pss_cons (ps_set (i := 4) sc_change_of.nd rfl (Or.inl rfl) (pe_op op_add (pv 3) (pe_ix ix_kdict (pe_glob (v := .ref WD) rfl mW rfl) (pv 2) (fun _ _ => rfl))))
 (pss_cons (ps_if (PW.pt (pw_or (pt_cmpR op_lt (pv 3) pe_int (nomark _)) (pw_or1 (pt_cmpR op_gt (pv 4) (pe_callB call_len_seq (by rfl) B.len PySem.boot_len (pa_cons (pv 0) pa_nil)) (nomark _))))) (pss_one (ps_ret pe_non)) pss_nil)
 (pss_cons (ps_set (i := 5) sc_change_of.nd rfl (Or.inl rfl) (pe_call G_replaced_by (hr.mono (by decide)) rfl d_replaced_by.m d_replaced_by.F.kp d_replaced_by.b .nil pass0 (pa_cons (pv 2) (pa_cons (pe_slice sl_list (pv 0) (po_some (pv 3)) (po_some (pv 4))) pa_nil))))
 (pss_one (ps_ret (pe_ifExp (pt_cmpR op_isN (pv 5) pe_non (nomark _)) pe_non (pe_tup (pa_cons (pv 3) (pa_cons (pv 4) (pa_cons (pv 5) pa_nil))))))))))))), ?_⟩
  have lnR : ((ns.map V.int).length : Int) = ns.length := by rw [List.length_map]
  match args, ha, hm, q with
  | [at_, k], _, hm, q =>
    have hm : SqT K H m [.str nm, .int at_, .int k] := hm
    refine ⟨_, rfl, m, _, rfl, .inr hm, rfl, _, rfl, ite_yes (by show decide (V.int 3 = V.int 3) = true; decide) ?_⟩
    exact ⟨_, rfl, _, rfl, l, m, ns, nm, at_, k, rfl, hl, hm, hn, q⟩
  | [], _, hm, q =>
    have hm : SqT K H m [.str nm] := hm
    refine ⟨_, rfl, m, _, rfl, .inr hm, rfl, _, rfl, ite_no (by show decide (V.int 1 = V.int 3) = false; decide) ?_⟩
    refine ⟨_, rfl, m, _, rfl, .inr hm, rfl, _, rfl, ite_yes (by show (!decide (V.int 1 = V.int 2)) = true; decide) (iteT ?_)⟩
    exact q .non H (Same.refl _) rfl
  | [at_], _, hm, q =>
    have hm : SqT K H m [.str nm, .int at_] := hm
    refine ⟨_, rfl, m, _, rfl, .inr hm, rfl, _, rfl, ite_no (by show decide (V.int 2 = V.int 3) = false; decide) ?_⟩
    refine ⟨_, rfl, m, _, rfl, .inr hm, rfl, _, rfl, ite_no (by show (!decide (V.int 2 = V.int 2)) = false; decide) ?_⟩
    obtain ⟨r0, hk, k1, k2⟩ := kW nm
    refine ⟨_, rfl, m, _, _, _, rfl, rfl, hm, rfl, nm, WD, r0, rfl, rfl, hk, _, rfl, ?_⟩
    cases hc : cdW nm with
    | none =>
      rw [k1 hc]
      refine iteT ?_
      refine q .non H (Same.refl _) ?_
      unfold chX
      dsimp only
      rw [hc]
      by_cases z : 0 ≤ at_
      · rw [if_pos z]; rfl
      · rw [if_neg z]; rfl
    | some u =>
      obtain ⟨tk, rfl⟩ := k2 u hc
      obtain ⟨hnm, hu⟩ := cdW_mw hc
      have ec : chX nm [at_] ns = if 0 ≤ at_ then ((mvK u ns at_.toNat).map fun m => (at_.toNat, at_.toNat + mvN u, m)) else none := by
        unfold chX
        dsimp only
        rw [hc]
      refine iteF ?_
      refine ⟨_, rfl, m, _, rfl, hm, rfl, _, _, rfl, _, _, rfl, rfl, ?_⟩
      obtain ⟨es, n0, hl1, hl2, hl3, hl4⟩ := hk
      refine ⟨_, rfl, _, rfl, WD, nm, .int (mvN u : Nat), rfl, rfl, ⟨es, n0, _, hl1, hl2, hl3, ⟨_, rfl⟩⟩, _, _, rfl, rfl, ?_⟩
      by_cases c0 : at_ < 0
      · refine ⟨_, rfl, _, _, rfl, rfl, _, rfl, ite_yes (decide_eq_true c0) (iteT ?_)⟩
        exact q .non H (Same.refl _) (by rw [ec, if_neg (by omega)]; rfl)
      obtain ⟨i, rfl⟩ := Int.eq_ofNat_of_zero_le (show 0 ≤ at_ by omega)
      rw [if_pos (by omega), Int.toNat_natCast] at ec
      by_cases c1 : ns.length < i + mvN u
      · refine ⟨_, rfl, _, _, rfl, rfl, _, rfl, ite_no (decide_eq_false c0) ⟨_, rfl, _, rfl, l, _, rfl, .inl (SqL.here hl), _, _, rfl, rfl, _, rfl, ?_⟩⟩
        rw [lnR]
        rw [decide_eq_true (show (ns.length : Int) < (i : Int) + (mvN u : Nat) by omega)]
        refine iteT ?_
        have := mvF_out hu c1
        exact q .non H (Same.refl _) (by rw [ec, Option.map_eq_none_iff.mp this]; rfl)
      refine ⟨_, rfl, _, _, rfl, rfl, _, rfl, ite_no (decide_eq_false c0) ⟨_, rfl, _, rfl, l, _, rfl, .inl (SqL.here hl), _, _, rfl, rfl, _, rfl, ?_⟩⟩
      rw [lnR]
      rw [decide_eq_false (show ¬ (ns.length : Int) < (i : Int) + (mvN u : Nat) by omega)]
      refine iteF ?_
      refine ⟨_, rfl, _, rfl, _, rfl, (i : Int), rfl, _, rfl, (i : Int) + (mvN u : Nat), rfl, l, _, rfl, SqL.here hl, fun c nc => ?_⟩
      have ecut : cutV (ns.map V.int) (some (i : Int)) (some ((i : Int) + (mvN u : Nat))) = ((ns.drop i).take (mvN u)).map V.int := by
        rw [show (i : Int) + (mvN u : Nat) = ((i + mvN u : Nat) : Int) by omega]
        unfold cutV
        rw [HT.sIx_nat, HT.sIx_nat, List.length_map, Nat.min_eq_left (by omega), Nat.min_eq_left (by omega), Nat.add_sub_cancel_left, List.map_take, List.map_drop]
      rw [ecut]
      have s1 := Same.new nc (.lst (((ns.drop i).take (mvN u)).map V.int))
      refine ⟨c, (ns.drop i).take (mvN u), u, by rw [hnm]; rfl, hu, upd_same, by rw [List.length_take, List.length_drop]; omega, fun x hx => hz x (List.mem_of_mem_drop (List.mem_of_mem_take hx)), fun v H2 s2 o2 => ?_⟩
      rw [← mvK_cut hu (by omega)] at o2
      refine ⟨_, rfl, rfl, _, rfl, ?_⟩
      cases hkk : mvK u ns i with
      | none =>
        rw [hkk] at o2 ec
        have o2 : v = .non := o2
        subst o2
        refine ite_yes (decide_eq_true rfl) ?_
        exact q .non H2 (s1.trans s2) (by rw [ec]; rfl)
      | some mm =>
        rw [hkk] at o2 ec
        obtain ⟨p, rfl, np, hp⟩ := o2
        refine ite_no (decide_eq_false (fun z => by cases z)) ⟨_, rfl, _, rfl, _, rfl, three_le, fun t nt => ?_⟩
        have s3 := Same.new nt (.tup [.int (i : Int), .int ((i : Int) + (mvN u : Nat)), .ref p])
        refine q _ _ ((s1.trans s2).trans s3) ?_
        rw [ec]
        refine ⟨t, p, rfl, SqT.here upd_same, s1.free np, ?_⟩
        exact s3 _ _ hp
  | _ :: _ :: _ :: _, h, _, _ => rw [List.length_cons, List.length_cons, List.length_cons] at h; omega

abbrev s_apply_moves : Stmt := top 22
theorem sc_apply_moves : FnScope ["word", "moves", "letters", "position", "move", "change", "start", "end", "replaced"] ["word", "moves"] (defScope s_apply_moves) := ⟨rfl, rfl, rfl, by decide +kernel, rfl, by decide +kernel, by decide +kernel⟩
theorem ok_apply_moves {CWd CX fL WD : Addr} {fdL : FuncData} {f1 f2 f3 f4 f5 f6 f7 f8 : Addr} {e1 e2 e3 e4 e5 e6 e7 e8 : FuncData} (d : D K mg "apply_moves" s_apply_moves ["word", "moves"] f fd) (B : Blt mg) (BW : BltW mg) (CW : CstW mg) (EC : ErrC K mg "InvalidWord" CWd) (FL : FunS P K mg "InvalidStep" "InvalidStep.__init__" s_ISInit ["self", "position"] CX fL fdL) (nL : PySem.W.findIn K (.ref CX) "position" = some none) (mW : mg "WIDTHS" = some (.ref WD))
    (kW : ∀ nm : Str, ∃ r, KDin K w WD nm r ∧ (cdW nm = none → r = none) ∧ ∀ u, cdW nm = some u → ∃ t, r = some (.int (mvN u : Nat) t)) (d_is_letter : D K mg "is_letter" s_is_letter ["number"] f1 e1) (d_are_letters : D K mg "are_letters" s_are_letters ["numbers"] f6 e6) (d_check_word : D K mg "check_word" s_check_word ["word"] f7 e7) (d_with_sign : D K mg "with_sign" s_with_sign ["magnitude", "letter"] f2 e2) (d_change_of : D K mg "change_of" s_change_of ["letters", "move"] f8 e8) (d_insertion_of : D K mg "insertion_of" s_insertion_of ["letters", "move"] f3 e3) (d_replaced_by : D K mg "replaced_by" s_replaced_by ["name", "letters"] f4 e4) (d_braided : D K mg "braided" s_braided ["letters"] f5 e5) : FnOk P w K mg base (L2N.CX P w) 5 f fd ["word", "moves"] (spApply K CWd CX) := by
  have GL : FnOk P w K mg base CX0 1 fL fdL ["self", "position"] (spS CX "position" okInt) := ok_ISInit FL nL
  have G_check_word : FnOk P w K mg base (L2N.CX P w) 3 f7 e7 ["word"] (spChkW K CWd) := ok_check_word d_check_word B BW CW EC d_is_letter d_are_letters
  have G_change_of : FnOk P w K mg base CX0 4 f8 e8 ["letters", "move"] (spChange K) := ok_change_of d_change_of B BW CW mW kW d_is_letter d_with_sign d_insertion_of d_replaced_by d_braided
  refine Fun.okN d.F sc_apply_moves (fun vs H Q E h => ?_) (fun cdv A outer s H vs Q E hr h => ?_)
  · obtain ⟨_, _, _, _, _, rfl, _⟩ := h
    rfl
  obtain ⟨a, b, ns, us, ms, rfl, ha, hn, hb, hM, hu, hA, q, qE, qW⟩ := h
  rcases hb with hb | hb
  · refine ⟨_, (pss_cons (ps_expr (pe_call G_check_word (hr.mono (by decide)) rfl d_check_word.m d_check_word.F.kp d_check_word.b .nil passD (pa_cons (pv 0) pa_nil)))
 (pss_cons (ps_set (i := 2) sc_apply_moves.nd rfl (Or.inl rfl) (pe_callTy call_list_of (by rfl) B.list (by decide +kernel) (pa_cons (pv 0) pa_nil)))
 (pss_cons (ps_for (passes_of rfl) rfl (pi_enum (by rfl) B.enumerate (pa_cons (pv 1) pa_nil)) (pg_tup (by rfl) (pgs_cons (pg_name (i := 3) sc_apply_moves.nd rfl (Or.inl rfl)) (pgs_cons (pg_name (i := 4) sc_apply_moves.nd rfl (Or.inl rfl)) pgs_nil)))
  (pss_cons (ps_set (i := 5) sc_apply_moves.nd rfl (Or.inl rfl) (pe_call G_change_of (hr.mono (by decide)) rfl d_change_of.m d_change_of.F.kp d_change_of.b .nil pass0 (pa_cons (pv 2) (pa_cons (pv 4) pa_nil))))
 (pss_cons (ps_if (pt_cmpR op_isN (pv 5) pe_non (nomark _)) (pss_one (L2N.ps_raise rfl (L2N.takes_of rfl rfl rfl rfl) (pmkN_oex FL.T FL.iC FL.tI GL (hr.mono (by decide)) FL.b (fun _ _ _ _ _ _ _ h => h.elim) (by exact rfl) FL.m (pa_cons (pv 3) pa_nil)))) pss_nil)
 (pss_cons (ps_asg (pv 5) (pg_tup (by rfl) (pgs_cons (pg_name (i := 6) sc_apply_moves.nd rfl (Or.inl rfl)) (pgs_cons (pg_name (i := 7) sc_apply_moves.nd rfl (Or.inl rfl)) (pgs_cons (pg_name (i := 8) sc_apply_moves.nd rfl (Or.inl rfl)) pgs_nil)))))
 (pss_one (ps_asg (pv 8) (pg_slc (pv 2) (pv 6) (pv 7))))))))
 (pss_one (ps_ret (pe_callTy call_tuple_of (by rfl) B.tuple (by decide +kernel) (pa_cons (pv 2) pa_nil))))))), ?_⟩
    refine ⟨_, rfl, a, ns, rfl, ha, by omega, fun ok H1 s1 => ?_, fun no H1 s1 => qW no H1 s1⟩
    have hA := hA ok
    have q := q ok
    have qE := qE ok
    have hL : Lets 40 ns := fun n hn => by
      have h1 := (Bool.and_eq_true_iff.mp ok).2
      have h2 := List.all_eq_true.mp h1 n hn
      have h3 := Bool.and_eq_true_iff.mp h2
      exact ⟨of_decide_eq_true h3.1, of_decide_eq_true h3.2⟩
    refine ⟨_, rfl, a, _, rfl, .inr ((Tp.same s1).sqT ha), fun D nD => ?_⟩
    have s2 := s1.trans (Same.new nD (.lst (ns.map V.int)))
    have hD0 : H D = none := s1.free nD
    have hD2 : upd H1 D (.lst (ns.map V.int)) D = some (.lst (ns.map V.int)) := upd_same
    generalize upd H1 D (.lst (ns.map V.int)) = H2 at *
    refine ⟨_, rfl, b, us, rfl, s2.seq hb, for_EL (xs := us) (fun j σ G => ∃ (x3 x4 x5 x6 x7 x8 : Option V) (cur : List Int), σ = [some (.ref a), some (.ref b), some (.ref D), x3, x4, x5, x6, x7, x8] ∧ Same H G ∧ G D = some (.lst (cur.map V.int)) ∧ runX (ms.drop j) j cur = runX ms 0 ns ∧ runA (ms.drop j) cur ∧ Lets 40 cur) ⟨none, none, none, none, none, none, ns, rfl, s2, hD2, rfl, hA, hL⟩ (fun j σ G z => ?_) ?_ ?_⟩
    · obtain ⟨_, _, _, _, _, _, _, _, sm, _⟩ := z
      exact sm.seq hb
    · rintro j v σ G hv ⟨x3, x4, x5, x6, x7, x8, cur, rfl, sm, hD, hrun, hrA, hLc⟩ t nt
      have hj : j < us.length := (List.getElem?_eq_some_iff.mp hv).1
      have hjm : j < ms.length := by rw [← hM.1]; exact hj
      have em : ms[j]? = some ms[j] := List.getElem?_eq_getElem hjm
      obtain ⟨p, rfl, hp⟩ := hM.2 j v _ hv em
      have st := Same.new nt (.tup [.int (j : Nat), .ref p])
      have sm2 := sm.trans st
      have hD2 := st _ _ hD
      rw [List.drop_eq_getElem_cons hjm] at hrun hrA
      generalize ms[j] = mj at *
      obtain ⟨nm, args⟩ := mj
      have hrA : cur.length ≤ 900 ∧ args.length ≤ 2 ∧ ∀ r, mvX nm args cur = some r → runA (ms.drop (j + 1)) r := hrA
      have hrun : (match mvX nm args cur with | none => Except.error j | some r => runX (ms.drop (j + 1)) (j + 1) r) = runX ms 0 ns := hrun
      refine ⟨t, _, rfl, SqT.here upd_same, rfl, _, _, rfl, _, _, rfl, rfl, ?_⟩
      refine ⟨_, rfl, _, rfl, D, p, cur, nm, args, rfl, hD2, (Tp.same sm2).sqT hp, hrA.2.1, by omega, fun x hx => (hLc x hx).1, fun v H3 s3 o3 => ?_⟩
      have sm3 := sm2.trans s3
      have hD3 := s3 _ _ hD2
      refine ⟨_, rfl, rfl, _, rfl, ?_⟩
      cases hc : chX nm args cur with
      | none =>
        rw [hc] at o3
        have o3 : v = .non := o3
        subst o3
        have e0 : mvX nm args cur = none := by unfold mvX; rw [hc]; rfl
        rw [e0] at hrun
        refine ite_yes (decide_eq_true rfl) ?_
        refine ⟨_, rfl, (by show 1 ≤ 1000; omega), fun b1 nb1 => ⟨b1, _, rfl, upd_same, ⟨_, rfl, by omega, by omega⟩, fun dx ndx ne => ?_⟩⟩
        rw [upd_ne ne] at ndx
        refine ⟨rfl, dx, _, upd_same, (upd_ne ne).trans upd_same, ndx, ?_⟩
        refine qE j hrun.symm dx _ (fun b' o hb' => ?_) (sm3.free ndx) upd_same
        have h2 := sm3 _ _ hb'
        have ba : b' ≠ b1 := ne_of_none h2 nb1
        have bd : b' ≠ dx := ne_of_none h2 ndx
        rw [upd_ne bd, del_ne ba, upd_ne ba, upd_ne bd, upd_ne ba]
        exact h2
      | some c =>
        obtain ⟨s0, e0, mm⟩ := c
        rw [hc] at o3
        obtain ⟨u, pr, rfl, hu3, npr, hpr⟩ := o3
        have em2 : mvX nm args cur = some (cur.take s0 ++ mm ++ cur.drop e0) := by unfold mvX; rw [hc]; rfl
        have hcb := chX_b hc
        refine ite_no (decide_eq_false (fun z => by cases z)) ?_
        refine ⟨_, rfl, u, _, rfl, hu3, rfl, _, _, rfl, _, _, rfl, _, _, rfl, rfl, ?_⟩
        have nDp : D ≠ pr := fun z => by rw [← z, hD2] at npr; cases npr
        have lc : (cur.map V.int).length = cur.length := by rw [List.length_map]
        refine ⟨_, rfl, _, rfl, _, rfl, (s0 : Int), rfl, _, rfl, (e0 : Int), rfl, D, pr, _, _, (s0 : Int), (e0 : Int), rfl, rfl, rfl, rfl, hD3, hpr, nDp, by omega, by have := hcb.1; omega, by rw [lc]; have := hcb.2.1; omega, ?_, ?_⟩
        · rw [lc, List.length_map]
          exact Nat.le_trans (show cur.length + mm.length ≤ 2000 by have := hcb.2.2; omega) (by decide)
        rw [em2] at hrun
        refine ⟨_, _, _, _, _, _, cur.take s0 ++ mm ++ cur.drop e0, rfl, fun b' o' e' => ?_, ?_, hrun, hrA.2.2 _ em2, mvX_lets hLc em2⟩
        · rw [upd_ne (ne_of_none e' hD0)]
          exact sm3 _ _ e'
        · rw [upd_same, Int.toNat_natCast, Int.toNat_natCast, List.map_append, List.map_append, List.map_take, List.map_drop]
    · rintro σ G ⟨x3, x4, x5, x6, x7, x8, cur, rfl, sm, hD, hrun, hrA, hLc⟩
      rw [hM.1, List.drop_length] at hrun
      have hrun : Except.ok cur = runX ms 0 ns := hrun
      refine ⟨_, rfl, D, _, rfl, .inl ⟨SqL.here hD, fun p np => ?_⟩⟩
      exact q cur hrun.symm p _ (SqT.here upd_same) (sm.trans (Same.new np _))
  · refine ⟨_, (pss_cons (ps_expr (pe_call G_check_word (hr.mono (by decide)) rfl d_check_word.m d_check_word.F.kp d_check_word.b .nil passD (pa_cons (pv 0) pa_nil)))
 (pss_cons (ps_set (i := 2) sc_apply_moves.nd rfl (Or.inl rfl) (pe_callTy call_list_of (by rfl) B.list (by decide +kernel) (pa_cons (pv 0) pa_nil)))
 (pss_cons (ps_for (passes_of rfl) rfl (pi_ET (by rfl) B.enumerate (pa_cons (pv 1) pa_nil)) (pg_tup (by rfl) (pgs_cons (pg_name (i := 3) sc_apply_moves.nd rfl (Or.inl rfl)) (pgs_cons (pg_name (i := 4) sc_apply_moves.nd rfl (Or.inl rfl)) pgs_nil)))
  (pss_cons (ps_set (i := 5) sc_apply_moves.nd rfl (Or.inl rfl) (pe_call G_change_of (hr.mono (by decide)) rfl d_change_of.m d_change_of.F.kp d_change_of.b .nil pass0 (pa_cons (pv 2) (pa_cons (pv 4) pa_nil))))
 (pss_cons (ps_if (pt_cmpR op_isN (pv 5) pe_non (nomark _)) (pss_one (L2N.ps_raise rfl (L2N.takes_of rfl rfl rfl rfl) (pmkN_oex FL.T FL.iC FL.tI GL (hr.mono (by decide)) FL.b (fun _ _ _ _ _ _ _ h => h.elim) (by exact rfl) FL.m (pa_cons (pv 3) pa_nil)))) pss_nil)
 (pss_cons (ps_asg (pv 5) (pg_tup (by rfl) (pgs_cons (pg_name (i := 6) sc_apply_moves.nd rfl (Or.inl rfl)) (pgs_cons (pg_name (i := 7) sc_apply_moves.nd rfl (Or.inl rfl)) (pgs_cons (pg_name (i := 8) sc_apply_moves.nd rfl (Or.inl rfl)) pgs_nil)))))
 (pss_one (ps_asg (pv 8) (pg_slc (pv 2) (pv 6) (pv 7))))))))
 (pss_one (ps_ret (pe_callTy call_tuple_of (by rfl) B.tuple (by decide +kernel) (pa_cons (pv 2) pa_nil))))))), ?_⟩
    refine ⟨_, rfl, a, ns, rfl, ha, by omega, fun ok H1 s1 => ?_, fun no H1 s1 => qW no H1 s1⟩
    have hA := hA ok
    have q := q ok
    have qE := qE ok
    have hL : Lets 40 ns := fun n hn => by
      have h1 := (Bool.and_eq_true_iff.mp ok).2
      have h2 := List.all_eq_true.mp h1 n hn
      have h3 := Bool.and_eq_true_iff.mp h2
      exact ⟨of_decide_eq_true h3.1, of_decide_eq_true h3.2⟩
    refine ⟨_, rfl, a, _, rfl, .inr ((Tp.same s1).sqT ha), fun D nD => ?_⟩
    have s2 := s1.trans (Same.new nD (.lst (ns.map V.int)))
    have hD0 : H D = none := s1.free nD
    have hD2 : upd H1 D (.lst (ns.map V.int)) D = some (.lst (ns.map V.int)) := upd_same
    generalize upd H1 D (.lst (ns.map V.int)) = H2 at *
    refine ⟨_, rfl, b, us, rfl, (Tp.same s2).sqT hb, for_ET (xs := us) (fun j σ G => ∃ (x3 x4 x5 x6 x7 x8 : Option V) (cur : List Int), σ = [some (.ref a), some (.ref b), some (.ref D), x3, x4, x5, x6, x7, x8] ∧ Same H G ∧ G D = some (.lst (cur.map V.int)) ∧ runX (ms.drop j) j cur = runX ms 0 ns ∧ runA (ms.drop j) cur ∧ Lets 40 cur) ⟨none, none, none, none, none, none, ns, rfl, s2, hD2, rfl, hA, hL⟩ (fun j σ G z => ?_) ?_ ?_⟩
    · obtain ⟨_, _, _, _, _, _, _, _, sm, _⟩ := z
      exact (Tp.same sm).sqT hb
    · rintro j v σ G hv ⟨x3, x4, x5, x6, x7, x8, cur, rfl, sm, hD, hrun, hrA, hLc⟩ t nt
      have hj : j < us.length := (List.getElem?_eq_some_iff.mp hv).1
      have hjm : j < ms.length := by rw [← hM.1]; exact hj
      have em : ms[j]? = some ms[j] := List.getElem?_eq_getElem hjm
      obtain ⟨p, rfl, hp⟩ := hM.2 j v _ hv em
      have st := Same.new nt (.tup [.int (j : Nat), .ref p])
      have sm2 := sm.trans st
      have hD2 := st _ _ hD
      rw [List.drop_eq_getElem_cons hjm] at hrun hrA
      generalize ms[j] = mj at *
      obtain ⟨nm, args⟩ := mj
      have hrA : cur.length ≤ 900 ∧ args.length ≤ 2 ∧ ∀ r, mvX nm args cur = some r → runA (ms.drop (j + 1)) r := hrA
      have hrun : (match mvX nm args cur with | none => Except.error j | some r => runX (ms.drop (j + 1)) (j + 1) r) = runX ms 0 ns := hrun
      refine ⟨t, _, rfl, SqT.here upd_same, rfl, _, _, rfl, _, _, rfl, rfl, ?_⟩
      refine ⟨_, rfl, _, rfl, D, p, cur, nm, args, rfl, hD2, (Tp.same sm2).sqT hp, hrA.2.1, by omega, fun x hx => (hLc x hx).1, fun v H3 s3 o3 => ?_⟩
      have sm3 := sm2.trans s3
      have hD3 := s3 _ _ hD2
      refine ⟨_, rfl, rfl, _, rfl, ?_⟩
      cases hc : chX nm args cur with
      | none =>
        rw [hc] at o3
        have o3 : v = .non := o3
        subst o3
        have e0 : mvX nm args cur = none := by unfold mvX; rw [hc]; rfl
        rw [e0] at hrun
        refine ite_yes (decide_eq_true rfl) ?_
        refine ⟨_, rfl, (by show 1 ≤ 1000; omega), fun b1 nb1 => ⟨b1, _, rfl, upd_same, ⟨_, rfl, by omega, by omega⟩, fun dx ndx ne => ?_⟩⟩
        rw [upd_ne ne] at ndx
        refine ⟨rfl, dx, _, upd_same, (upd_ne ne).trans upd_same, ndx, ?_⟩
        refine qE j hrun.symm dx _ (fun b' o hb' => ?_) (sm3.free ndx) upd_same
        have h2 := sm3 _ _ hb'
        have ba : b' ≠ b1 := ne_of_none h2 nb1
        have bd : b' ≠ dx := ne_of_none h2 ndx
        rw [upd_ne bd, del_ne ba, upd_ne ba, upd_ne bd, upd_ne ba]
        exact h2
      | some c =>
        obtain ⟨s0, e0, mm⟩ := c
        rw [hc] at o3
        obtain ⟨u, pr, rfl, hu3, npr, hpr⟩ := o3
        have em2 : mvX nm args cur = some (cur.take s0 ++ mm ++ cur.drop e0) := by unfold mvX; rw [hc]; rfl
        have hcb := chX_b hc
        refine ite_no (decide_eq_false (fun z => by cases z)) ?_
        refine ⟨_, rfl, u, _, rfl, hu3, rfl, _, _, rfl, _, _, rfl, _, _, rfl, rfl, ?_⟩
        have nDp : D ≠ pr := fun z => by rw [← z, hD2] at npr; cases npr
        have lc : (cur.map V.int).length = cur.length := by rw [List.length_map]
        refine ⟨_, rfl, _, rfl, _, rfl, (s0 : Int), rfl, _, rfl, (e0 : Int), rfl, D, pr, _, _, (s0 : Int), (e0 : Int), rfl, rfl, rfl, rfl, hD3, hpr, nDp, by omega, by have := hcb.1; omega, by rw [lc]; have := hcb.2.1; omega, ?_, ?_⟩
        · rw [lc, List.length_map]
          exact Nat.le_trans (show cur.length + mm.length ≤ 2000 by have := hcb.2.2; omega) (by decide)
        rw [em2] at hrun
        refine ⟨_, _, _, _, _, _, cur.take s0 ++ mm ++ cur.drop e0, rfl, fun b' o' e' => ?_, ?_, hrun, hrA.2.2 _ em2, mvX_lets hLc em2⟩
        · rw [upd_ne (ne_of_none e' hD0)]
          exact sm3 _ _ e'
        · rw [upd_same, Int.toNat_natCast, Int.toNat_natCast, List.map_append, List.map_append, List.map_take, List.map_drop]
    · rintro σ G ⟨x3, x4, x5, x6, x7, x8, cur, rfl, sm, hD, hrun, hrA, hLc⟩
      rw [hM.1, List.drop_length] at hrun
      have hrun : Except.ok cur = runX ms 0 ns := hrun
      refine ⟨_, rfl, D, _, rfl, .inl ⟨SqL.here hD, fun p np => ?_⟩⟩
      exact q cur hrun.symm p _ (SqT.here upd_same) (sm.trans (Same.new np _))

abbrev s_without_handle : Stmt := top 30
theorem sc_without_handle : FnScope ["handle", "first", "outer", "left", "letter"] ["handle"] (defScope s_without_handle) := ⟨rfl, rfl, rfl, by decide +kernel, rfl, by decide +kernel, by decide +kernel⟩
theorem ok_without_handle {f1 : Addr} {e1 : FuncData} (d : D K mg "without_handle" s_without_handle ["handle"] f fd) (B : Blt mg) (BW : BltW mg) (d_with_sign : D K mg "with_sign" s_with_sign ["magnitude", "letter"] f1 e1) : FnOk P w K mg base CX0 2 f fd ["handle"] spWo := by
  have G_with_sign : FnOk P w K mg base CX0 1 f1 e1 ["magnitude", "letter"] spSgn := ok_with_sign d_with_sign
  refine d.F.ok sc_without_handle (fun vs H Q E h => ?_) (fun cdv A outer s H vs Q E hr h => ?_)
  · obtain ⟨_, _, _, _, rfl, _⟩ := h
    rfl
  obtain ⟨l, f0, b, inner, rfl, hl, hn, q⟩ := h
  refine ⟨_, (pss_cons (ps_set (i := 1) sc_without_handle.nd rfl (Or.inl rfl) (pe_ix ix_list (pv 0) pe_int (fun _ _ => rfl)))
 (pss_cons (ps_set (i := 2) sc_without_handle.nd rfl (Or.inl rfl) (pe_call G_with_sign (hr.mono (by decide)) rfl d_with_sign.m d_with_sign.F.kp d_with_sign.b .nil pass0 (pa_cons (pe_op op_add (pe_callB call_abs (by rfl) BW.abs (by decide +kernel) (pa_cons (pv 1) pa_nil)) pe_int) (pa_cons (pv 1) pa_nil))))
 (pss_cons (ps_set (i := 3) sc_without_handle.nd rfl (Or.inl rfl) (pe_lst pa_nil))
 (pss_cons (ps_for PassesOwn.never rfl (pi_list (pe_slice sl_list (pv 0) (po_some pe_int) (po_some (pe_un un_neg pe_int)))) (pg_name (i := 4) sc_without_handle.nd rfl (Or.inl rfl))
  (pss_one (ps_if (pt_cmpR op_eq (pe_callB call_abs (by rfl) BW.abs (by decide +kernel) (pa_cons (pv 4) pa_nil)) (pe_callB call_abs (by rfl) BW.abs (by decide +kernel) (pa_cons (pv 2) pa_nil)) (nomark _)) (pss_one (ps_aug (i := 3) sc_without_handle.nd rfl (Or.inl rfl) (pe_lst (pa_cons (pe_un un_neg (pv 2)) (pa_cons (pe_call G_with_sign (hr.mono (by decide)) rfl d_with_sign.m d_with_sign.F.kp d_with_sign.b .nil pass0 (pa_cons (pe_callB call_abs (by rfl) BW.abs (by decide +kernel) (pa_cons (pv 1) pa_nil)) (pa_cons (pv 4) pa_nil))) (pa_cons (pv 2) pa_nil)))) iop_ext)) (pss_one (ps_expr (pe_bm PySem.F.plainAttrs_list PySem.F.slot_list_append PySem.F.type_list_append mt_append (pv 3) (pa_cons (pv 4) pa_nil)))))))
 (pss_one (ps_ret (pv 3))))))), ?_⟩
  have h0 : atI ((f0 :: inner ++ [b]).map V.int) 0 = some (.int f0) := atI_nat (j := 0) rfl
  refine ⟨_, rfl, l, _, _, _, rfl, rfl, SqL.here hl, h0, ?_⟩
  refine ⟨_, rfl, f0, rfl, _, _, rfl, rfl, _, rfl, _, _, rfl, ?_⟩
  show gName 2 (.int (sgn (ab f0 + 1) f0)) _ _ _
  have pf := ab_nn f0
  have so := sgn_ab' (m := ab f0 + 1) (x := f0) (by omega)
  have ewo : ∀ y : List Int, wo f0 y = y.flatMap fun x => if ab x = ab f0 + 1 then [-(sgn (ab f0 + 1) f0), sgn (ab f0) x, sgn (ab f0 + 1) f0] else [x] := fun _ => rfl
  generalize eo : sgn (ab f0 + 1) f0 = o at *
  refine ⟨zero_le', fun p np => ?_⟩
  have s1 := Same.new np (.lst [])
  have hp1 : upd H p (.lst []) p = some (.lst []) := upd_same
  have hl1 := s1 _ _ hl
  generalize upd H p (.lst []) = H1 at *
  refine ⟨_, rfl, (1 : Int), rfl, _, rfl, (-1 : Int), rfl, l, _, rfl, SqL.here hl1, fun m nm => ?_⟩
  rw [cutMid]
  have npm : p ≠ m := ne_of_none hp1 nm
  have s2 := Same.new nm (.lst (inner.map V.int))
  have s12 := s1.trans s2
  refine ⟨m, rfl, ⟨_, SqL.here upd_same⟩, for_list (K := K) (a := m) (xs := inner.map V.int) (fun i σ G => ∃ x4 : Option V, σ = [some (.ref l), some (.int f0), some (.int o), some (.ref p), x4] ∧ Same H G ∧ G m = some (.lst (inner.map V.int)) ∧ G p = some (.lst ((wo f0 (inner.take i)).map V.int)))
    ⟨none, rfl, s12, upd_same, (upd_ne npm).trans hp1⟩ (fun i σ G _ z => ?_) ?_ ?_⟩
  · obtain ⟨_, _, _, h, _⟩ := z
    exact SqL.here h
  · rintro i y σ G hy ⟨x4, rfl, sm, hm, hp⟩
    rw [List.getElem?_map] at hy
    obtain ⟨c, hc, rfl⟩ := Option.map_eq_some_iff.mp hy
    have hi : i < inner.length := (List.getElem?_eq_some_iff.mp hc).1
    have etk := take_snoc hc
    have hwl := wo_len f0 (inner.take i)
    rw [List.length_take] at hwl
    have fin : ∀ (G' : Hp) (z : List Int), (∀ e o, e ≠ p → G e = some o → G' e = some o) → wo f0 [c] = z → G' p = some (.lst ((wo f0 (inner.take i) ++ z).map V.int)) → ∃ x4 : Option V, [some (.ref l), some (.int f0), some (.int o), some (.ref p), some (V.int c)] = [some (.ref l), some (.int f0), some (.int o), some (.ref p), x4] ∧ Same H G' ∧ G' m = some (.lst (inner.map V.int)) ∧ G' p = some (.lst ((wo f0 (inner.take (i + 1))).map V.int)) := fun G' z k ez hz => by
      refine ⟨_, rfl, fun e ob h => k e ob (fun y => by rw [y, np] at h; cases h) (sm _ _ h), k _ _ (Ne.symm npm) hm, ?_⟩
      rw [hz, etk, wo_app, ez]
    refine ⟨_, rfl, c, rfl, _, rfl, o, rfl, rfl, _, rfl, ?_⟩
    show if decide (V.int (ab c) = V.int (ab o)) = true then _ else _
    refine ite2 (fun h => ?_) (fun h => ?_)
    · have h : ab c = ab f0 + 1 := (V.int.inj (of_decide_eq_true h)).trans so.2
      refine ⟨_, rfl, _, rfl, _, rfl, _, rfl, f0, rfl, _, rfl, ab f0, c, rfl, _, rfl, three_le, fun b nb => ?_⟩
      have s3 := Same.new nb (.lst [.int (-o), .int (sgn (ab f0) c), .int o])
      have hp3 := s3 _ _ hp
      refine ⟨p, b, _, _, rfl, rfl, hp3, upd_same, ?_, ?_⟩
      · rw [List.length_map]
        exact Nat.le_trans (show _ + 3 ≤ 4000 by omega) (by decide)
      refine fin _ [-o, sgn (ab f0) c, o] (fun e ob n h => (upd_ne n).trans (s3 _ _ h)) ?_ ?_
      · rw [wo_cons, if_pos h, eo]
        rfl
      · rw [upd_same, List.map_append]
        rfl
    · have h : ab c ≠ ab f0 + 1 := fun z => h (decide_eq_true (by rw [z, so.2]))
      refine ⟨_, rfl, .inl ⟨rfl, _, SqL.here hp⟩, _, rfl, p, _, _, rfl, rfl, hp, ?_, ?_⟩
      · rw [List.length_map]
        exact Nat.lt_of_le_of_lt (show _ ≤ 4000 by omega) (by decide)
      refine fin _ [c] (fun e ob n h => upd_ne n |>.trans h) ?_ ?_
      · rw [wo_cons, if_neg h]
        rfl
      · rw [upd_same, List.map_append]
        rfl
  · rintro σ G ⟨x4, rfl, sm, hm, hp⟩
    rw [List.length_map, List.take_length] at hp
    exact ⟨_, rfl, q p G sm np hp⟩

abbrev s_reduced_form : Stmt := top 29
theorem sc_reduced_form : FnScope ["word", "scan", "start"] ["word"] (defScope s_reduced_form) := ⟨rfl, rfl, rfl, by decide +kernel, rfl, by decide +kernel, by decide +kernel⟩
theorem ok_reduced_form {C fI fL fH fR fF fK fP f1 f2 : Addr} {fdI fdL fdH fdR fdF fdK fdP e1 e2 : FuncData} (d : D K mg "reduced_form" s_reduced_form ["word"] f fd) (B : Blt mg) (BW : BltW mg) (T : ScT K mg C) (MK : L2.Mk K C fI) (FI : Fun K "__init__" "Scan.__init__" s_SInit fI fdI) (bI : Binds K fdI ["self", "word"] [])
    (FL : Fun K "last_place" "Scan.last_place" s_SLast fL fdL) (bL : Binds K fdL ["self", "magnitude"] []) (mL : Meth K C "last_place" fL) (FH : Fun K "handle_start" "Scan.handle_start" s_SStart fH fdH) (bH : Binds K fdH ["self"] []) (mH : Meth K C "handle_start" fH) (FF : Fun K "find_handle" "Scan.find_handle" s_SFind fF fdF) (bF : Binds K fdF ["self"] []) (mF : Meth K C "find_handle" fF)
    (FR : Fun K "read_letter" "Scan.read_letter" s_SRead fR fdR) (bR : Binds K fdR ["self"] []) (mR : Meth K C "read_letter" fR) (FK : Fun K "take_handle" "Scan.take_handle" s_STake fK fdK) (bK : Binds K fdK ["self", "start"] []) (mK : Meth K C "take_handle" fK) (FP : Fun K "put_back" "Scan.put_back" s_SPut fP fdP) (bP : Binds K fdP ["self", "letters"] []) (mP : Meth K C "put_back" fP)
    (d_with_sign : D K mg "with_sign" s_with_sign ["magnitude", "letter"] f1 e1) (d_without_handle : D K mg "without_handle" s_without_handle ["handle"] f2 e2) : FnOk P w K mg base CX0 4 f fd ["word"] (spRF K) := by
  have GI : FnOk P w K mg base CX0 1 fI fdI ["self", "word"] (spScI K C) := ok_SInit FI T B BW
  have GF : FnOk P w K mg base CX0 3 fF fdF ["self"] (spFH C) := ok_SFind FF T B BW FL bL mL FH bH mH FR bR mR
  have GK : FnOk P w K mg base CX0 1 fK fdK ["self", "start"] (spTK C) := ok_STake FK T B BW
  have GP : FnOk P w K mg base CX0 1 fP fdP ["self", "letters"] (spPB C) := ok_SPut FP T B BW
  have G_without_handle : FnOk P w K mg base CX0 2 f2 e2 ["handle"] spWo := ok_without_handle d_without_handle B BW d_with_sign
  refine d.F.ok sc_reduced_form (fun vs H Q E h => ?_) (fun cdv A outer s H vs Q E hr h => ?_)
  · obtain ⟨_, _, _, _, rfl, _⟩ := h
    rfl
  obtain ⟨a0, ns, r, k0, rfl, hw, hk, hred, q⟩ := h
  refine ⟨_, (pss_cons (ps_set (i := 1) sc_reduced_form.nd rfl (Or.inl rfl) (pe_make MK GI (hr.mono (by decide)) rfl T.mgC bI .nil pass0 (pa_cons (pv 0) pa_nil)))
 (C8.pss_cut (ps_set (i := 2) sc_reduced_form.nd rfl (Or.inl rfl) (pe_meth0 (pv 1) T.cl mF GF (hr.mono (by decide)) bF .nil pass0))
 (pss_cons (ps_while PassesOwn.never (pt_cmpR op_ge (pv 2) pe_int (nomark _)) (pss_cons (ps_expr (pe_meth (pv 1) T.cl mP GP (hr.mono (by decide)) bP .nil pass0 (pa_cons (pe_call G_without_handle (hr.mono (by decide)) rfl d_without_handle.m d_without_handle.F.kp d_without_handle.b .nil pass0 (pa_cons (pe_meth (pv 1) T.cl mK GK (hr.mono (by decide)) bK .nil pass0 (pa_cons (pv 2) pa_nil)) pa_nil)) pa_nil)))
 (pss_one (ps_set (i := 2) sc_reduced_form.nd rfl (Or.inl rfl) (pe_meth0 (pv 1) T.cl mF GF (hr.mono (by decide)) bF .nil pass0)))))
 (pss_one (ps_ret (pe_callTy call_tuple_of (by rfl) B.tuple (by decide +kernel) (pa_cons (pe_fld (pv 1) rfl) pa_nil))))))), ?_⟩
  have noA : ∀ {d w p : Addr} {m : Str}, (m = "find_handle" ∨ m = "take_handle" ∨ m = "put_back") → (scf d w p).lookup m = none := fun h => by
    rcases h with rfl | rfl | rfl <;> exact scf_no _ _ _ (by decide +kernel) (by decide +kernel) (by decide +kernel)
  refine ⟨_, rfl, fun x dx nx ndx nex => ?_⟩
  have sx : Same H (upd (upd H dx (.own x)) x (.ins C dx [])) := (Same.new ndx (.own x)).trans (Same.new (by rw [upd_ne nex.symm]; exact nx) _)
  refine ⟨H, x, dx, a0, ns, rfl, sx, nx, upd_same, (Tp.same sx).sqT hw, fun d w' p H3 h3 => ?_⟩
  obtain ⟨dx3, hx3⟩ := h3.ix
  obtain ⟨k1, rfl⟩ : ∃ k1, k0 = k1 + 1 := by
    cases k0 with
    | zero => cases hred
    | succ k1 => exact ⟨k1, rfl⟩
  have hlen := (redF_step hred).1
  have hlen : ns.length ≤ 1000 := by rw [List.length_nil] at hlen; omega
  refine ⟨rfl, ?_⟩
  refine ⟨fun σ G => ∃ s : Int, σ = [some (.ref a0), some (.ref x), some (.int s)] ∧ LpS H G C x d w' p (k1 + 1) r s [] ns, ?_, ?_⟩
  · refine ⟨_, rfl, x, dx3, _, rfl, hx3, noA (.inl rfl), H, x, d, w', p, [], ns, 0, rfl, h3, by show 0 + ns.length ≤ 1000; omega, by omega, fun e H4 N4 l4 h4 => ?_, fun dn' a t e s0 H4 N4 l4 h4 => ?_⟩
    · exact ⟨_, rfl, N4, hred, by omega, hk, .inl ⟨e, rfl, h4⟩⟩
    · exact ⟨_, rfl, N4, hred, by omega, hk, .inr ⟨dn', a, t, e, s0, rfl, h4⟩⟩
  rintro σ G ⟨s0, rfl, hL⟩
  refine ⟨fun m σ G => ∃ (s : Int) (dn wt : List Int), σ = [some (.ref a0), some (.ref x), some (.int s)] ∧ LpS H G C x d w' p m r s dn wt, ⟨_, s0, [], ns, rfl, hL⟩, ?_⟩
  rintro m σ G ⟨s, dn, wt, rfl, N, hr2, hN, hm, hcase⟩
  obtain ⟨m', rfl⟩ : ∃ m', m = m' + 1 := by
    cases m with
    | zero => cases hr2
    | succ m' => exact ⟨m', rfl⟩
  obtain ⟨hln, hst⟩ := redF_step hr2
  rcases hcase with ⟨e, rfl, hA⟩ | ⟨dn', a, t, e, hs0, rfl, hA⟩
  · rcases hst with ⟨_, er⟩ | ⟨_, _, _, _, e2, _⟩
    · refine ⟨_, rfl, _, _, rfl, rfl, _, rfl, ite_no (by decide) ?_⟩
      obtain ⟨dx4, hx4⟩ := hA.ix
      refine ⟨_, rfl, x, C, dx4, _, _, rfl, hx4, T.cl, T.n1, scf_d _ _ _, d, _, rfl, .inl ⟨SqL.here hA.hd, fun p5 np5 => ?_⟩⟩
      refine q p5 _ (SqT.here ?_) (hA.sm.trans (Same.new np5 _))
      rw [upd_same, er]
      unfold stk
      rw [List.reverse_append, List.reverse_reverse]
    · rw [e] at e2; cases e2
  · rcases hst with ⟨e2, _⟩ | ⟨a2, inner, v, t2, e2, _, hv, _, hr3, _⟩
    · rw [e] at e2; cases e2
    rw [e] at e2
    injection e2 with e2
    injection e2 with e3 e4
    injection e4 with e4 e5
    subst e3 e4 e5
    refine ⟨_, rfl, _, _, rfl, rfl, _, rfl, ite_yes (decide_eq_true hs0) ?_⟩
    refine ⟨fun σ' G' => ∃ (s : Int) (dn wt : List Int), σ' = [some (.ref a0), some (.ref x), some (.int s)] ∧ LpS H G' C x d w' p m' r s dn wt, ?_, ?_⟩
    · rintro σ' G' ⟨s, dn, wt, e1, e2⟩
      exact ⟨m', Nat.lt_succ_self _, s, dn, wt, e1, e2⟩
    obtain ⟨h1, _, _⟩ := fhS_len e
    rw [List.length_append, List.length_reverse, List.length_cons] at h1
    obtain ⟨dx4, hx4⟩ := hA.ix
    have ehs : hsv a (inner.reverse ++ -a :: v) = (v.length : Nat) := by omega
    have hA' : ScA H G C x d w' p ((inner.reverse ++ [-a]) ++ v) (a :: t) N := by rw [List.append_assoc]; exact hA
    obtain ⟨m2, rfl⟩ : ∃ m2, m' = m2 + 1 := by
      cases m' with
      | zero => cases hr3
      | succ m2 => exact ⟨m2, rfl⟩
    have hl3 := (redF_step hr3).1
    refine ⟨_, rfl, x, dx4, _, rfl, hx4, noA (.inr (.inr rfl)), ?_⟩
    refine ⟨_, rfl, x, dx4, _, rfl, hx4, noA (.inr (.inl rfl)), _, rfl, ?_⟩
    refine ⟨H, x, d, w', p, inner.reverse ++ [-a], v, t, a, N, by rw [ehs]; rfl, hA', by rw [List.length_append, List.length_reverse, List.length_singleton]; omega, by simp, fun l H5 h5 hl5 l0 ld lw lp => ?_⟩
    rw [List.reverse_append, List.reverse_reverse] at hl5
    refine ⟨l, -a, a, inner, rfl, hl5, by omega, fun pw H6 s6 npw hpw => ?_⟩
    have h6 := h5.same s6
    have hwl := wo_len (-a) inner
    refine ⟨H, x, d, w', p, pw, v, t, wo (-a) inner, N, rfl, h6, hpw, by omega, fun H7 h7 => ?_⟩
    obtain ⟨dx7, hx7⟩ := h7.ix
    refine ⟨_, rfl, x, dx7, _, rfl, hx7, noA (.inl rfl), H, x, d, w', p, v, wo (-a) inner ++ t, N, rfl, h7, hl3, by omega, fun e H8 N8 l8 h8 => ?_, fun dn' a' t' e s0 H8 N8 l8 h8 => ?_⟩
    · exact ⟨_, _, _, rfl, N8, hr3, by omega, by omega, .inl ⟨e, rfl, h8⟩⟩
    · exact ⟨_, _, _, rfl, N8, hr3, by omega, by omega, .inr ⟨dn', a', t', e, s0, rfl, h8⟩⟩

abbrev s_removing_moves : Stmt := top 32
theorem sc_removing_moves : FnScope ["at", "handle", "first", "moves", "letter"] ["at", "handle"] (defScope s_removing_moves) := ⟨rfl, rfl, rfl, by decide +kernel, rfl, by decide +kernel, by decide +kernel⟩
theorem ok_removing_moves (d : D K mg "removing_moves" s_removing_moves ["at", "handle"] f fd) (B : Blt mg) (BW : BltW mg) : FnOk P w K mg base CX0 1 f fd ["at", "handle"] (spRm K) := by
  refine d.F.ok sc_removing_moves (fun vs H Q E h => ?_) (fun cdv A outer s H vs Q E hr h => ?_)
  · obtain ⟨_, _, _, _, _, rfl, _⟩ := h
    rfl
  obtain ⟨l, at0, f0, b, inner, rfl, hl, hn, q⟩ := h
  refine ⟨_, (pss_cons (ps_set (i := 2) sc_removing_moves.nd rfl (Or.inl rfl) (pe_ix ix_list (pv 1) pe_int (fun _ _ => rfl)))
 (pss_cons (ps_set (i := 3) sc_removing_moves.nd rfl (Or.inl rfl) (pe_lst pa_nil))
 (pss_cons (ps_for PassesOwn.never rfl (pi_list (pe_slice sl_list (pv 1) (po_some pe_int) (po_some (pe_un un_neg pe_int)))) (pg_name (i := 4) sc_removing_moves.nd rfl (Or.inl rfl))
  (pss_one (ps_if (pt_cmpR op_eq (pe_callB call_abs (by rfl) BW.abs (by decide +kernel) (pa_cons (pv 4) pa_nil)) (pe_op op_add (pe_callB call_abs (by rfl) BW.abs (by decide +kernel) (pa_cons (pv 2) pa_nil)) pe_int) (nomark _)) (pss_cons (ps_aug (i := 3) sc_removing_moves.nd rfl (Or.inl rfl) (pe_lst (pa_cons (pe_tup (pa_cons pe_str (pa_cons (pe_op op_add (pv 0) pe_int) (pa_cons (pe_un un_neg (pv 2)) pa_nil)))) (pa_cons (pe_tup (pa_cons pe_str (pa_cons (pv 0) pa_nil))) pa_nil))) iop_ext)
 (pss_one (ps_aug (i := 0) sc_removing_moves.nd rfl (Or.inl rfl) pe_int ip_add))) (pss_cons (ps_expr (pe_bm PySem.F.plainAttrs_list PySem.F.slot_list_append PySem.F.type_list_append mt_append (pv 3) (pa_cons (pe_tup (pa_cons pe_str (pa_cons (pv 0) pa_nil))) pa_nil)))
 (pss_one (ps_aug (i := 0) sc_removing_moves.nd rfl (Or.inl rfl) pe_int ip_add))))))
 (pss_one (ps_ret (pe_op op_cat (pv 3) (pe_lst (pa_cons (pe_tup (pa_cons pe_str (pa_cons (pv 0) pa_nil))) pa_nil)))))))), ?_⟩
  have h0 : atI ((f0 :: inner ++ [b]).map V.int) 0 = some (.int f0) := atI_nat (j := 0) rfl
  refine ⟨_, rfl, l, _, _, _, rfl, rfl, SqL.here hl, h0, ?_⟩
  refine ⟨zero_le', fun p np => ?_⟩
  have s1 := Same.new np (.lst [])
  have hp1 : upd H p (.lst []) p = some (.lst []) := upd_same
  have hl1 := s1 _ _ hl
  generalize upd H p (.lst []) = H1 at *
  refine ⟨_, rfl, (1 : Int), rfl, _, rfl, (-1 : Int), rfl, l, _, rfl, SqL.here hl1, fun m nm => ?_⟩
  rw [cutMid]
  have npm : p ≠ m := ne_of_none hp1 nm
  have s2 := Same.new nm (.lst (inner.map V.int))
  have s12 := s1.trans s2
  refine ⟨m, rfl, ⟨_, SqL.here upd_same⟩, for_list (K := K) (a := m) (xs := inner.map V.int) (fun i σ G => ∃ (x4 : Option V) (at_ : Int) (us : List V) (ms : List (Str × List Int)), σ = [some (.int at_), some (.ref l), some (.int f0), some (.ref p), x4] ∧ Same H G ∧ G m = some (.lst (inner.map V.int)) ∧ G p = some (.lst us) ∧ MvTs K G us ms ∧ ms ++ rmM at_ f0 (inner.drop i) = rmM at0 f0 inner)
    ⟨none, at0, [], [], rfl, s12, upd_same, (upd_ne npm).trans hp1, .nil, rfl⟩ (fun i σ G _ z => ?_) ?_ ?_⟩
  · obtain ⟨_, _, _, _, _, _, h, _⟩ := z
    exact SqL.here h
  · rintro i y σ G hy ⟨x4, at_, us, ms, rfl, sm, hm, hp, hM, hE⟩
    rw [List.getElem?_map] at hy
    obtain ⟨c, hc, rfl⟩ := Option.map_eq_some_iff.mp hy
    obtain ⟨hi, ec⟩ := List.getElem?_eq_some_iff.mp hc
    have hR := rmM_len at0 f0 inner
    rw [← hE, List.length_append] at hR
    have lu := hM.1
    rw [List.drop_eq_getElem_cons hi, ec] at hE
    have eR : rmM at_ f0 (c :: inner.drop (i + 1)) = if ab c = ab f0 + 1 then (("insert" : Str), [at_ + 2, -f0]) :: (("braid" : Str), [at_]) :: rmM (at_ + 3) f0 (inner.drop (i + 1)) else (("swap" : Str), [at_]) :: rmM (at_ + 1) f0 (inner.drop (i + 1)) := rfl
    rw [eR] at hE
    refine ⟨_, rfl, c, rfl, _, rfl, f0, rfl, _, _, rfl, rfl, rfl, _, rfl, ?_⟩
    show if decide (V.int (ab c) = V.int (ab f0 + 1)) = true then _ else _
    refine ite2 (fun h => ?_) (fun h => ?_)
    · have h : ab c = ab f0 + 1 := V.int.inj (of_decide_eq_true h)
      rw [if_pos h] at hE
      refine ⟨_, rfl, _, rfl, _, _, rfl, rfl, _, rfl, _, rfl, three_le, fun t1 n1 => ⟨_, rfl, two_le, fun t2 n2 => ⟨two_le, fun b nb => ?_⟩⟩⟩
      have z1 := Same.new n1 (.tup [V.str "insert", .int (at_ + 2), .int (-f0)])
      have z2 := Same.new n2 (.tup [V.str "braid", .int at_])
      have z3 := Same.new nb (.lst [.ref t1, .ref t2])
      have zz := z1.trans (z2.trans z3)
      have k1 : MvT K _ (.ref t1) ("insert", [at_ + 2, -f0]) := ⟨t1, rfl, (Tp.same (z2.trans z3)).sqT (SqT.here upd_same)⟩
      have k2 : MvT K _ (.ref t2) ("braid", [at_]) := ⟨t2, rfl, (Tp.same z3).sqT (SqT.here upd_same)⟩
      have hpz := zz _ _ hp
      have tp : Tp _ _ := Tp.but hpz (But.set (o := .lst (us ++ [.ref t1, .ref t2])))
      have M2 := ((((hM.tp (Tp.same zz)).snoc k1).snoc k2).tp tp)
      rw [List.append_assoc, List.append_assoc] at M2
      refine ⟨p, b, us, _, rfl, rfl, hpz, upd_same, ?_, _, rfl, _, _, rfl, rfl, ?_⟩
      · exact Nat.le_trans (show us.length + 2 ≤ 4000 by omega) (by decide)
      refine ⟨_, at_ + 3, us ++ [.ref t1, .ref t2], _, rfl, fun e ob he => ?_, ?_, upd_same, M2, ?_⟩
      · rw [upd_ne (fun y => by rw [y, np] at he; cases he)]
        exact zz _ _ (sm _ _ he)
      · rw [upd_ne (Ne.symm npm)]
        exact zz _ _ hm
      · rw [← hE, List.append_assoc]
        rfl
    · have h : ab c ≠ ab f0 + 1 := fun z => h (decide_eq_true (by rw [z]))
      rw [if_neg h] at hE
      refine ⟨_, rfl, .inl ⟨rfl, _, SqL.here hp⟩, _, rfl, two_le, fun t1 n1 => ?_⟩
      have z1 := Same.new n1 (.tup [V.str "swap", .int at_])
      have k1 : MvT K (upd G t1 (.tup [V.str "swap", .int at_])) (.ref t1) ("swap", [at_]) := ⟨t1, rfl, SqT.here upd_same⟩
      have hpz := z1 _ _ hp
      have tp : Tp _ _ := Tp.but hpz (But.set (o := .lst (us ++ [.ref t1])))
      have M2 := (((hM.tp (Tp.same z1)).snoc k1).tp tp)
      refine ⟨p, us, _, rfl, rfl, hpz, ?_, _, rfl, _, _, rfl, rfl, ?_⟩
      · exact Nat.lt_of_le_of_lt (show us.length ≤ 4000 by omega) (by decide)
      refine ⟨_, at_ + 1, us ++ [.ref t1], _, rfl, fun e ob he => ?_, ?_, upd_same, M2, ?_⟩
      · rw [upd_ne (fun y => by rw [y, np] at he; cases he)]
        exact z1 _ _ (sm _ _ he)
      · rw [upd_ne (Ne.symm npm)]
        exact z1 _ _ hm
      · rw [← hE, List.append_assoc]
        rfl
  · rintro σ G ⟨x4, at_, us, ms, rfl, sm, hm, hp, hM, hE⟩
    rw [List.length_map, List.drop_length] at hE
    have hE : ms ++ [(("cancel" : Str), [at_])] = rmM at0 f0 inner := hE
    have hR := rmM_len at0 f0 inner
    rw [← hE, List.length_append, List.length_singleton] at hR
    have lu := hM.1
    refine ⟨_, rfl, _, rfl, two_le, fun t1 n1 => ⟨one_le, fun b nb => ?_⟩⟩
    have z1 := Same.new n1 (.tup [V.str "cancel", .int at_])
    have z2 := Same.new nb (.lst [.ref t1])
    have zz := z1.trans z2
    have k1 : MvT K _ (.ref t1) ("cancel", [at_]) := ⟨t1, rfl, (Tp.same z2).sqT (SqT.here upd_same)⟩
    have hpz := zz _ _ hp
    have M2 := (hM.tp (Tp.same zz)).snoc k1
    rw [hE] at M2
    refine ⟨p, b, us, _, rfl, rfl, hpz, upd_same, ?_, fun o no => ?_⟩
    · exact Nat.le_trans (show us.length + 1 ≤ 4000 by omega) (by decide)
    have z3 := Same.new no (.lst (us ++ [.ref t1]))
    exact q o _ _ (sm.trans (zz.trans z3)) ((sm.trans zz).free no) upd_same (M2.tp (Tp.same z3))

abbrev s_reduction_moves : Stmt := top 31
theorem sc_reduction_moves : FnScope ["word", "moves", "scan", "start", "handle"] ["word"] (defScope s_reduction_moves) := ⟨rfl, rfl, rfl, by decide +kernel, rfl, by decide +kernel, by decide +kernel⟩
theorem ok_reduction_moves {C0 C fI fL fH fR fF fK fP f1 f2 f3 f4 f5 f6 : Addr} {fdI fdL fdH fdR fdF fdK fdP e1 e2 e3 e4 e5 e6 : FuncData} (d : D K mg "reduction_moves" s_reduction_moves ["word"] f fd) (B : Blt mg) (BW : BltW mg) (CW : CstW mg) (EC : ErrC K mg "InvalidWord" C0) (T : ScT K mg C) (MK : L2.Mk K C fI) (FI : Fun K "__init__" "Scan.__init__" s_SInit fI fdI) (bI : Binds K fdI ["self", "word"] [])
    (FL : Fun K "last_place" "Scan.last_place" s_SLast fL fdL) (bL : Binds K fdL ["self", "magnitude"] []) (mL : Meth K C "last_place" fL) (FH : Fun K "handle_start" "Scan.handle_start" s_SStart fH fdH) (bH : Binds K fdH ["self"] []) (mH : Meth K C "handle_start" fH) (FF : Fun K "find_handle" "Scan.find_handle" s_SFind fF fdF) (bF : Binds K fdF ["self"] []) (mF : Meth K C "find_handle" fF)
    (FR : Fun K "read_letter" "Scan.read_letter" s_SRead fR fdR) (bR : Binds K fdR ["self"] []) (mR : Meth K C "read_letter" fR) (FK : Fun K "take_handle" "Scan.take_handle" s_STake fK fdK) (bK : Binds K fdK ["self", "start"] []) (mK : Meth K C "take_handle" fK) (FP : Fun K "put_back" "Scan.put_back" s_SPut fP fdP) (bP : Binds K fdP ["self", "letters"] []) (mP : Meth K C "put_back" fP)
    (d_is_letter : D K mg "is_letter" s_is_letter ["number"] f3 e3) (d_are_letters : D K mg "are_letters" s_are_letters ["numbers"] f4 e4) (d_check_word : D K mg "check_word" s_check_word ["word"] f5 e5) (d_with_sign : D K mg "with_sign" s_with_sign ["magnitude", "letter"] f1 e1) (d_without_handle : D K mg "without_handle" s_without_handle ["handle"] f2 e2) (d_removing_moves : D K mg "removing_moves" s_removing_moves ["at", "handle"] f6 e6) : FnOk P w K mg base (L2N.CX P w) 4 f fd ["word"] (spRMov K C0) := by
  have GI : FnOk P w K mg base CX0 1 fI fdI ["self", "word"] (spScI K C) := ok_SInit FI T B BW
  have GF : FnOk P w K mg base CX0 3 fF fdF ["self"] (spFH C) := ok_SFind FF T B BW FL bL mL FH bH mH FR bR mR
  have GK : FnOk P w K mg base CX0 1 fK fdK ["self", "start"] (spTK C) := ok_STake FK T B BW
  have GP : FnOk P w K mg base CX0 1 fP fdP ["self", "letters"] (spPB C) := ok_SPut FP T B BW
  have G_without_handle : FnOk P w K mg base CX0 2 f2 e2 ["handle"] spWo := ok_without_handle d_without_handle B BW d_with_sign
  have G_removing_moves : FnOk P w K mg base CX0 1 f6 e6 ["at", "handle"] (spRm K) := ok_removing_moves d_removing_moves B BW
  have G_check_word : FnOk P w K mg base (L2N.CX P w) 3 f5 e5 ["word"] (spChkW K C0) := ok_check_word d_check_word B BW CW EC d_is_letter d_are_letters
  refine Fun.okN d.F sc_reduction_moves (fun vs H Q E h => ?_) (fun cdv A outer s H vs Q E hr h => ?_)
  · obtain ⟨_, _, rfl, _⟩ := h
    rfl
  obtain ⟨a0, ns, rfl, hw, hl, q, qE⟩ := h
  refine ⟨_, (pss_cons (ps_expr (pe_call G_check_word (hr.mono (by decide)) rfl d_check_word.m d_check_word.F.kp d_check_word.b .nil passD (pa_cons (pv 0) pa_nil)))
 (pss_cons (ps_set (i := 1) sc_reduction_moves.nd rfl (Or.inl rfl) (pe_lst pa_nil))
 (pss_cons (ps_set (i := 2) sc_reduction_moves.nd rfl (Or.inl rfl) (pe_make MK GI (hr.mono (by decide)) rfl T.mgC bI .nil pass0 (pa_cons (pv 0) pa_nil)))
 (C8.pss_cut (ps_set (i := 3) sc_reduction_moves.nd rfl (Or.inl rfl) (pe_meth0 (pv 2) T.cl mF GF (hr.mono (by decide)) bF .nil pass0))
 (pss_cons (ps_while (passes_of rfl) (pt_cmpR op_ge (pv 3) pe_int (nomark _)) (pss_cons (ps_set (i := 4) sc_reduction_moves.nd rfl (Or.inl rfl) (pe_meth (pv 2) T.cl mK GK (hr.mono (by decide)) bK .nil pass0 (pa_cons (pv 3) pa_nil)))
 (pss_cons (ps_aug (i := 1) sc_reduction_moves.nd rfl (Or.inl rfl) (pe_call G_removing_moves (hr.mono (by decide)) rfl d_removing_moves.m d_removing_moves.F.kp d_removing_moves.b .nil pass0 (pa_cons (pv 3) (pa_cons (pv 4) pa_nil))) iop_ext)
 (pss_cons (ps_expr (pe_meth (pv 2) T.cl mP GP (hr.mono (by decide)) bP .nil pass0 (pa_cons (pe_call G_without_handle (hr.mono (by decide)) rfl d_without_handle.m d_without_handle.F.kp d_without_handle.b .nil pass0 (pa_cons (pv 4) pa_nil)) pa_nil)))
 (pss_one (ps_set (i := 3) sc_reduction_moves.nd rfl (Or.inl rfl) (pe_meth0 (pv 2) T.cl mF GF (hr.mono (by decide)) bF .nil pass0)))))))
 (pss_one (ps_ret (pv 1)))))))), ?_⟩
  have noA : ∀ {d w p : Addr} {m : Str}, (m = "find_handle" ∨ m = "take_handle" ∨ m = "put_back") → (scf d w p).lookup m = none := fun h => by
    rcases h with rfl | rfl | rfl <;> exact scf_no _ _ _ (by decide +kernel) (by decide +kernel) (by decide +kernel)
  refine ⟨_, rfl, a0, ns, rfl, hw, by omega, fun ok H2 s2 => ?_, fun no H2 s2 => qE no H2 s2⟩
  obtain ⟨r, k0, hk, hred, q⟩ := q ok
  refine ⟨zero_le', fun mv nmv => ?_⟩
  have smv := Same.new nmv (.lst [])
  have hmv : upd H2 mv (.lst []) mv = some (.lst []) := upd_same
  have sH := s2.trans smv
  have mv0 : H mv = none := s2.free nmv
  generalize upd H2 mv (.lst []) = H3 at *
  refine ⟨_, rfl, fun x dx nx ndx nex => ?_⟩
  have sx : Same H3 (upd (upd H3 dx (.own x)) x (.ins C dx [])) := (Same.new ndx (.own x)).trans (Same.new (by rw [upd_ne nex.symm]; exact nx) _)
  refine ⟨H3, x, dx, a0, ns, rfl, sx, nx, upd_same, (Tp.same (sH.trans sx)).sqT hw, fun d w' p H4 h4 => ?_⟩
  obtain ⟨dx4, hx4⟩ := h4.ix
  obtain ⟨k1, rfl⟩ : ∃ k1, k0 = k1 + 1 := by
    cases k0 with
    | zero => cases hred
    | succ k1 => exact ⟨k1, rfl⟩
  have hlen := (redF_step hred).1
  have hlen : ns.length ≤ 1000 := by rw [List.length_nil] at hlen; omega
  refine ⟨rfl, ?_⟩
  refine ⟨fun σ G => ∃ s : Int, σ = [some (.ref a0), some (.ref mv), some (.ref x), some (.int s), none] ∧ LpS H3 G C x d w' p (k1 + 1) r s [] ns, ?_, ?_⟩
  · refine ⟨_, rfl, x, dx4, _, rfl, hx4, noA (.inl rfl), H3, x, d, w', p, [], ns, 0, rfl, h4, by show 0 + ns.length ≤ 1000; omega, by omega, fun e H5 N5 l5 h5 => ?_, fun dn' a t e s0 H5 N5 l5 h5 => ?_⟩
    · exact ⟨_, rfl, N5, hred, by omega, by omega, .inl ⟨e, rfl, h5⟩⟩
    · exact ⟨_, rfl, N5, hred, by omega, by omega, .inr ⟨dn', a, t, e, s0, rfl, h5⟩⟩
  rintro σ G ⟨s0, rfl, hL⟩
  refine ⟨fun m σ G => ∃ (s : Int) (dn wt : List Int) (x4 : Option V) (H0 : Hp) (us : List V) (ms : List (Str × List Int)), σ = [some (.ref a0), some (.ref mv), some (.ref x), some (.int s), x4] ∧ LpS H0 G C x d w' p m r s dn wt ∧ Same H H0 ∧ H0 mv = some (.lst us) ∧ MvTs K H0 us ms ∧ ms ++ mvsF m dn wt = mvsF (k1 + 1) [] ns ∧ us.length ≤ 2001 * (1000 - m) ∧ m ≤ 1000, ⟨_, s0, [], ns, none, H3, [], [], rfl, hL, sH, hmv, .nil, rfl, Nat.zero_le _, hk⟩, ?_⟩
  rintro m σ G ⟨s, dn, wt, x4, H0, us, ms, rfl, ⟨N, hr2, hN, hm, hcase⟩, sm0, hmv0, hM, hE, hus, hm1⟩
  obtain ⟨m', rfl⟩ : ∃ m', m = m' + 1 := by
    cases m with
    | zero => cases hr2
    | succ m' => exact ⟨m', rfl⟩
  obtain ⟨hln, hst⟩ := redF_step hr2
  rcases hcase with ⟨e, rfl, hA⟩ | ⟨dn', a, t, e, hs0, rfl, hA⟩
  · have e0 : mvsF (m' + 1) dn wt = [] := by
      unfold mvsF
      rw [e]
    rw [e0, List.append_nil] at hE
    refine ⟨_, rfl, _, _, rfl, rfl, _, rfl, ite_no (by decide) ?_⟩
    exact ⟨_, rfl, q mv us _ (hA.sm _ _ hmv0) (hE ▸ hM.tp (Tp.same hA.sm)) (sm0.trans hA.sm)⟩
  · rcases hst with ⟨e2, _⟩ | ⟨a2, inner, v, t2, e2, _, hv, _, hr3, _⟩
    · rw [e] at e2; cases e2
    rw [e] at e2
    injection e2 with e2
    injection e2 with e3 e4
    injection e4 with e4 e5
    subst e3 e4 e5
    refine ⟨_, rfl, _, _, rfl, rfl, _, rfl, ite_yes (decide_eq_true hs0) ?_⟩
    refine ⟨fun σ' G' => ∃ (s : Int) (dn wt : List Int) (x4 : Option V) (H0 : Hp) (us : List V) (ms : List (Str × List Int)), σ' = [some (.ref a0), some (.ref mv), some (.ref x), some (.int s), x4] ∧ LpS H0 G' C x d w' p m' r s dn wt ∧ Same H H0 ∧ H0 mv = some (.lst us) ∧ MvTs K H0 us ms ∧ ms ++ mvsF m' dn wt = mvsF (k1 + 1) [] ns ∧ us.length ≤ 2001 * (1000 - m') ∧ m' ≤ 1000, ?_, ?_⟩
    · rintro σ' G' ⟨s, dn, wt, x4, H0, us, ms, z⟩
      exact ⟨m', Nat.lt_succ_self _, s, dn, wt, x4, H0, us, ms, z⟩
    obtain ⟨h1, _, _⟩ := fhS_len e
    rw [List.length_append, List.length_reverse, List.length_cons] at h1
    obtain ⟨dx5, hx5⟩ := hA.ix
    have ehs : hsv a (inner.reverse ++ -a :: v) = (v.length : Nat) := by omega
    have hA' : ScA H0 G C x d w' p ((inner.reverse ++ [-a]) ++ v) (a :: t) N := by rw [List.append_assoc]; exact hA
    rw [(step_eq e hv m').1] at hE
    obtain ⟨m2, rfl⟩ : ∃ m2, m' = m2 + 1 := by
      cases m' with
      | zero => cases hr3
      | succ m2 => exact ⟨m2, rfl⟩
    have hl3 := (redF_step hr3).1
    refine ⟨_, rfl, x, dx5, _, rfl, hx5, noA (.inr (.inl rfl)), _, rfl, ?_⟩
    refine ⟨H0, x, d, w', p, inner.reverse ++ [-a], v, t, a, N, by rw [ehs]; rfl, hA', by rw [List.length_append, List.length_reverse, List.length_singleton]; omega, by simp, fun l H5 h5 hl5 l0 ld lw lp => ?_⟩
    rw [List.reverse_append, List.reverse_reverse] at hl5
    have nlm : l ≠ mv := fun z => by rw [z, hmv0] at l0; cases l0
    refine ⟨_, rfl, _, rfl, _, rfl, l, _, -a, a, inner, rfl, hl5, by omega, fun b usb H6 s6 nb hb Mb => ?_⟩
    rw [ehs] at Mb
    have h6 := h5.same s6
    have hmv6 := h6.sm _ _ hmv0
    have hrl := rmM_len (v.length : Nat) (-a) inner
    have lub := Mb.1
    refine ⟨mv, b, us, usb, rfl, rfl, hmv6, hb, ?_, ?_⟩
    · exact Nat.le_trans (show us.length + usb.length ≤ 3000000 by omega) (by decide)
    have hmvT : addT H0 H6 mv = some (.lst us) := addT_old _ _ hmv0
    have h7 : ScA (upd (addT H0 H6) mv (.lst (us ++ usb))) (upd H6 mv (.lst (us ++ usb))) C x d w' p v t N := ScB.reb hmvT h6.addT
    have hl7 : upd H6 mv (.lst (us ++ usb)) l = some (.lst ((-a :: inner ++ [a]).map V.int)) := (upd_ne nlm).trans (s6 _ _ hl5)
    have tpm : Tp (addT H0 H6) (upd (addT H0 H6) mv (.lst (us ++ usb))) := Tp.but hmvT But.set
    have M7 : MvTs K (upd (addT H0 H6) mv (.lst (us ++ usb))) (us ++ usb) (ms ++ rmM (v.length : Nat) (-a) inner) := MvTs.app (hM.tp ((Tp.same addT_old).trans tpm)) (Mb.tp ((addT_tp h6.sm).trans tpm))
    have sm7 : Same H (upd (addT H0 H6) mv (.lst (us ++ usb))) := fun c o e => by
      rw [upd_ne (fun z => by rw [z, mv0] at e; cases e)]
      exact addT_old _ _ (sm0 _ _ e)
    have hmv7 : upd (addT H0 H6) mv (.lst (us ++ usb)) mv = some (.lst (us ++ usb)) := upd_same
    clear hmvT hmv6 tpm Mb hM hb
    generalize upd (addT H0 H6) mv (.lst (us ++ usb)) = H07 at *
    generalize upd H6 mv (.lst (us ++ usb)) = G7 at *
    obtain ⟨dx7, hx7⟩ := h7.ix
    refine ⟨_, rfl, x, dx7, _, rfl, hx7, noA (.inr (.inr rfl)), _, rfl, l, -a, a, inner, rfl, hl7, by omega, fun pw H8 s8 npw hpw => ?_⟩
    have h8 := h7.same s8
    have hwl := wo_len (-a) inner
    refine ⟨H07, x, d, w', p, pw, v, t, wo (-a) inner, N, rfl, h8, hpw, by omega, fun H9 h9 => ?_⟩
    obtain ⟨dx9, hx9⟩ := h9.ix
    have hE2 : (ms ++ rmM (v.length : Nat) (-a) inner) ++ mvsF (m2 + 1) v (wo (-a) inner ++ t) = mvsF (k1 + 1) [] ns := by rw [List.append_assoc]; exact hE
    have hus2 : (us ++ usb).length ≤ 2001 * (1000 - (m2 + 1)) := by
      rw [List.length_append]
      omega
    refine ⟨_, rfl, x, dx9, _, rfl, hx9, noA (.inl rfl), H07, x, d, w', p, v, wo (-a) inner ++ t, N, rfl, h9, hl3, by omega, fun e H10 N10 l10 h10 => ?_, fun dn' a' t' e s0 H10 N10 l10 h10 => ?_⟩
    · exact ⟨_, _, _, _, H07, _, _, rfl, ⟨N10, hr3, by omega, by omega, .inl ⟨e, rfl, h10⟩⟩, sm7, hmv7, M7, hE2, hus2, by omega⟩
    · exact ⟨_, _, _, _, H07, _, _, rfl, ⟨N10, hr3, by omega, by omega, .inr ⟨dn', a', t', e, s0, rfl, h10⟩⟩, sm7, hmv7, M7, hE2, hus2, by omega⟩

abbrev s_inverse_of : Stmt := top 18
theorem sc_inverse_of : FnScope ["letters", "letter"] ["letters"] (defScope s_inverse_of) := ⟨rfl, rfl, rfl, by decide +kernel, rfl, by decide +kernel, by decide +kernel⟩
theorem ok_inverse_of (d : D K mg "inverse_of" s_inverse_of ["letters"] f fd) (B : Blt mg) (BW : BltW mg) : FnOk P w K mg base CX0 1 f fd ["letters"] (spWW K inv) := by
  refine d.F.ok sc_inverse_of (fun vs H Q E h => ?_) (fun cdv A outer s H vs Q E hr h => ?_)
  · obtain ⟨_, _, rfl, _⟩ := h
    rfl
  obtain ⟨a, ns, rfl, hS, hl, q⟩ := h
  refine ⟨_, (pss_one (ps_ret (pe_callTy call_tuple_of (by rfl) B.tuple (by decide +kernel) (pa_cons (pe_lc (own := [("letter", 1)]) (g := gName 1) (tt := tYes) (by rfl) sc_inverse_of.nd (RT.pi_revA (by rfl) BW.reversed (pv 0)) (blkOk_by (own := [("letter", 1)]) (N := ["letters", "letter"]) (sc := defScope s_inverse_of) (by decide +kernel)) (fun _ _ _ _ _ => (pg_name (i := 1) sc_inverse_of.nd rfl (Or.inl rfl))) (fun _ _ _ _ _ => pts_nil) (fun _ _ _ _ _ => (pe_un un_neg (pv 1)))) pa_nil)))), ?_⟩
  refine ⟨_, rfl, a, _, rfl, .inr ⟨hS, fun D hD => ?_⟩⟩
  refine lc_mapRT (ψ := fun v => .int (-(vInt v))) hD hS (by rw [List.length_map]; exact hl) (fun x G R hx sm k => ?_) (fun G sm hg => ?_)
  · obtain ⟨n, _, rfl⟩ := mem_int hx
    exact ⟨rfl, _, rfl, n, rfl, k G (Same.refl _)⟩
  · refine ⟨D, _, rfl, .inl ⟨SqL.here hg, fun p np => q p _ (sm.trans (Same.new np _)) (SqT.here ?_)⟩⟩
    rw [upd_same, ← List.map_reverse, map_int (ψ := fun n => V.int (-n))]
    unfold inv
    rw [List.map_map]
    rfl

abbrev s_shifted_by : Stmt := top 19
theorem sc_shifted_by : FnScope ["word", "by", "letter"] ["word", "by"] (defScope s_shifted_by) := ⟨rfl, rfl, rfl, by decide +kernel, rfl, by decide +kernel, by decide +kernel⟩
theorem ok_shifted_by {f1 : Addr} {e1 : FuncData} (d : D K mg "shifted_by" s_shifted_by ["word", "by"] f fd) (B : Blt mg) (BW : BltW mg) (d_with_sign : D K mg "with_sign" s_with_sign ["magnitude", "letter"] f1 e1) : FnOk P w K mg base CX0 2 f fd ["word", "by"] (spShf K) := by
  have G_with_sign : FnOk P w K mg base CX0 1 f1 e1 ["magnitude", "letter"] spSgn := ok_with_sign d_with_sign
  refine d.F.ok sc_shifted_by (fun vs H Q E h => ?_) (fun cdv A outer s H vs Q E hr h => ?_)
  · obtain ⟨_, _, _, rfl, _⟩ := h
    rfl
  obtain ⟨a, ns, k, rfl, hS, hl, q⟩ := h
  refine ⟨_, (pss_one (ps_ret (pe_callTy call_tuple_of (by rfl) B.tuple (by decide +kernel) (pa_cons (pe_lc (own := [("letter", 2)]) (g := gName 2) (tt := tYes) (by rfl) sc_shifted_by.nd (pi_tup (pv 0)) (blkOk_by (own := [("letter", 2)]) (N := ["word", "by", "letter"]) (sc := defScope s_shifted_by) (by decide +kernel)) (fun _ _ _ _ _ => (pg_name (i := 2) sc_shifted_by.nd rfl (Or.inl rfl))) (fun _ _ _ _ _ => pts_nil) (fun _ _ _ _ _ => (pe_call G_with_sign (hr.mono (by decide)) rfl d_with_sign.m d_with_sign.F.kp d_with_sign.b .nil pass0 (pa_cons (pe_op op_add (pe_callB call_abs (by rfl) BW.abs (by decide +kernel) (pa_cons (pv 2) pa_nil)) (pv 1)) (pa_cons (pv 2) pa_nil))))) pa_nil)))), ?_⟩
  refine ⟨_, rfl, a, rfl, ⟨_, hS⟩, fun D hD => ?_⟩
  refine lc_mapT (ψ := fun v => .int (sgn (ab (vInt v) + k) (vInt v))) hD hS (by rw [List.length_map]; exact hl) (fun x G R hx sm z => ?_) (fun G sm hg => ?_)
  · obtain ⟨n, _, rfl⟩ := mem_int hx
    exact ⟨rfl, _, rfl, _, rfl, _, rfl, _, _, rfl, rfl, _, rfl, _, _, rfl, z G (Same.refl _)⟩
  · refine ⟨D, _, rfl, .inl ⟨SqL.here hg, fun p np => q p _ (sm.trans (Same.new np _)) (SqT.here ?_)⟩⟩
    rw [upd_same, map_int (ψ := fun n => V.int (sgn (ab n + k) n))]
    unfold shf
    rw [List.map_map]
    rfl

abbrev s_word_below : Stmt := top 21
theorem sc_word_below : FnScope ["term", "acting"] ["term"] (defScope s_word_below) := ⟨rfl, rfl, rfl, by decide +kernel, rfl, by decide +kernel, by decide +kernel⟩
theorem ok_word_below {f1 f2 f3 : Addr} {e1 e2 e3 : FuncData} (d_word_below : D K mg "word_below" s_word_below ["term"] f fd) (B : Blt mg) (BW : BltW mg) (d_inverse_of : D K mg "inverse_of" s_inverse_of ["letters"] f1 e1) (d_with_sign : D K mg "with_sign" s_with_sign ["magnitude", "letter"] f2 e2) (d_shifted_by : D K mg "shifted_by" s_shifted_by ["word", "by"] f3 e3) :
    ∀ n : Nat, FnOk P w K mg base CX0 (n + 2) f fd ["term"] (spWd K wd n)
  | 0 => fn_none spWd_no
  | n + 1 => by
    have G_word_below := ok_word_below d_word_below B BW d_inverse_of d_with_sign d_shifted_by n
    have G_shifted_by : FnOk P w K mg base CX0 2 f3 e3 ["word", "by"] (spShf K) := ok_shifted_by d_shifted_by B BW d_with_sign
    have G_inverse_of : FnOk P w K mg base CX0 1 f1 e1 ["letters"] (spWW K inv) := ok_inverse_of d_inverse_of B BW
    refine d_word_below.F.ok sc_word_below (fun vs H Q E h => ?_) (fun cdv A outer s H vs Q E hr h => ?_)
    · obtain ⟨_, _, rfl, _⟩ := h
      rfl
    obtain ⟨v, t, rfl, ha, hn, hd, hz, q⟩ := h
    refine ⟨_, (pss_cons (ps_if (pt_cmpR (op_eqD hr.units) (pv 0) (pe_tup pa_nil) (nomark _)) (pss_one (ps_ret (pe_tup pa_nil))) pss_nil)
 (pss_cons (ps_set (i := 1) sc_word_below.nd rfl (Or.inl rfl) (pe_call G_word_below hr rfl d_word_below.m d_word_below.F.kp d_word_below.b .nil pass0 (pa_cons (pe_ix ix_tup (pv 0) pe_int (fun _ _ => rfl)) pa_nil)))
 (pss_one (ps_ret (pe_op op_catA (pe_op op_catA (pe_op op_catA (pv 1) (pe_call G_shifted_by (hr.mono (by omega)) rfl d_shifted_by.m d_shifted_by.F.kp d_shifted_by.b .nil pass0 (pa_cons (pe_call G_word_below hr rfl d_word_below.m d_word_below.F.kp d_word_below.b .nil pass0 (pa_cons (pe_ix ix_tup (pv 0) pe_int (fun _ _ => rfl)) pa_nil)) (pa_cons pe_int pa_nil)))) (pe_tup (pa_cons pe_int pa_nil))) (pe_call G_shifted_by (hr.mono (by omega)) rfl d_shifted_by.m d_shifted_by.F.kp d_shifted_by.b .nil pass0 (pa_cons (pe_call G_inverse_of (hr.mono (by omega)) rfl d_inverse_of.m d_inverse_of.F.kp d_inverse_of.b .nil pass0 (pa_cons (pv 1) pa_nil)) (pa_cons pe_int pa_nil)))))))), ?_⟩
    refine ⟨_, rfl, zero_le', fun p hp => ⟨t.d, .tuple [], ta_mono (Tp.same (Same.new hp _)) ha, Dp.tup (SqT.here upd_same) .nil, Tree.shaped (by omega), shapedE, _, rfl, ite_eq (Tree.eqvL t) ?_⟩⟩
    have s1 := Same.new hp (.tup [])
    cases t with
    | L => exact iteT ⟨zero_le', fun p2 hp2 => q p2 _ (s1.trans (Same.new hp2 _)) (SqT.here upd_same)⟩
    | N l r =>
      have hn : max l.dp r.dp + 1 < n + 1 := hn
      have hd : max l.dp r.dp + 1 ≤ 6 := hd
      have hz : l.sz + r.sz ≤ 12 := hz
      have p1 := l.sz_pos
      have p2 := r.sz_pos
      obtain ⟨b, x1, x2, rfl, hS, hL, hR⟩ := ta_invN (ta_mono (Tp.same s1) ha)
      have ll := wd_len (t := l) (by omega) (by omega)
      have lr := wd_len (t := r) (by omega) (by omega)
      refine iteF ⟨_, rfl, b, _, 0, _, rfl, rfl, hS, rfl, x1, l, rfl, hL, by omega, by omega, by omega, fun a1 H2 s2 w1 => ?_⟩
      refine ⟨_, rfl, _, rfl, b, _, 1, _, rfl, rfl, (Tp.same s2).sqT hS, rfl, x2, r, rfl, ta_mono (Tp.same s2) hR, by omega, by omega, by omega, fun a2 H3 s3 w2 => ?_⟩
      refine ⟨a2, _, 1, rfl, w2, by omega, fun a3 H4 s4 w3 => ?_⟩
      have w1' := (Tp.same (s3.trans s4)).sqT w1
      refine cat_w w1' w3 (by rw [shf_len]; omega) fun a4 H5 s5 w4 => ?_
      refine ⟨one_le, fun a5 n5 => ?_⟩
      have s6 := Same.new n5 (.tup [.int 1])
      refine cat_w ((Tp.same s6).sqT w4) (SqT.here upd_same : WT K _ a5 [1]) (by rw [List.length_append, shf_len, List.length_singleton]; omega) fun a6 H7 s7 w6 => ?_
      have s57 := (s5.trans s6).trans s7
      refine ⟨_, rfl, a1, _, rfl, (Tp.same s57).sqT w1', by omega, fun a7 H8 s8 w7 => ?_⟩
      refine ⟨a7, _, 1, rfl, w7, by rw [inv_len]; omega, fun a8 H9 s9 w8 => ?_⟩
      refine cat_w ((Tp.same (s8.trans s9)).sqT w6) w8 (by rw [List.length_append, List.length_append, shf_len, shf_len, inv_len, List.length_singleton]; omega) fun a9 H10 s10 w9 => ?_
      exact q a9 H10 (s1.trans (s2.trans (s3.trans (s4.trans (s57.trans (s8.trans (s9.trans s10))))))) w9

abbrev s_joint_word : Stmt := top 34
theorem sc_joint_word : FnScope ["one", "other"] ["one", "other"] (defScope s_joint_word) := ⟨rfl, rfl, rfl, by decide +kernel, rfl, by decide +kernel, by decide +kernel⟩
theorem ok_joint_word {f1 f2 f3 f4 : Addr} {e1 e2 e3 e4 : FuncData} (d : D K mg "joint_word" s_joint_word ["one", "other"] f fd) (B : Blt mg) (BW : BltW mg) (d_inverse_of : D K mg "inverse_of" s_inverse_of ["letters"] f1 e1) (d_with_sign : D K mg "with_sign" s_with_sign ["magnitude", "letter"] f2 e2) (d_shifted_by : D K mg "shifted_by" s_shifted_by ["word", "by"] f3 e3) (d_word_below : D K mg "word_below" s_word_below ["term"] f4 e4) : FnOk P w K mg base CX0 10 f fd ["one", "other"] (spJoint K) := by
  have G_inverse_of : FnOk P w K mg base CX0 1 f1 e1 ["letters"] (spWW K inv) := ok_inverse_of d_inverse_of B BW
  have G_word_below : FnOk P w K mg base CX0 9 f4 e4 ["term"] (spWd K wd 7) := ok_word_below d_word_below B BW d_inverse_of d_with_sign d_shifted_by 7
  refine d.F.ok sc_joint_word (fun vs H Q E h => ?_) (fun cdv A outer s H vs Q E hr h => ?_)
  · obtain ⟨_, _, _, _, rfl, _⟩ := h
    rfl
  obtain ⟨x, y, a, b, rfl, ha, hb, az, ad, bz, bd, q⟩ := h
  refine ⟨_, (pss_one (ps_ret (pe_op op_catA (pe_call G_inverse_of (hr.mono (by decide)) rfl d_inverse_of.m d_inverse_of.F.kp d_inverse_of.b .nil pass0 (pa_cons (pe_call G_word_below (hr.mono (by decide)) rfl d_word_below.m d_word_below.F.kp d_word_below.b .nil pass0 (pa_cons (pv 0) pa_nil)) pa_nil)) (pe_call G_word_below (hr.mono (by decide)) rfl d_word_below.m d_word_below.F.kp d_word_below.b .nil pass0 (pa_cons (pv 1) pa_nil))))), ?_⟩
  have la := wd_len ad az
  have lb := wd_len bd bz
  refine ⟨_, rfl, x, a, rfl, ha, by omega, ad, az, fun p1 H1 s1 w1 => ?_⟩
  refine ⟨p1, wd a, rfl, w1, by omega, fun p2 H2 s2 w2 => ?_⟩
  refine ⟨_, rfl, y, b, rfl, ta_mono (Tp.same (s1.trans s2)) hb, by omega, bd, bz, fun p3 H3 s3 w3 => ?_⟩
  refine cat_w ((Tp.same s3).sqT w2) w3 (by rw [inv_len]; omega) fun p4 H4 s4 w4 => ?_
  exact q p4 H4 (s1.trans (s2.trans (s3.trans s4))) w4

abbrev s_shown_by : Stmt := top 35
theorem sc_shown_by : FnScope ["last"] ["last"] (defScope s_shown_by) := ⟨rfl, rfl, rfl, by decide +kernel, rfl, by decide +kernel, by decide +kernel⟩
theorem inV_int (x : Int) (l : List Int) : inV (V.int x) (l.map V.int) = l.contains x := by
  have e : ∀ a b : Int, eqV (V.int a) (V.int b) = decide (a = b) := fun a b => rfl
  unfold inV
  rw [List.any_map, Bool.eq_iff_iff, List.any_eq_true, List.contains_iff_mem]
  constructor
  · rintro ⟨y, hy, h⟩
    rw [← (of_decide_eq_true h : y = x)]
    exact hy
  · exact fun h => ⟨x, h, decide_eq_true rfl⟩
theorem flat_int : ∀ l : List Int, (l.map V.int).all flatV = true
  | [] => rfl
  | _ :: l => flat_int l
theorem wD_nil (r : List Int) : PyData.eqv (wD r) (.tuple []) = decide (r = []) := by
  cases r with
  | nil => rfl
  | cons a r => rfl
theorem ok_shown_by (d : D K mg "shown_by" s_shown_by ["last"] f fd) (B : Blt mg) (BW : BltW mg) : FnOk P w K mg base CX0 1 f fd ["last"] (spShown K) := by
  refine d.F.ok sc_shown_by (fun vs H Q E h => ?_) (fun cdv A outer s H vs Q E hr h => ?_)
  · obtain ⟨_, _, rfl, _⟩ := h
    rfl
  obtain ⟨a, r, rfl, hw, hl, q⟩ := h
  refine ⟨_, (pss_cons (ps_if (pt_cmpR (op_eqD hr.units) (pv 0) (pe_tup pa_nil) (nomark _)) (pss_one (ps_ret pe_str)) pss_nil)
 (pss_cons (ps_if (PW.pt (pw_and (pt_cmpR op_in_seq pe_int (pv 0) (by with_unfolding_all rfl)) (pw_and1 (pt_cmpR op_notIn_seq (pe_un un_neg pe_int) (pv 0) (by with_unfolding_all rfl))))) (pss_one (ps_ret pe_str)) pss_nil)
 (pss_cons (ps_if (PW.pt (pw_and (pt_cmpR op_in_seq (pe_un un_neg pe_int) (pv 0) (by with_unfolding_all rfl)) (pw_and1 (pt_cmpR op_notIn_seq pe_int (pv 0) (by with_unfolding_all rfl))))) (pss_one (ps_ret pe_str)) pss_nil)
 (pss_one (ps_ret pe_non))))), ?_⟩
  refine ⟨_, rfl, zero_le', fun p hp => ⟨wD r, .tuple [], dp_wt ((Tp.same (Same.new hp _)).sqT hw), Dp.tup (SqT.here upd_same) .nil, wD_shaped r, shapedE, _, rfl, ?_⟩⟩
  have s1 := Same.new hp (.tup [])
  have hw1 := (Tp.same s1).sqT hw
  generalize upd H p (.tup []) = H1 at *
  rw [wD_nil]
  have q := q H1 s1
  unfold shV at q
  refine ite2 (fun c => ?_) (fun c => ?_)
  · rw [if_pos (of_decide_eq_true c)] at q
    exact q
  rw [if_neg (fun z => c (decide_eq_true z))] at q
  have y1 : ∀ {b : Bool}, r.contains 1 = b → inV (V.int 1) (r.map V.int) = b := fun h => (inV_int 1 r).trans h
  have y2 : ∀ {b : Bool}, r.contains (-1) = b → inV (V.int (-1)) (r.map V.int) = b := fun h => (inV_int (-1) r).trans h
  unfold lessR grR at q
  refine ⟨_, rfl, a, _, rfl, .inr hw1, rfl, flat_int r, _, rfl, ?_⟩
  cases c1 : r.contains 1 with
  | true =>
    rw [c1] at q
    refine ite_yes (y1 c1) ⟨_, rfl, _, rfl, a, _, rfl, .inr hw1, rfl, flat_int r, _, rfl, ?_⟩
    cases c2 : r.contains (-1) with
    | true =>
      rw [c2] at q
      refine ite_no (by show (!inV _ _) = false; rw [y2 c2]; rfl) ?_
      refine ⟨_, rfl, _, rfl, a, _, rfl, .inr hw1, rfl, flat_int r, _, rfl, ite_yes (y2 c2) ⟨_, rfl, a, _, rfl, .inr hw1, rfl, flat_int r, _, rfl, ?_⟩⟩
      exact ite_no (by show (!inV _ _) = false; rw [y1 c1]; rfl) q
    | false =>
      rw [c2] at q
      exact ite_yes (by show (!inV _ _) = true; rw [y2 c2]; rfl) q
  | false =>
    rw [c1] at q
    refine ite_no (y1 c1) (iteF ?_)
    refine ⟨_, rfl, _, rfl, a, _, rfl, .inr hw1, rfl, flat_int r, _, rfl, ?_⟩
    cases c2 : r.contains (-1) with
    | true =>
      rw [c2] at q
      refine ite_yes (y2 c2) ⟨_, rfl, a, _, rfl, .inr hw1, rfl, flat_int r, _, rfl, ?_⟩
      exact ite_yes (by show (!inV _ _) = true; rw [y1 c1]; rfl) q
    | false =>
      rw [c2] at q
      exact ite_no (y2 c2) (iteF q)

abbrev s_certificate : Stmt := top 36
theorem sc_certificate : FnScope ["one", "other", "joint", "last"] ["one", "other"] (defScope s_certificate) := ⟨rfl, rfl, rfl, by decide +kernel, rfl, by decide +kernel, by decide +kernel⟩
theorem ok_certificate {CWd : Addr} {f1 f2 f3 f4 f5 : Addr} {e1 e2 e3 e4 e5 : FuncData} (d : D K mg "certificate" s_certificate ["one", "other"] f fd) (B : Blt mg) (BW : BltW mg) (d_check_term : D K mg "check_term" s_check_term ["term"] f1 e1) (d_joint_word : D K mg "joint_word" s_joint_word ["one", "other"] f2 e2) (d_reduced_form : D K mg "reduced_form" s_reduced_form ["word"] f3 e3) (d_shown_by : D K mg "shown_by" s_shown_by ["last"] f4 e4) (d_reduction_moves : D K mg "reduction_moves" s_reduction_moves ["word"] f5 e5)
    (G_check_term : FnOk P w K mg base CX0 3 f1 e1 ["term"] (spOkTerm K .non)) (G_joint_word : FnOk P w K mg base CX0 10 f2 e2 ["one", "other"] (spJoint K)) (G_reduced_form : FnOk P w K mg base CX0 4 f3 e3 ["word"] (spRF K)) (G_shown_by : FnOk P w K mg base CX0 1 f4 e4 ["last"] (spShown K)) (G_reduction_moves : FnOk P w K mg base (L2N.CX P w) 4 f5 e5 ["word"] (spRMov K CWd)) : FnOk P w K mg base CX0 12 f fd ["one", "other"] (spCert K) := by
  refine d.F.ok sc_certificate (fun vs H Q E h => ?_) (fun cdv A outer s H vs Q E hr h => ?_)
  · obtain ⟨_, _, _, _, _, _, rfl, _⟩ := h
    rfl
  obtain ⟨x, y, a, b, r, k, rfl, ha, hb, az, ad, bz, bd, hk, hr3, hl, q⟩ := h
  refine ⟨_, (pss_cons (ps_expr (pe_call G_check_term (hr.mono (by decide)) rfl d_check_term.m d_check_term.F.kp d_check_term.b .nil pass0 (pa_cons (pv 0) pa_nil)))
 (pss_cons (ps_expr (pe_call G_check_term (hr.mono (by decide)) rfl d_check_term.m d_check_term.F.kp d_check_term.b .nil pass0 (pa_cons (pv 1) pa_nil)))
 (pss_cons (ps_set (i := 2) sc_certificate.nd rfl (Or.inl rfl) (pe_call G_joint_word (hr.mono (by decide)) rfl d_joint_word.m d_joint_word.F.kp d_joint_word.b .nil pass0 (pa_cons (pv 0) (pa_cons (pv 1) pa_nil))))
 (pss_cons (ps_set (i := 3) sc_certificate.nd rfl (Or.inl rfl) (pe_call G_reduced_form (hr.mono (by decide)) rfl d_reduced_form.m d_reduced_form.F.kp d_reduced_form.b .nil pass0 (pa_cons (pv 2) pa_nil)))
 (pss_one (ps_ret (pe_tup (pa_cons (pe_call G_shown_by (hr.mono (by decide)) rfl d_shown_by.m d_shown_by.F.kp d_shown_by.b .nil pass0 (pa_cons (pv 3) pa_nil)) (pa_cons (pe_call G_reduction_moves (hr.mono (by decide)) rfl d_reduction_moves.m d_reduction_moves.F.kp d_reduction_moves.b .nil passF (pa_cons (pv 2) pa_nil)) (pa_cons (pv 3) pa_nil)))))))))), ?_⟩
  refine ⟨_, rfl, x, a, rfl, ha, az, ad, fun H1 s1 => ?_⟩
  refine ⟨_, rfl, y, b, rfl, ta_mono (Tp.same s1) hb, bz, bd, fun H2 s2 => ?_⟩
  have s12 := s1.trans s2
  refine ⟨_, rfl, _, rfl, x, y, a, b, rfl, ta_mono (Tp.same s12) ha, ta_mono (Tp.same s12) hb, az, ad, bz, bd, fun p1 H3 s3 w1 => ?_⟩
  refine ⟨_, rfl, p1, _, r, k, rfl, w1, by omega, hr3, fun p2 H4 w2 s4 => ?_⟩
  refine ⟨_, rfl, p2, r, rfl, w2, redF_len hr3, fun H5 s5 => ?_⟩
  have w1 := (Tp.same (s4.trans s5)).sqT w1
  refine ⟨_, rfl, p1, _, rfl, w1, by omega, fun _ => ⟨r, k, hk, hr3, fun m us H6 hm hM s6 => ?_⟩, fun no => ?_⟩
  · refine ⟨_, rfl, (by show 3 ≤ sizeLine; decide), fun z nz => ?_⟩
    have sz := Same.new nz (.tup [shV r, .ref m, .ref p2])
    exact q z m p2 us _ (SqT.here upd_same) (sz _ _ hm) (hM.tp (Tp.same sz)) ((Tp.same (s5.trans (s6.trans sz))).sqT w2) ((s12.trans s3).trans ((s4.trans s5).trans (s6.trans sz)))
  · rw [jw_okW ad bd hl] at no
    cases no

abbrev s_check_certificate : Stmt := top 37
theorem sc_check_certificate : FnScope ["one", "other", "claimed", "result", "moves", "last", "reached"] ["one", "other", "claimed"] (defScope s_check_certificate) := ⟨rfl, rfl, rfl, by decide +kernel, rfl, by decide +kernel, by decide +kernel⟩
theorem ok_check_certificate {CWd CS : Addr} {f1 f2 f3 f4 : Addr} {e1 e2 e3 e4 : FuncData} (d : D K mg "check_certificate" s_check_certificate ["one", "other", "claimed"] f fd) (B : Blt mg) (BW : BltW mg) (gS : mg "InvalidStep" = some (.ref CS)) (xS : PySem.W.exmOne K (.ref CS) (.ref CS) = some true) (d_check_term : D K mg "check_term" s_check_term ["term"] f1 e1) (d_joint_word : D K mg "joint_word" s_joint_word ["one", "other"] f2 e2) (d_apply_moves : D K mg "apply_moves" s_apply_moves ["word", "moves"] f3 e3) (d_shown_by : D K mg "shown_by" s_shown_by ["last"] f4 e4)
    (G_check_term : FnOk P w K mg base CX0 3 f1 e1 ["term"] (spOkTerm K .non)) (G_joint_word : FnOk P w K mg base CX0 10 f2 e2 ["one", "other"] (spJoint K)) (G_apply_moves : FnOk P w K mg base (L2N.CX P w) 5 f3 e3 ["word", "moves"] (spApply K CWd CS)) (G_shown_by : FnOk P w K mg base CX0 1 f4 e4 ["last"] (spShown K)) : FnOk P w K mg base (L2C.CX P w) 12 f fd ["one", "other", "claimed"] (spCkC K) := by
  refine Fun.okC d.F sc_check_certificate (fun vs H Q E h => ?_) (fun cdv A outer s H vs Q E hr h => ?_)
  · obtain ⟨_, _, _, _, _, _, _, _, _, _, _, rfl, _⟩ := h
    rfl
  obtain ⟨x, y, a, b, q, m, l, w, us, ms, last, rfl, ha, hb, az, ad, bz, bd, hl, hq, hm, hM, hu, hA, hw, qq⟩ := h
  refine ⟨_, (pss_cons (ps_expr (pe_call G_check_term (hr.mono (by decide)) rfl d_check_term.m d_check_term.F.kp d_check_term.b .nil pass0 (pa_cons (pv 0) pa_nil)))
 (pss_cons (ps_expr (pe_call G_check_term (hr.mono (by decide)) rfl d_check_term.m d_check_term.F.kp d_check_term.b .nil pass0 (pa_cons (pv 1) pa_nil)))
 (pss_cons (ps_asg (pv 2) (pg_tup (by rfl) (pgs_cons (pg_name (i := 3) sc_check_certificate.nd rfl (Or.inl rfl)) (pgs_cons (pg_name (i := 4) sc_check_certificate.nd rfl (Or.inl rfl)) (pgs_cons (pg_name (i := 5) sc_check_certificate.nd rfl (Or.inl rfl)) pgs_nil)))))
 (pss_cons (ps_try_sel rfl rfl (sel_one ⟨rfl, by decide +kernel, .inl gS⟩) (fun hd => L2H.passesAt_of rfl hd) (L2C.takes_of rfl rfl rfl rfl) (fun W pn xe tk po => pss_one (ps_set (i := 6) sc_check_certificate.nd rfl (Or.inl rfl) (pe_callSD (E := fun σ cls d H => W cls d σ H) G_apply_moves (hr.mono (by decide)) rfl d_apply_moves.m d_apply_moves.F.kp d_apply_moves.b .nil (passAt tk) (pa_cons (pe_call G_joint_word (hr.mono (by decide)) rfl d_joint_word.m d_joint_word.F.kp d_joint_word.b .nil pass0 (pa_cons (pv 0) (pa_cons (pv 1) pa_nil))) (pa_cons (pv 4) pa_nil))))) (fun a oe cls d pn tkS hot => pss_one (ps_ret pe_bl)))
 (pss_one (ps_ret (pe_and (pe_cmpR (op_eqD hr.units) (pv 6) (pv 5) (nomark _)) (pe_one (pe_cmpR op_eq (pv 3) (pe_call G_shown_by (hr.mono (by decide)) rfl d_shown_by.m d_shown_by.F.kp d_shown_by.b .nil pass0 (pa_cons (pv 5) pa_nil)) (nomark _)))))))))), ?_⟩
  refine ⟨_, rfl, x, a, rfl, ha, az, ad, fun H1 s1 => ?_⟩
  refine ⟨_, rfl, y, b, rfl, ta_mono (Tp.same s1) hb, bz, bd, fun H2 s2 => ?_⟩
  have s12 := s1.trans s2
  have tp := Tp.same s12
  refine ⟨_, rfl, q, _, rfl, tp.sqT hq, rfl, _, _, rfl, _, _, rfl, _, _, rfl, rfl, ?_⟩
  refine ⟨_, rfl, _, rfl, x, y, a, b, rfl, ta_mono tp ha, ta_mono tp hb, az, ad, bz, bd, fun p1 H3 s3 w1 => ?_⟩
  have s13 := s12.trans s3
  have tp := Tp.same s13
  have hm3 : SqL K H3 m us ∨ SqT K H3 m us := hm.imp (fun z => s13.seq z) (fun z => tp.sqT z)
  have no : ∀ {o : Bool}, okW (jw a b) = o → o = true := fun z => by rw [← z]; exact jw_okW ad bd hl
  refine ⟨_, rfl, p1, m, _, us, ms, rfl, w1, by omega, hm3, hM.tp tp, hu, fun _ => hA, fun _ r hrun p H4 w2 s4 => ?_, fun _ j hrun e H4 s4 ne he => ?_, fun z => absurd (no z) (by decide)⟩
  · have s14 := s13.trans s4
    have wl := (Tp.same s14).sqT hw
    refine ⟨_, rfl, _, rfl, wD r, wD last, dp_wt w2, dp_wt wl, wD_shaped r, wD_shaped last, ?_⟩
    rw [wD_eqv]
    have q : ∀ H', Same H H' → Q (.bl (decide (r = last) && decide (V.str w = shV last))) H' := fun H' sm => by
      have q := qq H' sm
      unfold ckD at q
      rw [hrun] at q
      exact q
    refine ⟨_, rfl, ite2 (fun c => ?_) (fun c => ?_)⟩
    · have hll : last.length ≤ 1000 := by
        have e : r = last := of_decide_eq_true c
        have := runA_len hA hrun
        rw [← e]
        omega
      refine ⟨_, rfl, _, rfl, l, last, rfl, wl, hll, fun H5 s5 => ?_⟩
      rw [c] at q
      have q := q H5 (s14.trans s5)
      have fl : scal (V.str w) (shV last) = true := by
        unfold shV
        (repeat' split) <;> rfl
      exact ⟨fl, q⟩
    · rw [Bool.not_eq_true _ |>.mp c] at q
      exact q H4 s14
  · refine ⟨true, xS, fun _ z nz => ?_, fun z => nomatch z⟩
    have q := qq H4 (s13.trans s4)
    unfold ckD at q
    rw [hrun] at q
    exact q

abbrev s__law_draws : Stmt := top 39
theorem sc__law_draws : FnScope ["_law_script", "_law_salt", "_law_cell"] ["_law_script"] (defScope s__law_draws) := ⟨rfl, rfl, rfl, by decide +kernel, rfl, by decide +kernel, by decide +kernel⟩
theorem ok__law_draws (d : D K mg "_law_draws" s__law_draws ["_law_script"] f fd) (B : Blt mg) : FnOk P w K mg base CX0 1 f fd ["_law_script"] (spDraws K) := by
  refine d.F.ok sc__law_draws (fun vs H Q E h => ?_) (fun cdv A outer s H vs Q E hr h => ?_)
  · obtain ⟨a, ns, rfl, _⟩ := h
    rfl
  obtain ⟨a, ns, rfl, hS, q⟩ := h
  refine ⟨_, (pss_cons (ps_set (i := 1) sc__law_draws.nd rfl (Or.inl rfl) pe_int)
 (pss_cons (ps_for PassesOwn.never rfl (pi_list (pe_slice sl_list (pv 0) po_none (po_some pe_int))) (pg_name (i := 2) sc__law_draws.nd rfl (Or.inl rfl))
  (pss_one (ps_set (i := 1) sc__law_draws.nd rfl (Or.inl rfl) (pe_op op_mod (pe_op op_add (pe_op op_add (pe_op op_mul (pv 1) pe_int) (pe_op op_mod (pv 2) pe_int)) pe_int) pe_int))))
 (pss_one (ps_ret (pe_lst (pa_cons (pe_callTy call_list_of (by rfl) B.list (by decide +kernel) (pa_cons (pe_slice sl_list (pv 0) po_none (po_some pe_int)) pa_nil)) (pa_cons pe_int (pa_cons pe_int (pa_cons (pv 1) pa_nil))))))))), ?_⟩
  refine ⟨_, rfl, 63, rfl, a, _, rfl, hS, fun p hp => ?_⟩
  rw [cut63]
  have s1 : Same H (upd H p (.lst ((ns.take 63).map V.int))) := Same.new hp _
  refine ⟨p, rfl, ⟨_, SqL.here upd_same⟩, for_list (K := K) (a := p) (xs := (ns.take 63).map V.int) (fun i σ H' => ∃ (s : Int) (v : Option V), σ = [some (.ref a), some (.int s), v] ∧ 0 ≤ s ∧ s < 2147483647 ∧ H' = upd H p (.lst ((ns.take 63).map V.int)))
    ⟨9471, none, rfl, by decide, by decide, rfl⟩ (fun i σ H' _ ⟨_, _, _, _, _, e⟩ => by rw [e]; exact SqL.here upd_same) ?_ ?_⟩
  · rintro i x σ H' hi ⟨s, v, rfl, h0, h1, rfl⟩
    obtain ⟨u, rfl⟩ : ∃ u, x = V.int u := by
      rw [List.getElem?_map] at hi
      cases e : (ns.take 63)[i]? with
      | none =>
        rw [e] at hi
        cases hi
      | some u =>
        rw [e] at hi
        exact ⟨u, (Option.some.inj hi).symm⟩
    refine ⟨_, rfl, _, _, rfl, rfl, .inl ⟨by omega, by omega⟩, _, rfl, _, _, rfl, rfl, (by show (0 : Int) < 2147483587; decide), _, _, rfl, rfl, _, _, rfl, rfl, _, _, rfl, rfl, (by show (0 : Int) < 2147483647; decide), ?_⟩
    exact ⟨_, _, rfl, Int.emod_nonneg _ (by decide), Int.emod_lt_of_pos _ (by decide), rfl⟩
  · rintro σ H' ⟨s, v, rfl, h0, h1, rfl⟩
    refine ⟨_, rfl, 63, rfl, a, _, rfl, s1.seq hS, fun p2 hp2 => ?_⟩
    rw [cut63]
    have s2 := s1.trans (Same.new hp2 (.lst ((ns.take 63).map V.int)))
    refine ⟨p2, _, rfl, .inl (SqL.here upd_same), fun c hc => ?_⟩
    have s3 := s2.trans (Same.new hc (.lst ((ns.take 63).map V.int)))
    refine ⟨_, rfl, four_le, fun r hr' => ?_⟩
    have nrc : c ≠ r := fun e => by
      rw [← e, upd_same] at hr'
      cases hr'
    refine q r _ (s3.trans (Same.new hr' _)) (s3.free hr') ⟨c, ns.take 63, 0, 0, s, upd_same, ?_, nrc, by decide, by decide, h0, h1⟩
    rw [upd_ne nrc, upd_same]

abbrev s__law_draw : Stmt := top 40
theorem sc__law_draw : FnScope ["_law_rng", "_law_amount", "_law_cell", "_law_got", "_law_seed"] ["_law_rng", "_law_amount"] (defScope s__law_draw) := ⟨rfl, rfl, rfl, by decide +kernel, rfl, by decide +kernel, by decide +kernel⟩
theorem ok__law_drawC (d : D K mg "_law_draw" s__law_draw ["_law_rng", "_law_amount"] f fd) (B : Blt mg) : FnOk P w K mg base CX0 1 f fd ["_law_rng", "_law_amount"] spDrawC := by
  refine d.F.ok sc__law_draw (fun vs H Q E h => ?_) (fun cdv A outer s H vs Q E hr h => ?_)
  · obtain ⟨_, _, _, rfl, _⟩ := h
    rfl
  obtain ⟨r, n, c, rfl, ⟨ns, i, b, s, hR, hC, ncr, hi, hb, h0, h1⟩, hn, hn2, q⟩ := h
  refine ⟨_, (C8.pss_cut (ps_if (PW.pt (pw_and (pt_cmpR op_eq (pe_ix ix_list (pv 0) pe_int (fun _ _ => rfl)) pe_int (nomark _)) (pw_and1 (pt_cmpR op_lt (pe_ix ix_list (pv 0) pe_int (fun _ _ => rfl)) (pe_callB call_len_seq (by rfl) B.len PySem.boot_len (pa_cons (pe_ix ix_list (pv 0) pe_int (fun _ _ => rfl)) pa_nil)) (nomark _))))) (pss_cons (ps_set (i := 2) sc__law_draw.nd rfl (Or.inl rfl) (pe_ix ix_list (pe_ix ix_list (pv 0) pe_int (fun _ _ => rfl)) (pe_ix ix_list (pv 0) pe_int (fun _ _ => rfl)) (fun _ _ => rfl)))
 (pss_cons (ps_asg (pe_op op_add (pe_ix ix_list (pv 0) pe_int (fun _ _ => rfl)) pe_int) (pg_sub (pv 0) pe_int set_list))
 (pss_one (ps_if (pt_cmpR op_ge (pv 2) (pe_op op_pow pe_int pe_int) (nomark _)) (pss_one (ps_asg (pv 2) (pg_sub (pv 0) pe_int set_list))) (pss_one (ps_asg (pe_op op_mod (pe_op op_add (pe_op op_add (pe_op op_mul (pe_ix ix_list (pv 0) pe_int (fun _ _ => rfl)) pe_int) (pe_op op_mul (pe_op op_mod (pv 2) pe_int) pe_int)) pe_int) pe_int) (pg_sub (pv 0) pe_int set_list))))))) pss_nil)
 (pss_cons (ps_if (pt_cmpR op_gt (pe_ix ix_list (pv 0) pe_int (fun _ _ => rfl)) pe_int (nomark _)) (pss_cons (ps_set (i := 3) sc__law_draw.nd rfl (Or.inl rfl) (pe_op op_mod (pe_ix ix_list (pv 0) pe_int (fun _ _ => rfl)) (pv 1)))
 (pss_cons (ps_asg (pe_op op_fdiv (pe_ix ix_list (pv 0) pe_int (fun _ _ => rfl)) (pv 1)) (pg_sub (pv 0) pe_int set_list))
 (pss_one (ps_ret (pv 3))))) pss_nil)
 (pss_cons (ps_set (i := 4) sc__law_draw.nd rfl (Or.inl rfl) (pe_ix ix_list (pv 0) pe_int (fun _ _ => rfl)))
 (pss_cons (ps_asg (pe_op op_mod (pe_op op_add (pe_op op_add (pe_op op_mul (pv 4) pe_int) (pe_op op_mul (pe_op op_fdiv (pv 4) pe_int) pe_int)) pe_int) pe_int) (pg_sub (pv 0) pe_int set_list))
 (pss_one (ps_ret (pe_op op_mod (pe_op op_add (pe_op op_fdiv (pe_ix ix_list (pv 0) pe_int (fun _ _ => rfl)) pe_int) (pe_op op_mul (pe_op op_mod (pe_ix ix_list (pv 0) pe_int (fun _ _ => rfl)) pe_int) pe_int)) (pv 1)))))))), ?_⟩
  refine ⟨fun σ H1 => ∃ (i b s : Int) (cell : Option V), σ = [some (.ref r), some (.int n), cell, none, none] ∧ But r H H1 ∧ H1 r = some (.lst [.ref c, .int i, .int b, .int s]) ∧ H1 c = some (.lst (ns.map V.int)) ∧ 0 ≤ i ∧ 0 ≤ b ∧ 0 ≤ s ∧ s < 2147483647, ?_, ?_⟩
  · refine ⟨_, rfl, r, _, 2, _, rfl, rfl, SqL.here hR, rfl, rfl, _, rfl, ?_⟩
    refine ite2 (fun c1 => ?_) (fun c1 => ?_)
    · refine ⟨_, rfl, r, _, 1, _, rfl, rfl, SqL.here hR, rfl, _, rfl, r, _, 0, _, rfl, rfl, SqL.here hR, rfl, c, _, rfl, .inl (SqL.here hC), _, _, rfl, rfl, _, rfl, ?_⟩
      refine ite2 (fun c2 => ?_) (fun c2 => ?_)
      · have c3 : i < (((ns.map V.int).length : Nat) : Int) := of_decide_eq_true c2
        rw [List.length_map] at c3
        have hk : i.toNat < ns.length := by omega
        have ek : i = ((i.toNat : Nat) : Int) := by omega
        obtain ⟨u, q1⟩ : ∃ u, atI (ns.map V.int) i = some (.int u) := by
          refine ⟨ns[i.toNat], ?_⟩
          have q0 : atI (ns.map V.int) ((i.toNat : Nat) : Int) = some (.int ns[i.toNat]) := atI_nat (by rw [List.getElem?_map, List.getElem?_eq_getElem hk] <;> rfl)
          rw [← ek] at q0
          exact q0
        refine ⟨_, rfl, r, _, 0, _, rfl, rfl, SqL.here hR, rfl, _, rfl, r, _, 1, _, rfl, rfl, SqL.here hR, rfl, c, _, i, _, rfl, rfl, SqL.here hC, q1, ?_⟩
        -- rng[1] = rng[1] + 1
        refine ⟨_, rfl, r, _, 1, _, rfl, rfl, SqL.here hR, rfl, _, _, rfl, rfl, _, rfl, r, _, 1, 1, rfl, rfl, hR, rfl, ?_⟩
        have hC2 : (upd H r (.lst [.ref c, .int (i + 1), .int b, .int s])) c = some (.lst (ns.map V.int)) := by rw [upd_ne ncr]; exact hC
        refine ⟨_, rfl, _, _, rfl, rfl, ⟨by decide, by decide, by decide⟩, _, _, rfl, rfl, _, rfl, ?_⟩
        refine ite2 (fun c4 => ?_) (fun c4 => ?_)
        · have c5 : (10 : Int) ^ (18 : Int).toNat ≤ u := of_decide_eq_true c4
          have c6 : (0 : Int) ≤ (10 : Int) ^ (18 : Int).toNat := by decide
          refine ⟨_, rfl, _, rfl, r, _, 2, 2, rfl, rfl, upd_same, rfl, ?_⟩
          refine ⟨i + 1, u, s, _, rfl, But.set.trans But.set, upd_same, ?_, by omega, by omega, h0, h1⟩
          rw [upd_ne ncr]
          exact hC2
        · refine ⟨_, rfl, r, _, 3, _, rfl, rfl, SqL.here upd_same, rfl, _, _, rfl, rfl, .inl ⟨by omega, by omega⟩, _, rfl, _, _, rfl, rfl, (by show (0 : Int) < 2147483587; decide), _, _, rfl, rfl, .inl ⟨?_, ?_⟩, _, _, rfl, rfl, _, _, rfl, rfl, _, _, rfl, rfl, (by show (0 : Int) < 2147483647; decide), _, rfl, r, _, 3, 3, rfl, rfl, upd_same, rfl, ?_⟩
          · have := Int.emod_nonneg u (show (2147483587 : Int) ≠ 0 by decide)
            omega
          · have := Int.emod_lt_of_pos u (show (0 : Int) < 2147483587 by decide)
            omega
          · refine ⟨i + 1, b, _, _, rfl, But.set.trans But.set, upd_same, ?_, by omega, hb, Int.emod_nonneg _ (by decide), Int.emod_lt_of_pos _ (by decide)⟩
            rw [upd_ne ncr]
            exact hC2
      · exact ⟨i, b, s, none, rfl, fun _ _ _ h => h, hR, hC, hi, hb, h0, h1⟩
    · exact iteF ⟨i, b, s, none, rfl, fun _ _ _ h => h, hR, hC, hi, hb, h0, h1⟩
  · rintro σ H1 ⟨i, b, s, cell, rfl, e1, hR, hC, hi, hb, h0, h1⟩
    refine ⟨_, rfl, r, _, 2, _, rfl, rfl, SqL.here hR, rfl, _, _, rfl, rfl, _, rfl, ?_⟩
    refine ite2 (fun c1 => ?_) (fun c1 => ?_)
    · refine ⟨_, rfl, r, _, 2, _, rfl, rfl, SqL.here hR, rfl, _, rfl, _, _, rfl, rfl, hn, ?_⟩
      refine ⟨_, rfl, r, _, 2, _, rfl, rfl, SqL.here hR, rfl, _, rfl, _, _, rfl, rfl, ⟨hn, hn2⟩, _, rfl, r, _, 2, 2, rfl, rfl, hR, rfl, _, rfl, ?_⟩
      refine q _ _ (Int.emod_nonneg _ (by omega)) (Int.emod_lt_of_pos _ hn) ⟨ns, i, _, s, upd_same, ?_, ncr, hi, Int.ediv_nonneg hb (by omega), h0, h1⟩ (e1.trans But.set)
      rw [upd_ne ncr]
      exact hC
    · refine ⟨_, rfl, r, _, 3, _, rfl, rfl, SqL.here hR, rfl, ?_⟩
      refine ⟨_, rfl, _, _, rfl, rfl, .inl ⟨by omega, by omega⟩, _, rfl, _, _, rfl, rfl, ⟨by decide, by decide⟩, _, _, rfl, rfl, .inl ⟨?_, ?_⟩, _, _, rfl, rfl, _, _, rfl, rfl, _, _, rfl, rfl, (by show (0 : Int) < 2147483647; decide), _, rfl, r, _, 3, 3, rfl, rfl, hR, rfl, ?_⟩
      · have := Int.ediv_nonneg h0 (show (0 : Int) ≤ 65539 by decide)
        omega
      · have : s / 65539 ≤ s := Int.ediv_le_self _ h0
        omega
      · have z0 : 0 ≤ (s * 62089 + s / 65539 * 29 + 1013904223) % 2147483647 := Int.emod_nonneg _ (by decide)
        have z1 : (s * 62089 + s / 65539 * 29 + 1013904223) % 2147483647 < 2147483647 := Int.emod_lt_of_pos _ (by decide)
        refine ⟨_, rfl, r, _, 3, _, rfl, rfl, SqL.here upd_same, rfl, _, _, rfl, rfl, ⟨by decide, by decide⟩, _, rfl, r, _, 3, _, rfl, rfl, SqL.here upd_same, rfl, _, _, rfl, rfl, (by show (0 : Int) < 8191; decide), _, _, rfl, rfl, .inl ⟨?_, ?_⟩, _, _, rfl, rfl, _, rfl, _, _, rfl, rfl, hn, ?_⟩
        · have := Int.emod_nonneg ((s * 62089 + s / 65539 * 29 + 1013904223) % 2147483647) (show (8191 : Int) ≠ 0 by decide)
          omega
        · have := Int.emod_lt_of_pos ((s * 62089 + s / 65539 * 29 + 1013904223) % 2147483647) (show (0 : Int) < 8191 by decide)
          omega
        · refine q _ _ (Int.emod_nonneg _ (by omega)) (Int.emod_lt_of_pos _ hn) ⟨ns, i, b, _, upd_same, ?_, ncr, hi, hb, z0, z1⟩ (e1.trans But.set)
          rw [upd_ne ncr]
          exact hC
theorem ok__law_draw (d : D K mg "_law_draw" s__law_draw ["_law_rng", "_law_amount"] f fd) (B : Blt mg) : FnOk P w K mg base CX0 1 f fd ["_law_rng", "_law_amount"] spDraw := (ok__law_drawC d B).imp fun _ _ _ _ => spDraw_C

abbrev s__law_pick : Stmt := top 41
theorem sc__law_pick : FnScope ["_law_rng", "_law_terms"] ["_law_rng", "_law_terms"] (defScope s__law_pick) := ⟨rfl, rfl, rfl, by decide +kernel, rfl, by decide +kernel, by decide +kernel⟩
theorem ok__law_pickC {f1 : Addr} {e1 : FuncData} (d__law_pick : D K mg "_law_pick" s__law_pick ["_law_rng", "_law_terms"] f fd) (B : Blt mg) (d__law_draw : D K mg "_law_draw" s__law_draw ["_law_rng", "_law_amount"] f1 e1) : FnOk P w K mg base CX0 2 f fd ["_law_rng", "_law_terms"] (spPickC K) := by
  have G__law_draw : FnOk P w K mg base CX0 1 f1 e1 ["_law_rng", "_law_amount"] spDrawC := ok__law_drawC d__law_draw B
  refine d__law_pick.F.ok sc__law_pick (fun vs H Q E h => ?_) (fun cdv A outer s H vs Q E hr h => ?_)
  · obtain ⟨_, _, _, _, rfl, _⟩ := h
    rfl
  obtain ⟨r, l, c, xs, rfl, hR, hS, h0, h1, hn, q⟩ := h
  refine ⟨_, (pss_one (ps_ret (pe_ix (r := rIx K) ix_seq (pv 1) (pe_call G__law_draw (hr.mono (by decide)) rfl d__law_draw.m d__law_draw.F.kp d__law_draw.b .nil pass0 (pa_cons (pv 0) (pa_cons (pe_callB call_len_seq (by rfl) B.len PySem.boot_len (pa_cons (pv 1) pa_nil)) pa_nil))) (fun _ _ => rfl)))), ?_⟩
  refine ⟨_, rfl, _, rfl, _, rfl, l, xs, rfl, hS, r, _, c, rfl, hR, by omega, by omega, fun n H' n0 n1 R' b' => ?_⟩
  exact rix_in (hS.imp (b'.sqL hn) (b'.sqT hn)) n0 n1 fun v hv => q v H' hv R' b'
theorem ok__law_pick {f1 : Addr} {e1 : FuncData} (d__law_pick : D K mg "_law_pick" s__law_pick ["_law_rng", "_law_terms"] f fd) (B : Blt mg) (d__law_draw : D K mg "_law_draw" s__law_draw ["_law_rng", "_law_amount"] f1 e1) : FnOk P w K mg base CX0 2 f fd ["_law_rng", "_law_terms"] (spPick K) := (ok__law_pickC d__law_pick B d__law_draw).imp fun _ _ _ _ => spPick_C

abbrev s__law_same : Stmt := top 42
theorem sc__law_same : FnScope ["_law_result", "_law_expected", "_law_k"] ["_law_result", "_law_expected"] (defScope s__law_same) := ⟨rfl, rfl, rfl, by decide +kernel, rfl, by decide +kernel, by decide +kernel⟩
theorem same_ix {H : Hp} {x y : V} {d : PyData} {ds : List PyData} (hd : d = .list ds ∨ d = .tuple ds) (hx : Dp K H x d) : ∃ a xs, x = .ref a ∧ (SqL K H a xs ∨ SqT K H a xs) ∧ DpAll K H xs ds := by
  rcases hd with rfl | rfl
  · cases hx with
    | lst hs ha => exact ⟨_, _, rfl, .inl hs, ha⟩
  · cases hx with
    | tup hs ha => exact ⟨_, _, rfl, .inr hs, ha⟩
theorem rix_of {H : Hp} {a : Addr} {xs : List V} {i : Nat} {v : V} {Q : VK} (h : SqL K H a xs ∨ SqT K H a xs) (hi : xs[i]? = some v) (q : Q v H) : rIx K (.ref a) (.int (0 + (i : Int))) H Q := by
  have e : (0 + (i : Int)) = (i : Int) := by omega
  rcases h with h | h
  · exact .inl ⟨a, xs, _, v, rfl, rfl, h, by rw [e]; exact atI_nat hi, q⟩
  · exact .inr (.inl ⟨a, xs, _, v, rfl, rfl, h, by rw [e]; exact atI_nat hi, q⟩)
theorem same_sq {H H' : Hp} {a : Addr} {xs : List V} (e : Same H H') (h : SqL K H a xs ∨ SqT K H a xs) : SqL K H' a xs ∨ SqT K H' a xs := by
  rcases h with h | h
  · exact .inl (e.seq h)
  · exact .inr ((Tp.same e).sqT h)
theorem ok__law_same (d__law_same : D K mg "_law_same" s__law_same ["_law_result", "_law_expected"] f fd) (B : Blt mg) : ∀ n : Nat, FnOk P w K mg base CX0 n f fd ["_law_result", "_law_expected"] (spSame K n)
  | 0 => fn_none fun vs H Q E h => by
    obtain ⟨_, _, _, _, _, _, _, h, _⟩ := h
    omega
  | n + 1 => by
    have G__law_same := ok__law_same d__law_same B n
    refine d__law_same.F.ok sc__law_same (fun vs H Q E h => ?_) (fun cdv A outer s H vs Q E hr h => ?_)
    · obtain ⟨_, _, _, rfl, _⟩ := h
      rfl
    obtain ⟨x, y, d, rfl, hx, hy, hs, hd, hw, q⟩ := h
    refine ⟨_, (pss_cons (ps_if (pt_val (pe_callB call_isi (by rfl) B.isinstance (by decide +kernel) (pa_cons (pv 1) (pa_cons (pe_bltn (v := .ty "dict") (by rfl) B.dict (by decide +kernel) rfl) pa_nil)))) (pss_one ps_never) pss_nil)
 (pss_cons (ps_if (PW.pt (pw_or (pt_cmpR op_ne (pe_callB call_isi (by rfl) B.isinstance (by decide +kernel) (pa_cons (pv 1) (pa_cons (pe_bltn (v := .ty "tuple") (by rfl) B.tuple (by decide +kernel) rfl) pa_nil))) (pe_callB call_isi (by rfl) B.isinstance (by decide +kernel) (pa_cons (pv 0) (pa_cons (pe_bltn (v := .ty "tuple") (by rfl) B.tuple (by decide +kernel) rfl) pa_nil))) (nomark _)) (pw_or1 (pt_cmpR op_ne (pe_callB call_isi (by rfl) B.isinstance (by decide +kernel) (pa_cons (pv 1) (pa_cons (pe_bltn (v := .ty "list") (by rfl) B.list (by decide +kernel) rfl) pa_nil))) (pe_callB call_isi (by rfl) B.isinstance (by decide +kernel) (pa_cons (pv 0) (pa_cons (pe_bltn (v := .ty "list") (by rfl) B.list (by decide +kernel) rfl) pa_nil))) (nomark _))))) (pss_one (ps_ret pe_bl)) pss_nil)
 (pss_cons (ps_if (pt_not (pt_val (pe_callB call_isiT (by rfl) B.isinstance (by decide +kernel) (pa_cons (pv 1) (pa_cons (pe_tup (pa_cons (pe_bltn (v := .ty "tuple") (by rfl) B.tuple (by decide +kernel) rfl) (pa_cons (pe_bltn (v := .ty "list") (by rfl) B.list (by decide +kernel) rfl) pa_nil))) pa_nil))))) (pss_one (ps_ret (pe_and (pe_cmpR op_eq (pe_callB call_isi (by rfl) B.isinstance (by decide +kernel) (pa_cons (pv 0) (pa_cons (pe_bltn (v := .ty "bool") (by rfl) B.bool (by decide +kernel) rfl) pa_nil))) (pe_callB call_isi (by rfl) B.isinstance (by decide +kernel) (pa_cons (pv 1) (pa_cons (pe_bltn (v := .ty "bool") (by rfl) B.bool (by decide +kernel) rfl) pa_nil))) (nomark _)) (pe_one (pe_cmpR (op_eqD hr.units) (pv 0) (pv 1) (nomark _)))))) pss_nil)
 (pss_one (ps_ret (pe_and (pe_cmpR op_eq (pe_callB call_len_seq (by rfl) B.len PySem.boot_len (pa_cons (pv 0) pa_nil)) (pe_callB call_len_seq (by rfl) B.len PySem.boot_len (pa_cons (pv 1) pa_nil)) (nomark _)) (pe_one (pe_callB (cr_all rfl) (by rfl) B.all (by decide +kernel) (pa_cons (pe_lc (own := [("_law_k", 2)]) (g := gName 2) (tt := tYes) (by rfl) sc__law_same.nd (pi_range1 (by rfl) B.range (pa_cons (pe_callB call_len_seq (by rfl) B.len PySem.boot_len (pa_cons (pv 1) pa_nil)) pa_nil)) (blkOk_by (own := [("_law_k", 2)]) (N := ["_law_result", "_law_expected", "_law_k"]) (sc := defScope s__law_same) (by decide +kernel)) (fun _ _ _ _ _ => (pg_name (i := 2) sc__law_same.nd rfl (Or.inl rfl))) (fun _ _ _ _ _ => pts_nil) (fun _ _ _ _ _ => (pe_call G__law_same hr rfl d__law_same.m d__law_same.F.kp d__law_same.b .nil pass0 (pa_cons (pe_ix (r := rIx K) ix_seq (pv 0) (pv 2) (fun _ _ => rfl)) (pa_cons (pe_ix (r := rIx K) ix_seq (pv 1) (pv 2) (fun _ _ => rfl)) pa_nil))))) pa_nil))))))))), ?_⟩
    refine ⟨_, rfl, _, _, _, _, false, rfl, .ty "dict", dp_ty hy, kit_dict hy, false, rfl, iteF ?_⟩
    refine ⟨_, rfl, _, _, _, _, _, rfl, .ty "tuple", dp_ty hy, kit_tuple hy, _, rfl, _, _, _, _, _, rfl, .ty "tuple", dp_ty hx, kit_tuple hx, rfl, _, rfl, ite_no ?_ ?_⟩
    · rw [decide_eq_true rfl]
      rfl
    refine ⟨_, rfl, _, _, _, _, _, rfl, .ty "list", dp_ty hy, kit_list hy, _, rfl, _, _, _, _, _, rfl, .ty "list", dp_ty hx, kit_list hx, rfl, _, rfl, ite_no ?_ ?_⟩
    · rw [decide_eq_true rfl]
      rfl
    refine ⟨_, rfl, two_le, fun p hp => ?_⟩
    have s1 := Same.new hp (.tup [.ty "tuple", .ty "list"])
    have hx1 := dp_same s1 d hx
    have hy1 := dp_same s1 d hy
    refine ⟨_, p, _, _, _, _, rfl, upd_same, .cons (.ty _) (.cons (.ty _) .nil), dp_ty hy1, kit_seq hy1, _, rfl, ?_⟩
    generalize (upd H p (.tup [.ty "tuple", .ty "list"])) = H1 at *
    cases hsq : (isT d || isLs d) with
    | false =>
      refine iteT ?_
      refine ⟨_, rfl, _, _, _, _, _, rfl, .ty "bool", dp_ty hx1, kit_bool hx1, _, rfl, _, _, _, _, _, rfl, .ty "bool", dp_ty hy1, kit_bool hy1, rfl, true, ?_, iteT ?_⟩
      · rw [decide_eq_true rfl]
      · refine ⟨_, rfl, _, rfl, d, d, hx1, hy1, hs, hs, ?_⟩
        rw [SeqAt.eqv_refl d (SeqAt.canLay_of_shaped hs)]
        exact q H1 s1
    | true =>
      refine iteF ?_
      obtain ⟨ds, hds⟩ : ∃ ds, d = .list ds ∨ d = .tuple ds := by
        cases d <;> first | exact ⟨_, .inl rfl⟩ | exact ⟨_, .inr rfl⟩ | exact absurd (show false = true from hsq) (by decide)
      obtain ⟨a, xs, rfl, hX, hXA⟩ := same_ix (y := y) hds hx1
      obtain ⟨b, ys, rfl, hY, hYA⟩ := same_ix (y := .ref a) hds hy1
      have lx := dpAll_len hXA
      have ly := dpAll_len hYA
      have hcan : PyData.canLayAll0 ds = true := by
        have := SeqAt.canLay_of_shaped hs
        rcases hds with rfl | rfl <;> exact this
      have hdep : d.depth = PyData.depthAll ds + 1 := by rcases hds with rfl | rfl <;> rfl
      have hd64 := SeqAt.depth_of_shaped hs
      have hwd : ds.length ≤ 1000 ∧ wideAll ds = true := by
        have h0 : (decide (ds.length ≤ 1000) && wideAll ds) = true := by rcases hds with rfl | rfl <;> exact hw
        have h1 := Bool.and_eq_true_iff.mp h0
        exact ⟨of_decide_eq_true h1.1, h1.2⟩
      refine ⟨_, rfl, a, _, rfl, hX, _, rfl, b, _, rfl, hY, rfl, true, ?_, iteT ?_⟩
      · rw [lx, ly, decide_eq_true rfl]
      refine ⟨_, rfl, b, _, rfl, hY, (ys.length : Int), rfl, by omega, by omega, fun D hD => ?_⟩
      refine lc_range (lo := 0) (n := ((ys.length : Int)).toNat) (fun i H' => Same H1 H' ∧ H' D = some (.lst (List.replicate i (V.bl true)))) ⟨Same.new hD _, upd_same⟩ ?_ ?_
      · rintro i H' hi ⟨sm, hl⟩
        have hi' : i < ds.length := by omega
        obtain ⟨u, eu, hu⟩ := dpAll_at hXA i ds[i] (List.getElem?_eq_getElem hi')
        obtain ⟨v, ev, hv⟩ := dpAll_at hYA i ds[i] (List.getElem?_eq_getElem hi')
        have hm : ds[i] ∈ ds := List.getElem_mem hi'
        have hdi := depth_at hm
        refine ⟨rfl, ?_⟩
        refine ⟨_, rfl, _, rfl, rix_of (same_sq sm hX) eu ⟨_, rfl, _, rfl, rix_of (same_sq sm hY) ev ⟨u, v, ds[i], rfl, dp_same sm _ hu, dp_same sm _ hv, ?_, by omega, wide_at hwd.2 hm, fun H2 s2 => ?_⟩⟩⟩
        · unfold SeqAt.shaped
          rw [shaped_at hcan hm, decide_eq_true (by omega)]
          rfl
        · refine ⟨_, s2 _ _ hl, by rw [List.length_replicate]; exact small1000 (by omega), fun c o e => ?_, ?_⟩
          · rw [upd_ne (ne_of_none e hD)]
            exact s2 _ _ (sm _ _ e)
          · rw [upd_same, List.replicate_succ']
      · rintro H' ⟨sm, hl⟩
        refine ⟨D, List.replicate ((ys.length : Int)).toNat true, rfl, SqL.here (by rw [hl, List.map_replicate]), ?_⟩
        rw [all_rep]
        exact q H' (s1.trans sm)

abbrev s__law_term : Stmt := top 43
theorem sc__law_term : FnScope ["_law_rng", "_law_many", "_law_cap", "_law_half", "_law_low", "_law_high", "_law_left"] ["_law_rng", "_law_many", "_law_cap"] (defScope s__law_term) := ⟨rfl, rfl, rfl, by decide +kernel, rfl, by decide +kernel, by decide +kernel⟩
theorem ok__law_termC {fr : Addr} {frd : FuncData} (d__law_term : D K mg "_law_term" s__law_term ["_law_rng", "_law_many", "_law_cap"] f fd) (B : Blt mg) (d__law_draw : D K mg "_law_draw" s__law_draw ["_law_rng", "_law_amount"] fr frd) : ∀ n : Nat, FnOk P w K mg base CX0 (n + 1) f fd ["_law_rng", "_law_many", "_law_cap"] (spTermC K n)
  | 0 => fn_none fun vs H Q E h => by
    obtain ⟨_, _, _, _, h, _⟩ := h
    omega
  | n + 1 => by
    have G__law_term := ok__law_termC d__law_term B d__law_draw n
    have G__law_draw : FnOk P w K mg base CX0 1 fr frd ["_law_rng", "_law_amount"] spDrawC := ok__law_drawC d__law_draw B
    refine d__law_term.F.ok sc__law_term (fun vs H Q E h => ?_) (fun cdv A outer s H vs Q E hr h => ?_)
    · obtain ⟨_, _, _, _, _, rfl, _⟩ := h
      rfl
    obtain ⟨r, many, k, cc, hk, rfl, h6, h1, h2, hR, q⟩ := h
    refine ⟨_, (pss_cons (ps_if (pt_cmpR op_lt (pv 1) pe_int (nomark _)) (pss_one (ps_ret (pe_tup pa_nil))) pss_nil)
 (pss_cons (ps_set (i := 3) sc__law_term.nd rfl (Or.inl rfl) (pe_op op_fdiv (pv 2) pe_int))
 (pss_cons (ps_par (i := 4) (j := 5) (by rfl) sc__law_term.nd rfl rfl (by decide) rfl rfl (pa_cons (pe_callB (call_max2 rfl) (by rfl) B.max (by decide +kernel) (pa_cons pe_int (pa_cons (pe_op op_sub (pv 1) (pv 3)) pa_nil))) (pa_cons (pe_callB (call_min2 rfl) (by rfl) B.min (by decide +kernel) (pa_cons (pe_op op_sub (pv 1) pe_int) (pa_cons (pv 3) pa_nil))) pa_nil)) (by rfl))
 (pss_cons (ps_set (i := 6) sc__law_term.nd rfl (Or.inl rfl) (pe_op op_add (pv 4) (pe_call G__law_draw (hr.mono (by omega)) rfl d__law_draw.m d__law_draw.F.kp d__law_draw.b .nil pass0 (pa_cons (pv 0) (pa_cons (pe_op op_add (pe_op op_sub (pv 5) (pv 4)) pe_int) pa_nil)))))
 (pss_one (ps_ret (pe_tup (pa_cons (pe_call G__law_term hr rfl d__law_term.m d__law_term.F.kp d__law_term.b .nil pass0 (pa_cons (pv 0) (pa_cons (pv 6) (pa_cons (pv 3) pa_nil)))) (pa_cons (pe_call G__law_term hr rfl d__law_term.m d__law_term.F.kp d__law_term.b .nil pass0 (pa_cons (pv 0) (pa_cons (pe_op op_sub (pv 1) (pv 6)) (pa_cons (pv 3) pa_nil)))) pa_nil))))))))), ?_⟩
    refine ⟨_, rfl, _, _, rfl, rfl, _, rfl, ?_⟩
    refine ite2 (fun c => ?_) (fun c => ?_)
    · have c' : many < 2 := of_decide_eq_true c
      refine ⟨zero_le', fun p hp => ?_⟩
      refine q _ .L _ (ta_leaf (SqT.here upd_same)) (by show ((1 : Nat) : Int) = many; omega) (Nat.zero_le _) (hR.same (Same.new hp _)) (But.same (Same.new hp _))
    · have c' : ¬ many < 2 := of_decide_eq_false (Bool.eq_false_iff.mpr c)
      cases k with
      | zero => exact absurd h2 (by show ¬ many ≤ 1; omega)
      | succ k =>
        have hp : (0 : Int) < 2 ^ k := Int.pow_pos (by decide)
        have hp6 : (2 : Int) ^ k ≤ 2 ^ 6 := by
          have : (2 : Nat) ^ k ≤ 2 ^ 6 := Nat.pow_le_pow_right (by decide) (by omega)
          exact_mod_cast this
        have e2 : (2 : Int) ^ (k + 1) = 2 * 2 ^ k := by rw [Int.pow_succ]; omega
        have eh : (2 : Int) ^ (k + 1) / 2 = 2 ^ k := by rw [e2]; omega
        refine ⟨_, rfl, _, _, rfl, rfl, ⟨by decide, by decide⟩, ?_⟩
        rw [e2] at h2
        generalize hh : (2 : Int) ^ (k + 1) / 2 = half at eh
        refine ⟨_, rfl, _, rfl, _, _, rfl, rfl, _, _, rfl, _, rfl, _, _, rfl, rfl, _, rfl, _, _, rfl, _, _, rfl, ?_⟩
        have el : ∀ a b : Int, (if a > b then a else b) = max b a := fun a b => by
          by_cases h : a > b
          · rw [if_pos h]; omega
          · rw [if_neg h]; omega
        have em : ∀ a b : Int, (if a < b then a else b) = min b a := fun a b => by
          by_cases h : a < b
          · rw [if_pos h]; omega
          · rw [if_neg h]; omega
        generalize hlo : (if many - (2 : Int) ^ (k + 1) / 2 > 1 then many - (2 : Int) ^ (k + 1) / 2 else 1) = lo
        generalize hhi : (if (2 : Int) ^ (k + 1) / 2 < many - 1 then (2 : Int) ^ (k + 1) / 2 else many - 1) = hi
        rw [el, hh, eh] at hlo
        rw [em, hh, eh] at hhi
        have p6 : (2 : Int) ^ 6 = 64 := by decide
        refine ⟨_, rfl, _, rfl, _, rfl, _, rfl, _, _, rfl, rfl, _, _, rfl, rfl, r, hi - lo + 1, cc, rfl, hR, by omega, by omega, fun v H1 v0 v1 R1 b1 => ?_⟩
        refine ⟨_, _, rfl, rfl, ?_⟩
        refine ⟨_, rfl, _, rfl, _, rfl, r, lo + v, k, cc, by omega, ?_, by omega, by omega, by omega, R1, fun x tx H2 a2 z2 d2 R2 b2 => ?_⟩
        · show [V.ref r, V.int (lo + v), V.int ((2 : Int) ^ (k + 1) / 2)] = _
          rw [hh, eh]
        refine ⟨_, rfl, _, rfl, _, rfl, _, _, rfl, rfl, _, rfl, r, many - (lo + v), k, cc, by omega, ?_, by omega, by omega, by omega, R2, fun y ty H3 a3 z3 d3 R3 b3 => ?_⟩
        · show [V.ref r, V.int (many - (lo + v)), V.int ((2 : Int) ^ (k + 1) / 2)] = _
          rw [hh, eh]
        refine ⟨two_le, fun p hp' => ?_⟩
        obtain ⟨ys, l2⟩ := R2.lst
        have sn := Same.new hp' (.tup [x, y])
        refine q _ (.N tx ty) _ (ta_node (SqT.here upd_same) (ta_mono (Tp.same sn) (ta_mono (Tp.but l2 b3) a2)) (ta_mono (Tp.same sn) a3)) ?_ ?_ (R3.same sn) (((b1.trans b2).trans b3).trans (But.same sn))
        · show ((tx.sz + ty.sz : Nat) : Int) = many
          omega
        · show max tx.dp ty.dp + 1 ≤ k + 1
          omega
theorem ok__law_term {fr : Addr} {frd : FuncData} (d__law_term : D K mg "_law_term" s__law_term ["_law_rng", "_law_many", "_law_cap"] f fd) (B : Blt mg) (d__law_draw : D K mg "_law_draw" s__law_draw ["_law_rng", "_law_amount"] fr frd) (n : Nat) : FnOk P w K mg base CX0 (n + 1) f fd ["_law_rng", "_law_many", "_law_cap"] (spTerm K n) := (ok__law_termC d__law_term B d__law_draw n).imp fun _ _ _ _ => spTerm_C

abbrev s__law_comb : Stmt := top 44
theorem sc__law_comb : FnScope ["_law_many", "_law_onleft", "_law_term_here", "_law_step"] ["_law_many", "_law_onleft"] (defScope s__law_comb) := ⟨rfl, rfl, rfl, by decide +kernel, rfl, by decide +kernel, by decide +kernel⟩
theorem ok__law_comb (d : D K mg "_law_comb" s__law_comb ["_law_many", "_law_onleft"] f fd) (B : Blt mg) : FnOk P w K mg base CX0 1 f fd ["_law_many", "_law_onleft"] (spComb K) := by
  refine d.F.ok sc__law_comb (fun vs H Q E h => ?_) (fun cdv A outer s H vs Q E hr h => ?_)
  · obtain ⟨_, _, rfl, _⟩ := h
    rfl
  obtain ⟨m, b, rfl, h1, h2, q⟩ := h
  refine ⟨_, (pss_cons (ps_set (i := 2) sc__law_comb.nd rfl (Or.inl rfl) (pe_tup pa_nil))
 (pss_cons (ps_for PassesOwn.never rfl (pi_range1 (by rfl) B.range (pa_cons (pe_op op_sub (pv 0) pe_int) pa_nil)) (pg_name (i := 3) sc__law_comb.nd rfl (Or.inl rfl))
  (pss_one (ps_set (i := 2) sc__law_comb.nd rfl (Or.inl rfl) (pe_ifExp (pt_truth (pv 1) (by intro _; rfl)) (pe_tup (pa_cons (pv 2) (pa_cons (pe_tup pa_nil) pa_nil))) (pe_tup (pa_cons (pe_tup pa_nil) (pa_cons (pv 2) pa_nil)))))))
 (pss_one (ps_ret (pv 2))))), ?_⟩
  refine ⟨zero_le', fun p hp => ?_⟩
  refine ⟨_, rfl, _, _, rfl, rfl, m - 1, rfl, by omega, by omega, for_range (lo := 0) (n := (m - 1).toNat) (fun i σ H' => ∃ (v : V) (t : Tree) (x : Option V), σ = [some (.int m), some (.bl b), some v, x] ∧ TA K H' v t ∧ t.sz = i + 1 ∧ t.dp = i ∧ Same H H')
    ⟨.ref p, .L, none, rfl, ta_leaf (SqT.here upd_same), rfl, rfl, Same.new hp _⟩ ?_ ?_⟩
  · rintro i σ H' hi ⟨v, t, x, rfl, ha, hz, hd, sm⟩
    refine ⟨_, rfl, b, rfl, ?_⟩
    refine ite2 (fun c => ?_) (fun c => ?_)
    · refine ⟨_, rfl, zero_le', fun p2 hp2 => ⟨two_le, fun p3 hp3 => ?_⟩⟩
      have s2 := Same.new hp2 (.tup [])
      have s3 := s2.trans (Same.new hp3 (.tup [v, .ref p2]))
      refine ⟨_, .N t .L, _, rfl, ta_node (SqT.here upd_same) (ta_mono (Tp.same s3) ha) (ta_mono (Tp.same (Same.new hp3 _)) (ta_leaf (SqT.here upd_same))), by show t.sz + 1 = _; omega, by show max t.dp 0 + 1 = _; omega, sm.trans s3⟩
    · refine ⟨zero_le', fun p2 hp2 => ⟨_, rfl, two_le, fun p3 hp3 => ?_⟩⟩
      have s2 := Same.new hp2 (.tup [])
      have s3 := s2.trans (Same.new hp3 (.tup [.ref p2, v]))
      refine ⟨_, .N .L t, _, rfl, ta_node (SqT.here upd_same) (ta_mono (Tp.same (Same.new hp3 _)) (ta_leaf (SqT.here upd_same))) (ta_mono (Tp.same s3) ha), by show 1 + t.sz = _; omega, by show max 0 t.dp + 1 = _; omega, sm.trans s3⟩
  · rintro σ H' ⟨v, t, x, rfl, ha, hz, hd, sm⟩
    refine ⟨_, rfl, q v t H' ha (by omega) (by omega) sm⟩

abbrev s__law_any_term : Stmt := top 45
theorem sc__law_any_term : FnScope ["_law_rng", "_law_top", "_law_way", "_law_many"] ["_law_rng", "_law_top"] (defScope s__law_any_term) := ⟨rfl, rfl, rfl, by decide +kernel, rfl, by decide +kernel, by decide +kernel⟩
theorem ok__law_any_termC {fr fc ft : Addr} {frd fcd ftd : FuncData} (d__law_any_term : D K mg "_law_any_term" s__law_any_term ["_law_rng", "_law_top"] f fd) (B : Blt mg) (d__law_draw : D K mg "_law_draw" s__law_draw ["_law_rng", "_law_amount"] fr frd)
    (d__law_comb : D K mg "_law_comb" s__law_comb ["_law_many", "_law_onleft"] fc fcd) (d__law_term : D K mg "_law_term" s__law_term ["_law_rng", "_law_many", "_law_cap"] ft ftd) : FnOk P w K mg base CX0 9 f fd ["_law_rng", "_law_top"] (spAnyC K) := by
  have G__law_draw : FnOk P w K mg base CX0 1 fr frd ["_law_rng", "_law_amount"] spDrawC := ok__law_drawC d__law_draw B
  have G__law_comb : FnOk P w K mg base CX0 1 fc fcd ["_law_many", "_law_onleft"] (spComb K) := ok__law_comb d__law_comb B
  have G__law_term : FnOk P w K mg base CX0 8 ft ftd ["_law_rng", "_law_many", "_law_cap"] (spTermC K 7) := ok__law_termC d__law_term B d__law_draw 7
  refine d__law_any_term.F.ok sc__law_any_term (fun vs H Q E h => ?_) (fun cdv A outer s H vs Q E hr h => ?_)
  · obtain ⟨_, _, _, rfl, _⟩ := h
    rfl
  obtain ⟨r, n, cc, rfl, h1, h2, hR, q⟩ := h
  refine ⟨_, (pss_cons (ps_par (i := 2) (j := 3) (by rfl) sc__law_any_term.nd rfl rfl (by decide) rfl rfl (pa_cons (pe_call G__law_draw (hr.mono (by decide)) rfl d__law_draw.m d__law_draw.F.kp d__law_draw.b .nil pass0 (pa_cons (pv 0) (pa_cons pe_int pa_nil))) (pa_cons (pe_op op_add pe_int (pe_call G__law_draw (hr.mono (by decide)) rfl d__law_draw.m d__law_draw.F.kp d__law_draw.b .nil pass0 (pa_cons (pv 0) (pa_cons (pv 1) pa_nil)))) pa_nil)) (by rfl))
 (pss_cons (ps_if (pt_cmpR op_lt (pv 2) pe_int (nomark _)) (pss_one (ps_ret (pe_call G__law_comb (hr.mono (by decide)) rfl d__law_comb.m d__law_comb.F.kp d__law_comb.b .nil pass0 (pa_cons (pe_callB (call_min2 rfl) (by rfl) B.min (by decide +kernel) (pa_cons (pv 3) (pa_cons pe_int pa_nil))) (pa_cons (pe_cmpR op_eq (pv 2) pe_int (nomark _)) pa_nil))))) pss_nil)
 (pss_one (ps_ret (pe_call G__law_term (hr.mono (by decide)) rfl d__law_term.m d__law_term.F.kp d__law_term.b .nil pass0 (pa_cons (pv 0) (pa_cons (pv 3) (pa_cons pe_int pa_nil)))))))), ?_⟩
  refine ⟨_, rfl, r, 8, cc, rfl, hR, by decide, by decide, fun way H1 w0 w1 R1 b1 => ?_⟩
  refine ⟨_, rfl, _, rfl, r, n, cc, rfl, R1, by omega, by omega, fun m H2 m0 m1 R2 b2 => ?_⟩
  have b12 := b1.trans b2
  refine ⟨_, _, rfl, rfl, _, _, rfl, ?_⟩
  refine ⟨_, rfl, _, _, rfl, rfl, _, rfl, ?_⟩
  refine ite2 (fun c => ?_) (fun c => ?_)
  · refine ⟨_, rfl, _, _, rfl, _, rfl, rfl, (if 7 < 1 + m then 7 else 1 + m), decide (V.int way = V.int 0), rfl, ?_, ?_, fun v t H3 a3 z3 d3 s3 => ?_⟩
    · split <;> omega
    · split <;> omega
    · refine q v t H3 a3 ?_ ?_ (R2.same s3) (b12.trans (But.same s3))
      · rw [z3]
        split <;> omega
      · have : (t.dp : Int) ≤ 6 := by
          rw [d3]
          split <;> omega
        omega
  · refine ⟨_, rfl, _, rfl, r, 1 + m, 6, cc, by decide, rfl, by decide, by omega, by show 1 + m ≤ 64; omega, R2, fun v t H3 a3 z3 d3 R3 b3 => ?_⟩
    exact q v t H3 a3 (by omega) d3 R3 (b12.trans b3)
theorem ok__law_any_term {fr fc ft : Addr} {frd fcd ftd : FuncData} (d__law_any_term : D K mg "_law_any_term" s__law_any_term ["_law_rng", "_law_top"] f fd) (B : Blt mg) (d__law_draw : D K mg "_law_draw" s__law_draw ["_law_rng", "_law_amount"] fr frd)
    (d__law_comb : D K mg "_law_comb" s__law_comb ["_law_many", "_law_onleft"] fc fcd) (d__law_term : D K mg "_law_term" s__law_term ["_law_rng", "_law_many", "_law_cap"] ft ftd) : FnOk P w K mg base CX0 9 f fd ["_law_rng", "_law_top"] (spAny K) := (ok__law_any_termC d__law_any_term B d__law_draw d__law_comb d__law_term).imp fun _ _ _ _ => spAny_C

abbrev s__law_size : Stmt := top 46
theorem sc__law_size : FnScope ["_law_term_here"] ["_law_term_here"] (defScope s__law_size) := ⟨rfl, rfl, rfl, by decide +kernel, rfl, by decide +kernel, by decide +kernel⟩
theorem ok__law_size (d__law_size : D K mg "_law_size" s__law_size ["_law_term_here"] f fd) : ∀ n : Nat, FnOk P w K mg base CX0 n f fd ["_law_term_here"] (spTree K (fun t => .int t.sz) n)
  | 0 => fn_none spTree_no
  | n + 1 => by
    have G__law_size := ok__law_size d__law_size n
    refine d__law_size.F.ok sc__law_size (fun vs H Q E h => ?_) (fun cdv A outer s H vs Q E hr h => ?_)
    · obtain ⟨_, _, rfl, _⟩ := h
      rfl
    obtain ⟨v, t, rfl, ha, hd, hn, q⟩ := h
    refine ⟨_, (pss_one (ps_ret (pe_ifExp (pt_cmpR (op_eqD hr.units) (pv 0) (pe_tup pa_nil) (nomark _)) pe_int (pe_op op_add (pe_call G__law_size hr rfl d__law_size.m d__law_size.F.kp d__law_size.b .nil pass0 (pa_cons (pe_ix ix_tup (pv 0) pe_int (fun _ _ => rfl)) pa_nil)) (pe_call G__law_size hr rfl d__law_size.m d__law_size.F.kp d__law_size.b .nil pass0 (pa_cons (pe_ix ix_tup (pv 0) pe_int (fun _ _ => rfl)) pa_nil)))))), ?_⟩
    refine ⟨_, rfl, zero_le', fun p hp => ⟨t.d, .tuple [], ta_mono (Tp.same (Same.new hp _)) ha, Dp.tup (SqT.here upd_same) .nil, Tree.shaped (by omega), shapedE, _, rfl, ite_eq (Tree.eqvL t) ?_⟩⟩
    have s1 := Same.new hp (.tup [])
    cases t with
    | L => exact iteT (q _ s1)
    | N l r =>
      have hd : max l.dp r.dp + 1 < n + 1 := hd
      obtain ⟨b, x1, x2, rfl, hS, hL, hR⟩ := ta_invN (ta_mono (Tp.same s1) ha)
      refine iteF ⟨_, rfl, b, _, 0, _, rfl, rfl, hS, rfl, x1, l, rfl, hL, by omega, by omega, fun H2 s2 => ?_⟩
      refine ⟨_, rfl, b, _, 1, _, rfl, rfl, (Tp.same s2).sqT hS, rfl, x2, r, rfl, ta_mono (Tp.same s2) hR, by omega, by omega, fun H3 s3 => ?_⟩
      refine ⟨_, _, rfl, rfl, ?_⟩
      have e : ((Tree.N l r).sz : Int) = (l.sz : Int) + (r.sz : Int) := by
        show ((l.sz + r.sz : Nat) : Int) = _
        omega
      have q' := q H3 ((s1.trans s2).trans s3)
      show Q (.int ((l.sz : Int) + (r.sz : Int))) H3
      rw [← e]
      exact q'

abbrev s__law_depth : Stmt := top 47
theorem sc__law_depth : FnScope ["_law_term_here"] ["_law_term_here"] (defScope s__law_depth) := ⟨rfl, rfl, rfl, by decide +kernel, rfl, by decide +kernel, by decide +kernel⟩
theorem ok__law_depth (d__law_depth : D K mg "_law_depth" s__law_depth ["_law_term_here"] f fd) (B : Blt mg) : ∀ n : Nat, FnOk P w K mg base CX0 n f fd ["_law_term_here"] (spTree K (fun t => .int t.dp) n)
  | 0 => fn_none spTree_no
  | n + 1 => by
    have G__law_depth := ok__law_depth d__law_depth B n
    refine d__law_depth.F.ok sc__law_depth (fun vs H Q E h => ?_) (fun cdv A outer s H vs Q E hr h => ?_)
    · obtain ⟨_, _, rfl, _⟩ := h
      rfl
    obtain ⟨v, t, rfl, ha, hd, hn, q⟩ := h
    refine ⟨_, (pss_one (ps_ret (pe_ifExp (pt_cmpR (op_eqD hr.units) (pv 0) (pe_tup pa_nil) (nomark _)) pe_int (pe_op op_add pe_int (pe_callB (call_max2 rfl) (by rfl) B.max (by decide +kernel) (pa_cons (pe_call G__law_depth hr rfl d__law_depth.m d__law_depth.F.kp d__law_depth.b .nil pass0 (pa_cons (pe_ix ix_tup (pv 0) pe_int (fun _ _ => rfl)) pa_nil)) (pa_cons (pe_call G__law_depth hr rfl d__law_depth.m d__law_depth.F.kp d__law_depth.b .nil pass0 (pa_cons (pe_ix ix_tup (pv 0) pe_int (fun _ _ => rfl)) pa_nil)) pa_nil))))))), ?_⟩
    refine ⟨_, rfl, zero_le', fun p hp => ⟨t.d, .tuple [], ta_mono (Tp.same (Same.new hp _)) ha, Dp.tup (SqT.here upd_same) .nil, Tree.shaped (by omega), shapedE, _, rfl, ite_eq (Tree.eqvL t) ?_⟩⟩
    have s1 := Same.new hp (.tup [])
    cases t with
    | L => exact iteT (q _ s1)
    | N l r =>
      have hd : max l.dp r.dp + 1 < n + 1 := hd
      obtain ⟨b, x1, x2, rfl, hS, hL, hR⟩ := ta_invN (ta_mono (Tp.same s1) ha)
      refine iteF ⟨_, rfl, b, _, 0, _, rfl, rfl, hS, rfl, x1, l, rfl, hL, by omega, by omega, fun H2 s2 => ?_⟩
      refine ⟨_, rfl, b, _, 1, _, rfl, rfl, (Tp.same s2).sqT hS, rfl, x2, r, rfl, ta_mono (Tp.same s2) hR, by omega, by omega, fun H3 s3 => ?_⟩
      refine ⟨_, _, rfl, _, _, rfl, rfl, ?_⟩
      have e : (((Tree.N l r).dp : Nat) : Int) = 1 + (if (r.dp : Int) > (l.dp : Int) then (r.dp : Int) else (l.dp : Int)) := by
        show ((max l.dp r.dp + 1 : Nat) : Int) = _
        split <;> omega
      have q' := q H3 ((s1.trans s2).trans s3)
      show Q (.int (1 + (if (r.dp : Int) > (l.dp : Int) then (r.dp : Int) else (l.dp : Int)))) H3
      rw [← e]
      exact q'

abbrev s__law_fits : Stmt := top 48
theorem sc__law_fits : FnScope ["_law_term_here", "_law_top"] ["_law_term_here", "_law_top"] (defScope s__law_fits) := ⟨rfl, rfl, rfl, by decide +kernel, rfl, by decide +kernel, by decide +kernel⟩
theorem ok__law_fits {f1 f2 : Addr} {e1 e2 : FuncData} (d : D K mg "_law_fits" s__law_fits ["_law_term_here", "_law_top"] f fd) (B : Blt mg) (d__law_size : D K mg "_law_size" s__law_size ["_law_term_here"] f1 e1) (d__law_depth : D K mg "_law_depth" s__law_depth ["_law_term_here"] f2 e2) : FnOk P w K mg base CX0 10 f fd ["_law_term_here", "_law_top"] (spFits K) := by
  have G__law_size : FnOk P w K mg base CX0 9 f1 e1 ["_law_term_here"] (spTree K (fun t => .int t.sz) 9) := ok__law_size d__law_size 9
  have G__law_depth : FnOk P w K mg base CX0 9 f2 e2 ["_law_term_here"] (spTree K (fun t => .int t.dp) 9) := ok__law_depth d__law_depth B 9
  refine d.F.ok sc__law_fits (fun vs H Q E h => ?_) (fun cdv A outer s H vs Q E hr h => ?_)
  · obtain ⟨_, _, _, rfl, _⟩ := h
    rfl
  obtain ⟨v, t, top, rfl, ha, hd, q1, q2⟩ := h
  refine ⟨_, (pss_one (ps_ret (pe_and (pe_cmpR op_le (pe_call G__law_size (hr.mono (by decide)) rfl d__law_size.m d__law_size.F.kp d__law_size.b .nil pass0 (pa_cons (pv 0) pa_nil)) (pv 1) (nomark _)) (pe_one (pe_cmpR op_lt (pe_call G__law_depth (hr.mono (by decide)) rfl d__law_depth.m d__law_depth.F.kp d__law_depth.b .nil pass0 (pa_cons (pv 0) pa_nil)) pe_int (nomark _)))))), ?_⟩
  refine ⟨_, rfl, v, t, rfl, ha, by omega, by omega, fun H1 s1 => ?_⟩
  refine ⟨_, rfl, _, _, rfl, rfl, _, rfl, ite2 (fun c => ?_) (fun c => ?_)⟩
  · refine ⟨_, rfl, v, t, rfl, ta_mono (Tp.same s1) ha, by omega, by omega, fun H2 s2 => ?_⟩
    refine ⟨_, _, rfl, rfl, ?_⟩
    by_cases c2 : ((t.dp : Nat) : Int) < 7
    · show Q (.bl (decide (((t.dp : Nat) : Int) < 7))) H2
      rw [decide_eq_true c2]
      exact q1 H2 (s1.trans s2) (of_decide_eq_true c) (by omega)
    · show Q (.bl (decide (((t.dp : Nat) : Int) < 7))) H2
      rw [decide_eq_false c2]
      exact q2 H2 (s1.trans s2)
  · exact q2 H1 s1

abbrev s__law_paths : Stmt := top 49
theorem sc__law_paths : FnScope ["_law_term_here", "_law_spot"] ["_law_term_here", "_law_spot"] (defScope s__law_paths) := ⟨rfl, rfl, rfl, by decide +kernel, rfl, by decide +kernel, by decide +kernel⟩
theorem ok__law_paths (d__law_paths : D K mg "_law_paths" s__law_paths ["_law_term_here", "_law_spot"] f fd) : ∀ n : Nat, FnOk P w K mg base CX0 (n + 1) f fd ["_law_term_here", "_law_spot"] (spPts K n)
  | 0 => fn_none fun vs H Q E h => by
    obtain ⟨_, _, _, _, _, h, _⟩ := h
    omega
  | n + 1 => by
    have G__law_paths := ok__law_paths d__law_paths n
    refine d__law_paths.F.ok sc__law_paths (fun vs H Q E h => ?_) (fun cdv A outer s H vs Q E hr h => ?_)
    · obtain ⟨_, _, _, rfl, _⟩ := h
      rfl
    obtain ⟨v, t, p, rfl, ha, hn, hn2, hnd, hpl, q⟩ := h
    refine ⟨_, (pss_cons (ps_if (pt_cmpR (op_eqD hr.units) (pv 0) (pe_tup pa_nil) (nomark _)) (pss_one (ps_ret (pe_lst (pa_cons (pv 1) pa_nil)))) pss_nil)
 (pss_one (ps_ret (pe_op op_cat (pe_op op_cat (pe_lst (pa_cons (pv 1) pa_nil)) (pe_call G__law_paths hr rfl d__law_paths.m d__law_paths.F.kp d__law_paths.b .nil pass0 (pa_cons (pe_ix ix_tup (pv 0) pe_int (fun _ _ => rfl)) (pa_cons (pe_op op_add_str (pv 1) pe_str) pa_nil)))) (pe_call G__law_paths hr rfl d__law_paths.m d__law_paths.F.kp d__law_paths.b .nil pass0 (pa_cons (pe_ix ix_tup (pv 0) pe_int (fun _ _ => rfl)) (pa_cons (pe_op op_add_str (pv 1) pe_str) pa_nil))))))), ?_⟩
    refine ⟨_, rfl, zero_le', fun p5 hp5 => ⟨t.d, .tuple [], ta_mono (Tp.same (Same.new hp5 _)) ha, Dp.tup (SqT.here upd_same) .nil, Tree.shaped (by omega), shapedE, _, rfl, ite_eq (Tree.eqvL t) ?_⟩⟩
    have s1 := Same.new hp5 (.tup [])
    cases t with
    | L => exact iteT ⟨_, rfl, one_le, fun l nl => q l _ (s1.trans (Same.new nl _)) (s1.free nl) upd_same⟩
    | N l r =>
      have hn : max l.dp r.dp + 1 < n + 1 := hn
      have hnd : l.nodes + r.nodes + 1 ≤ 1000 := hnd
      have hpl : p.length + (max l.dp r.dp + 1) ≤ 60 := hpl
      obtain ⟨b, x1, x2, rfl, hS, hL, hR⟩ := ta_invN (ta_mono (Tp.same s1) ha)
      refine iteF ⟨_, rfl, one_le, fun l0 nl0 => ?_⟩
      have s2 := Same.new nl0 (.lst [.str (ptx p)])
      refine ⟨_, rfl, b, _, 0, _, rfl, rfl, (Tp.same s2).sqT hS, rfl, _, rfl, _, _, rfl, rfl, ?_, ?_⟩
      · rw [ptx_len]
        exact fits (by show p.length + 1 ≤ 10000; omega)
      rw [ptx_snoc0]
      refine ⟨x1, l, p ++ [false], rfl, ta_mono (Tp.same s2) hL, by omega, by omega, by omega, by rw [List.length_append, List.length_singleton]; omega, fun l1 H3 s3 nl1 h1 => ?_⟩
      refine ⟨l0, l1, _, _, rfl, rfl, s3 _ _ upd_same, h1, ?_, fun l2 nl2 => ?_⟩
      · rw [ptxs_len, Tree.pts_len]
        exact fits (by show 1 + l.nodes ≤ 10000; omega)
      have s4 := Same.new nl2 (.lst ([.str (ptx p)] ++ ptxs (l.pts (p ++ [false]))))
      have s24 := s2.trans (s3.trans s4)
      refine ⟨_, rfl, b, _, 1, _, rfl, rfl, (Tp.same s24).sqT hS, rfl, _, rfl, _, _, rfl, rfl, ?_, ?_⟩
      · rw [ptx_len]
        exact fits (by show p.length + 1 ≤ 10000; omega)
      rw [ptx_snoc1]
      refine ⟨x2, r, p ++ [true], rfl, ta_mono (Tp.same s24) hR, by omega, by omega, by omega, by rw [List.length_append, List.length_singleton]; omega, fun l3 H5 s5 nl3 h3 => ?_⟩
      refine ⟨l2, l3, _, _, rfl, rfl, s5 _ _ upd_same, h3, ?_, fun l4 nl4 => ?_⟩
      · rw [List.length_append, ptxs_len, Tree.pts_len, ptxs_len, Tree.pts_len]
        exact fits (by show 1 + l.nodes + r.nodes ≤ 10000; omega)
      have sA := s1.trans (s24.trans s5)
      refine q l4 _ (sA.trans (Same.new nl4 _)) (sA.free nl4) ?_
      rw [upd_same]
      show _ = some (HO.lst (ptxs (([p] ++ l.pts (p ++ [false])) ++ r.pts (p ++ [true]))))
      rw [ptxs_app, ptxs_app]
      rfl

abbrev s__law_subterm : Stmt := top 50
theorem sc__law_subterm : FnScope ["_law_term_here", "_law_spot", "_law_sign_here"] ["_law_term_here", "_law_spot"] (defScope s__law_subterm) := ⟨rfl, rfl, rfl, by decide +kernel, rfl, by decide +kernel, by decide +kernel⟩
theorem ok__law_subterm (d : D K mg "_law_subterm" s__law_subterm ["_law_term_here", "_law_spot"] f fd) : FnOk P w K mg base CX0 1 f fd ["_law_term_here", "_law_spot"] (spStN K) := by
  refine d.F.ok sc__law_subterm (fun vs H Q E h => ?_) (fun cdv A outer s H vs Q E hr h => ?_)
  · obtain ⟨_, _, _, rfl, _⟩ := h
    rfl
  obtain ⟨v, t, p, rfl, ha, hd, qn, q⟩ := h
  refine ⟨_, (pss_cons (ps_for PassesOwn.never rfl (pi_str (pv 1)) (pg_name (i := 2) sc__law_subterm.nd rfl (Or.inl rfl))
  (pss_cons (ps_if (pt_cmpR (op_eqD hr.units) (pv 0) (pe_tup pa_nil) (nomark _)) (pss_one (ps_ret pe_non)) pss_nil)
 (pss_one (ps_set (i := 0) sc__law_subterm.nd rfl (Or.inl rfl) (pe_ifExp (pt_cmpR op_eq (pv 2) pe_str (nomark _)) (pe_ix ix_tup (pv 0) pe_int (fun _ _ => rfl)) (pe_ix ix_tup (pv 0) pe_int (fun _ _ => rfl)))))))
 (pss_one (ps_ret (pv 0)))), ?_⟩
  refine ⟨_, rfl, ptx p, rfl, for_S (z := ptx p) (fun j σ G => ∃ (v : V) (u : Tree) (x : Option V), σ = [some v, some (.str (ptx p)), x] ∧ TA K G v u ∧ u.dp ≤ 60 ∧ Same H G ∧ t.st p = u.st (p.drop j)) ⟨v, t, none, rfl, ha, hd, Same.refl _, rfl⟩ ?_ ?_⟩
  · rintro j c σ G hc ⟨v, u, x, rfl, ha, hd, sm, hst⟩
    obtain ⟨b, hb, rfl⟩ := pcs_at p j c hc
    obtain ⟨hj, eb⟩ := List.getElem?_eq_some_iff.mp hb
    rw [List.drop_eq_getElem_cons hj, eb] at hst
    refine ⟨_, rfl, zero_le', fun p5 hp5 => ⟨u.d, .tuple [], ta_mono (Tp.same (Same.new hp5 _)) ha, Dp.tup (SqT.here upd_same) .nil, Tree.shaped (by omega), shapedE, _, rfl, ite_eq (Tree.eqvL _) ?_⟩⟩
    have s5 := Same.new hp5 (.tup [])
    cases u with
    | L => exact iteT (qn hst _ (sm.trans s5))
    | N l r =>
      have hd : max l.dp r.dp + 1 ≤ 60 := hd
      obtain ⟨q1, x1, x2, rfl, hS, hL, hR⟩ := ta_invN (ta_mono (Tp.same s5) ha)
      refine iteF ?_
      cases b with
      | false =>
        refine ⟨_, rfl, rfl, _, rfl, ite_yes (by decide +kernel) ⟨_, rfl, q1, _, 0, _, rfl, rfl, hS, rfl, ?_⟩⟩
        exact ⟨x1, l, _, rfl, hL, by omega, sm.trans s5, hst⟩
      | true =>
        refine ⟨_, rfl, rfl, _, rfl, ite_no (by decide +kernel) ⟨_, rfl, q1, _, 1, _, rfl, rfl, hS, rfl, ?_⟩⟩
        exact ⟨x2, r, _, rfl, hR, by omega, sm.trans s5, hst⟩
  · rintro σ G ⟨v, u, x, rfl, ha, hd, sm, hst⟩
    rw [ptx_size, List.drop_eq_nil_of_le (Nat.le_refl _), Tree.st_nil] at hst
    exact ⟨_, rfl, q u hst v G ha sm⟩

abbrev s__law_replace : Stmt := top 51
theorem sc__law_replace : FnScope ["_law_term_here", "_law_spot", "_law_new"] ["_law_term_here", "_law_spot", "_law_new"] (defScope s__law_replace) := ⟨rfl, rfl, rfl, by decide +kernel, rfl, by decide +kernel, by decide +kernel⟩
theorem ok__law_replace (d__law_replace : D K mg "_law_replace" s__law_replace ["_law_term_here", "_law_spot", "_law_new"] f fd) : ∀ n : Nat, FnOk P w K mg base CX0 n f fd ["_law_term_here", "_law_spot", "_law_new"] (spRp K n)
  | 0 => fn_none fun vs H Q E h => by
    obtain ⟨_, _, _, _, _, _, _, _, _, h, _⟩ := h
    omega
  | n + 1 => by
    have G__law_replace := ok__law_replace d__law_replace n
    refine d__law_replace.F.ok sc__law_replace (fun vs H Q E h => ?_) (fun cdv A outer s H vs Q E hr h => ?_)
    · obtain ⟨_, _, _, _, _, _, rfl, _⟩ := h
      rfl
    obtain ⟨v, w', t, u, t', p, rfl, ha, hu, hp, hn, hrp, q⟩ := h
    refine ⟨_, (pss_cons (ps_if (pt_cmpR op_eq (pv 1) pe_str (nomark _)) (pss_one (ps_ret (pv 2))) pss_nil)
 (pss_cons (ps_if (pt_cmpR op_eq (pe_ix ix_str (pv 1) pe_int (fun _ _ => rfl)) pe_str (nomark _)) (pss_one (ps_ret (pe_tup (pa_cons (pe_call G__law_replace hr rfl d__law_replace.m d__law_replace.F.kp d__law_replace.b .nil pass0 (pa_cons (pe_ix ix_tup (pv 0) pe_int (fun _ _ => rfl)) (pa_cons (pe_slice sl_str (pv 1) (po_some pe_int) po_none) (pa_cons (pv 2) pa_nil)))) (pa_cons (pe_ix ix_tup (pv 0) pe_int (fun _ _ => rfl)) pa_nil))))) pss_nil)
 (pss_one (ps_ret (pe_tup (pa_cons (pe_ix ix_tup (pv 0) pe_int (fun _ _ => rfl)) (pa_cons (pe_call G__law_replace hr rfl d__law_replace.m d__law_replace.F.kp d__law_replace.b .nil pass0 (pa_cons (pe_ix ix_tup (pv 0) pe_int (fun _ _ => rfl)) (pa_cons (pe_slice sl_str (pv 1) (po_some pe_int) po_none) (pa_cons (pv 2) pa_nil)))) pa_nil))))))), ?_⟩
    cases p with
    | nil =>
      rw [Tree.rp_nil] at hrp
      cases hrp
      exact ⟨_, rfl, rfl, _, rfl, ite_yes (by decide +kernel) ⟨_, rfl, q w' H hu (Same.refl _)⟩⟩
    | cons b p =>
      have hp : p.length + 1 < n + 1 := hp
      have lp : (ptx (b :: p)).length ≤ sizeLine := by
        rw [ptx_len]
        show p.length + 1 ≤ _
        exact fits (by omega)
      have at0 : atI (ptx (b :: p)).cps.toList 0 = some (if b then 49 else 48) := by
        rw [ptx_cps]
        exact atI_nat (j := 0) rfl
      cases t with
      | L => cases hrp
      | N l r =>
        obtain ⟨q1, x1, x2, rfl, hS, hL, hR⟩ := ta_invN ha
        refine ⟨_, rfl, rfl, _, rfl, ite_no (not_empty b p) ?_⟩
        cases b with
        | false =>
          have hrp : (l.rp p u).map (fun l' => Tree.N l' r) = some t' := hrp
          cases e : l.rp p u with
          | none =>
            rw [e] at hrp
            cases hrp
          | some l' =>
            rw [e] at hrp
            cases hrp
            refine ⟨_, rfl, _, 0, _, rfl, rfl, lp, at0, rfl, _, rfl, ite_yes (by decide +kernel) ?_⟩
            refine ⟨_, rfl, q1, _, 0, _, rfl, rfl, hS, rfl, _, rfl, 1, rfl, _, rfl, lp, ?_⟩
            rw [ptx_tail]
            refine ⟨_, rfl, x1, w', l, u, l', p, rfl, hL, hu, by omega, by omega, e, fun y H2 t2 s2 => ?_⟩
            refine ⟨_, rfl, q1, _, 1, _, rfl, rfl, (Tp.same s2).sqT hS, rfl, two_le, fun p3 hp3 => ?_⟩
            have s3 := Same.new hp3 (.tup [y, x2])
            exact q _ _ (ta_node (SqT.here upd_same) (ta_mono (Tp.same s3) t2) (ta_mono (Tp.same (s2.trans s3)) hR)) (s2.trans s3)
        | true =>
          have hrp : (r.rp p u).map (fun r' => Tree.N l r') = some t' := hrp
          cases e : r.rp p u with
          | none =>
            rw [e] at hrp
            cases hrp
          | some r' =>
            rw [e] at hrp
            cases hrp
            refine ⟨_, rfl, _, 0, _, rfl, rfl, lp, at0, rfl, _, rfl, ite_no (by decide +kernel) ?_⟩
            refine ⟨_, rfl, q1, _, 0, _, rfl, rfl, hS, rfl, _, rfl, q1, _, 1, _, rfl, rfl, hS, rfl, _, rfl, 1, rfl, _, rfl, lp, ?_⟩
            rw [ptx_tail]
            refine ⟨_, rfl, x2, w', r, u, r', p, rfl, hR, hu, by omega, by omega, e, fun y H2 t2 s2 => ⟨two_le, fun p3 hp3 => ?_⟩⟩
            have s3 := Same.new hp3 (.tup [x1, y])
            exact q _ _ (ta_node (SqT.here upd_same) (ta_mono (Tp.same (s2.trans s3)) hL) (ta_mono (Tp.same s3) t2)) (s2.trans s3)

abbrev s__law_expanded : Stmt := top 52
theorem sc__law_expanded : FnScope ["_law_some"] ["_law_some"] (defScope s__law_expanded) := ⟨rfl, rfl, rfl, by decide +kernel, rfl, by decide +kernel, by decide +kernel⟩
theorem ok__law_expanded (d : D K mg "_law_expanded" s__law_expanded ["_law_some"] f fd) : FnOk P w K mg base CX0 1 f fd ["_law_some"] (spR0 K true) := by
  refine d.F.ok sc__law_expanded (fun vs H Q E h => ?_) (fun cdv A outer s H vs Q E hr h => ?_)
  · obtain ⟨_, _, rfl, _⟩ := h
    rfl
  obtain ⟨v, t, rfl, ha, hd, qn, q⟩ := h
  refine ⟨_, (pss_cons (ps_if (PW.pt (pw_or (pt_cmpR (op_eqD hr.units) (pv 0) (pe_tup pa_nil) (nomark _)) (pw_or1 (pt_cmpR (op_eqD hr.units) (pe_ix ix_tup (pv 0) pe_int (fun _ _ => rfl)) (pe_tup pa_nil) (nomark _))))) (pss_one (ps_ret pe_non)) pss_nil)
 (pss_one (ps_ret (pe_tup (pa_cons (pe_tup (pa_cons (pe_ix ix_tup (pv 0) pe_int (fun _ _ => rfl)) (pa_cons (pe_ix ix_tup (pe_ix ix_tup (pv 0) pe_int (fun _ _ => rfl)) pe_int (fun _ _ => rfl)) pa_nil))) (pa_cons (pe_tup (pa_cons (pe_ix ix_tup (pv 0) pe_int (fun _ _ => rfl)) (pa_cons (pe_ix ix_tup (pe_ix ix_tup (pv 0) pe_int (fun _ _ => rfl)) pe_int (fun _ _ => rfl)) pa_nil))) pa_nil)))))), ?_⟩
  refine ⟨_, rfl, zero_le', fun p hp => ⟨t.d, .tuple [], ta_mono (Tp.same (Same.new hp _)) ha, Dp.tup (SqT.here upd_same) .nil, Tree.shaped (by omega), shapedE, _, rfl, ite_eq (Tree.eqvL _) ?_⟩⟩
  have s1 := Same.new hp (.tup [])
  cases t with
  | L => exact iteT (iteT (qn rfl _ s1))
  | N a r =>
    have hd : max a.dp r.dp + 1 ≤ 60 := hd
    obtain ⟨q1, x1, x2, rfl, hS, hL, hR⟩ := ta_invN (ta_mono (Tp.same s1) ha)
    refine iteF ⟨_, rfl, q1, _, 1, _, rfl, rfl, hS, rfl, zero_le', fun p2 hp2 => ⟨r.d, .tuple [], ta_mono (Tp.same (Same.new hp2 _)) hR, Dp.tup (SqT.here upd_same) .nil, Tree.shaped (by omega), shapedE, _, rfl, ite_eq (Tree.eqvL _) ?_⟩⟩
    have s2 := Same.new hp2 (.tup [])
    cases r with
    | L => exact iteT (qn rfl _ (s1.trans s2))
    | N b c =>
      obtain ⟨q2, y1, y2, rfl, hS2, hL2, hR2⟩ := ta_invN hR
      refine iteF ?_
      refine ⟨_, rfl, q1, _, 0, _, rfl, rfl, (Tp.same s2).sqT hS, rfl, _, rfl, q1, _, 1, _, rfl, rfl, (Tp.same s2).sqT hS, rfl, q2, _, 0, _, rfl, rfl, (Tp.same s2).sqT hS2, rfl, two_le, fun p3 hp3 => ?_⟩
      have s3 := s2.trans (Same.new hp3 (.tup [x1, y1]))
      refine ⟨_, rfl, q1, _, 0, _, rfl, rfl, (Tp.same s3).sqT hS, rfl, _, rfl, q1, _, 1, _, rfl, rfl, (Tp.same s3).sqT hS, rfl, q2, _, 1, _, rfl, rfl, (Tp.same s3).sqT hS2, rfl, two_le, fun p4 hp4 => ⟨two_le, fun p5 hp5 => ?_⟩⟩
      have s4 := Same.new hp4 (.tup [x1, y2])
      have s5 := Same.new hp5 (.tup [.ref p3, .ref p4])
      have s35 := (s3.trans s4).trans s5
      refine q (.N (.N a b) (.N a c)) rfl _ _ (ta_node (SqT.here upd_same) (ta_node (SqT.here (s5 _ _ (s4 _ _ upd_same))) (ta_mono (Tp.same s35) hL) (ta_mono (Tp.same s35) hL2)) (ta_node (SqT.here (s5 _ _ upd_same)) (ta_mono (Tp.same s35) hL) (ta_mono (Tp.same s35) hR2))) (s1.trans s35)

abbrev s__law_contracted : Stmt := top 53
theorem sc__law_contracted : FnScope ["_law_some"] ["_law_some"] (defScope s__law_contracted) := ⟨rfl, rfl, rfl, by decide +kernel, rfl, by decide +kernel, by decide +kernel⟩
theorem ok__law_contracted (d : D K mg "_law_contracted" s__law_contracted ["_law_some"] f fd) : FnOk P w K mg base CX0 1 f fd ["_law_some"] (spR0 K false) := by
  refine d.F.ok sc__law_contracted (fun vs H Q E h => ?_) (fun cdv A outer s H vs Q E hr h => ?_)
  · obtain ⟨_, _, rfl, _⟩ := h
    rfl
  obtain ⟨v, t, rfl, ha, hd, qn, q⟩ := h
  refine ⟨_, (pss_cons (ps_if (PW.pt (pw_or (pt_cmpR (op_eqD hr.units) (pv 0) (pe_tup pa_nil) (nomark _)) (pw_or (pt_cmpR (op_eqD hr.units) (pe_ix ix_tup (pv 0) pe_int (fun _ _ => rfl)) (pe_tup pa_nil) (nomark _)) (pw_or (pt_cmpR (op_eqD hr.units) (pe_ix ix_tup (pv 0) pe_int (fun _ _ => rfl)) (pe_tup pa_nil) (nomark _)) (pw_or1 (pt_cmpR (op_neD hr.units) (pe_ix ix_tup (pe_ix ix_tup (pv 0) pe_int (fun _ _ => rfl)) pe_int (fun _ _ => rfl)) (pe_ix ix_tup (pe_ix ix_tup (pv 0) pe_int (fun _ _ => rfl)) pe_int (fun _ _ => rfl)) (nomark _))))))) (pss_one (ps_ret pe_non)) pss_nil)
 (pss_one (ps_ret (pe_tup (pa_cons (pe_ix ix_tup (pe_ix ix_tup (pv 0) pe_int (fun _ _ => rfl)) pe_int (fun _ _ => rfl)) (pa_cons (pe_tup (pa_cons (pe_ix ix_tup (pe_ix ix_tup (pv 0) pe_int (fun _ _ => rfl)) pe_int (fun _ _ => rfl)) (pa_cons (pe_ix ix_tup (pe_ix ix_tup (pv 0) pe_int (fun _ _ => rfl)) pe_int (fun _ _ => rfl)) pa_nil))) pa_nil)))))), ?_⟩
  refine ⟨_, rfl, zero_le', fun p hp => ⟨t.d, .tuple [], ta_mono (Tp.same (Same.new hp _)) ha, Dp.tup (SqT.here upd_same) .nil, Tree.shaped (by omega), shapedE, _, rfl, ite_eq (Tree.eqvL _) ?_⟩⟩
  have s1 := Same.new hp (.tup [])
  cases t with
  | L => exact iteT (iteT (qn rfl _ s1))
  | N l r =>
    have hd : max l.dp r.dp + 1 ≤ 60 := hd
    obtain ⟨q1, x1, x2, rfl, hS, hL, hR⟩ := ta_invN (ta_mono (Tp.same s1) ha)
    refine iteF ⟨_, rfl, q1, _, 0, _, rfl, rfl, hS, rfl, zero_le', fun p2 hp2 => ⟨l.d, .tuple [], ta_mono (Tp.same (Same.new hp2 _)) hL, Dp.tup (SqT.here upd_same) .nil, Tree.shaped (by omega), shapedE, _, rfl, ite_eq (Tree.eqvL _) ?_⟩⟩
    have s2 := Same.new hp2 (.tup [])
    cases l with
    | L => exact iteT (iteT (qn rfl _ (s1.trans s2)))
    | N a b =>
      refine iteF ⟨_, rfl, q1, _, 1, _, rfl, rfl, (Tp.same s2).sqT hS, rfl, zero_le', fun p3 hp3 => ⟨r.d, .tuple [], ta_mono (Tp.same (s2.trans (Same.new hp3 _))) hR, Dp.tup (SqT.here upd_same) .nil, Tree.shaped (by omega), shapedE, _, rfl, ite_eq (Tree.eqvL _) ?_⟩⟩
      have s3 := s2.trans (Same.new hp3 (.tup []))
      cases r with
      | L => exact iteT (iteT (qn rfl _ (s1.trans s3)))
      | N a' c =>
        have hd : max (max a.dp b.dp + 1) (max a'.dp c.dp + 1) + 1 ≤ 60 := hd
        have hS := (Tp.same s3).sqT hS
        obtain ⟨q2, y1, y2, rfl, hS2, hL2, hR2⟩ := ta_invN (ta_mono (Tp.same s3) hL)
        obtain ⟨q3, z1, z2, rfl, hS3, hL3, hR3⟩ := ta_invN (ta_mono (Tp.same s3) hR)
        refine iteF ⟨_, rfl, q1, _, 0, _, rfl, rfl, hS, rfl, q2, _, 0, _, rfl, rfl, hS2, rfl, _, rfl, q1, _, 1, _, rfl, rfl, hS, rfl, q3, _, 0, _, rfl, rfl, hS3, rfl, a.d, a'.d, hL2, hL3, Tree.shaped (by omega), Tree.shaped (by omega), _, rfl, ite_eq (congrArg not (Tree.eqvT a a')) ?_⟩
        cases e : a.eqb a' with
        | false =>
          refine iteT (qn ?_ _ (s1.trans s3))
          show (if a.eqb a' = true then some (Tree.N a (.N b c)) else none) = none
          rw [e]
          rfl
        | true =>
          refine iteF ?_
          refine ⟨_, rfl, q1, _, 0, _, rfl, rfl, hS, rfl, q2, _, 0, _, rfl, rfl, hS2, rfl, _, rfl, q1, _, 0, _, rfl, rfl, hS, rfl, q2, _, 1, _, rfl, rfl, hS2, rfl, _, rfl, q1, _, 1, _, rfl, rfl, hS, rfl, q3, _, 1, _, rfl, rfl, hS3, rfl, two_le, fun p4 hp4 => ⟨two_le, fun p5 hp5 => ?_⟩⟩
          have s4 := Same.new hp4 (.tup [y2, z2])
          have s5 := Same.new hp5 (.tup [y1, .ref p4])
          refine q (.N a (.N b c)) ?_ _ _ (ta_node (SqT.here upd_same) (ta_mono (Tp.same (s4.trans s5)) hL2) (ta_node (SqT.here (s5 _ _ upd_same)) (ta_mono (Tp.same (s4.trans s5)) hR2) (ta_mono (Tp.same (s4.trans s5)) hR3))) ((s1.trans s3).trans (s4.trans s5))
          show (if a.eqb a' = true then some (Tree.N a (.N b c)) else none) = _
          rw [e]
          rfl

abbrev s__law_rewrite : Stmt := top 54
theorem sc__law_rewrite : FnScope ["_law_term_here", "_law_spot", "_law_onward", "_law_current", "_law_new"] ["_law_term_here", "_law_spot", "_law_onward"] (defScope s__law_rewrite) := ⟨rfl, rfl, rfl, by decide +kernel, rfl, by decide +kernel, by decide +kernel⟩
theorem ta_ne {H : Hp} {v : V} {t : Tree} (h : TA K H v t) : decide (v = V.non) = false := by
  obtain ⟨a, xs, rfl, _⟩ := ta_inv h
  exact decide_eq_false fun z => by cases z
theorem ok__law_rewrite {f1 f2 f3 f4 : Addr} {e1 e2 e3 e4 : FuncData} (d : D K mg "_law_rewrite" s__law_rewrite ["_law_term_here", "_law_spot", "_law_onward"] f fd) (d__law_subterm : D K mg "_law_subterm" s__law_subterm ["_law_term_here", "_law_spot"] f1 e1) (d__law_expanded : D K mg "_law_expanded" s__law_expanded ["_law_some"] f2 e2)
    (d__law_replace : D K mg "_law_replace" s__law_replace ["_law_term_here", "_law_spot", "_law_new"] f3 e3) (d__law_contracted : D K mg "_law_contracted" s__law_contracted ["_law_some"] f4 e4) (n : Nat) : FnOk P w K mg base CX0 (n + 1 + 1) f fd ["_law_term_here", "_law_spot", "_law_onward"] (spRwN K n) := by
  have G__law_subterm : FnOk P w K mg base CX0 1 f1 e1 ["_law_term_here", "_law_spot"] (spStN K) := ok__law_subterm d__law_subterm
  have G__law_expanded : FnOk P w K mg base CX0 1 f2 e2 ["_law_some"] (spR0 K true) := ok__law_expanded d__law_expanded
  have G__law_contracted : FnOk P w K mg base CX0 1 f4 e4 ["_law_some"] (spR0 K false) := ok__law_contracted d__law_contracted
  have G__law_replace : FnOk P w K mg base CX0 n f3 e3 ["_law_term_here", "_law_spot", "_law_new"] (spRp K n) := ok__law_replace d__law_replace n
  refine d.F.ok sc__law_rewrite (fun vs H Q E h => ?_) (fun cdv A outer s H vs Q E hr h => ?_)
  · obtain ⟨_, _, _, _, rfl, _⟩ := h
    rfl
  obtain ⟨v, t, p, on, rfl, ha, hd, hp, hn, qn, q⟩ := h
  refine ⟨_, (pss_cons (ps_set (i := 3) sc__law_rewrite.nd rfl (Or.inl rfl) (pe_call G__law_subterm (hr.mono (by omega)) rfl d__law_subterm.m d__law_subterm.F.kp d__law_subterm.b .nil pass0 (pa_cons (pv 0) (pa_cons (pv 1) pa_nil))))
 (pss_cons (ps_set (i := 4) sc__law_rewrite.nd rfl (Or.inl rfl) pe_non)
 (pss_cons (ps_if (pt_cmpR op_notN (pv 3) pe_non (nomark _)) (pss_one (ps_set (i := 4) sc__law_rewrite.nd rfl (Or.inl rfl) (pe_ifExp (pt_truth (pv 2) (by intro _; rfl)) (pe_call G__law_expanded (hr.mono (by omega)) rfl d__law_expanded.m d__law_expanded.F.kp d__law_expanded.b .nil pass0 (pa_cons (pv 3) pa_nil)) (pe_call G__law_contracted (hr.mono (by omega)) rfl d__law_contracted.m d__law_contracted.F.kp d__law_contracted.b .nil pass0 (pa_cons (pv 3) pa_nil))))) pss_nil)
 (pss_one (ps_ret (pe_ifExp (pt_cmpR op_isN (pv 4) pe_non (nomark _)) pe_non (pe_call G__law_replace (hr.mono (by omega)) rfl d__law_replace.m d__law_replace.F.kp d__law_replace.b .nil pass0 (pa_cons (pv 0) (pa_cons (pv 1) (pa_cons (pv 4) pa_nil)))))))))), ?_⟩
  refine ⟨_, rfl, _, rfl, v, t, p, rfl, ha, hd, fun hz H1 s1 => ?_, fun u hz x H1 a1 s1 => ?_⟩
  · refine ⟨_, rfl, rfl, _, rfl, ite_no rfl ?_⟩
    refine ⟨_, rfl, rfl, _, rfl, ite_yes rfl (qn ?_ H1 s1)⟩
    unfold Tree.rwt
    rw [hz]
    rfl
  have hl := Tree.st_len t p u hz
  have hW : t.rwt on p = (u.r0 on).bind fun u' => t.rp p u' := by
    unfold Tree.rwt
    rw [hz]
    rfl
  refine ⟨_, rfl, rfl, _, rfl, ite_yes (by rw [ta_ne a1]; rfl) ?_⟩
  have fin : ∀ (u' : Tree), u.r0 on = some u' → ∀ (y : V) (H2 : Hp), TA K H2 y u' → Same H1 H2 → ∃ t', t.rp p u' = some t' ∧ t.rwt on p = some t' := fun u' e y H2 _ _ => by
    obtain ⟨t', e'⟩ := Tree.rp_some u' t p u hz
    refine ⟨t', e', ?_⟩
    rw [hW, e]
    exact e'
  have non : u.r0 on = none → t.rwt on p = none := fun e => by
    rw [hW, e]
    rfl
  refine ⟨_, rfl, on, rfl, ?_⟩
  cases on with
  | true =>
    refine iteT ⟨_, rfl, x, u, rfl, a1, by omega, fun hz2 H2 s2 => ?_, fun u' hz2 y H2 a2 s2 => ?_⟩
    · exact ⟨_, rfl, rfl, _, rfl, ite_yes rfl (qn (non hz2) H2 (s1.trans s2))⟩
    obtain ⟨t', e1, e2⟩ := fin u' hz2 y H2 a2 s2
    refine ⟨_, rfl, rfl, _, rfl, ite_no (ta_ne a2) ?_⟩
    exact ⟨_, rfl, _, rfl, _, rfl, v, y, t, u', t', p, rfl, ta_mono (Tp.same (s1.trans s2)) ha, a2, hp, by omega, e1, fun z H3 a3 s3 => q t' e2 z H3 a3 ((s1.trans s2).trans s3)⟩
  | false =>
    refine iteF ⟨_, rfl, x, u, rfl, a1, by omega, fun hz2 H2 s2 => ?_, fun u' hz2 y H2 a2 s2 => ?_⟩
    · exact ⟨_, rfl, rfl, _, rfl, ite_yes rfl (qn (non hz2) H2 (s1.trans s2))⟩
    obtain ⟨t', e1, e2⟩ := fin u' hz2 y H2 a2 s2
    refine ⟨_, rfl, rfl, _, rfl, ite_no (ta_ne a2) ?_⟩
    exact ⟨_, rfl, _, rfl, _, rfl, v, y, t, u', t', p, rfl, ta_mono (Tp.same (s1.trans s2)) ha, a2, hp, by omega, e1, fun z H3 a3 s3 => q t' e2 z H3 a3 ((s1.trans s2).trans s3)⟩

abbrev s__law_steps : Stmt := top 55
theorem sc__law_steps : FnScope ["_law_term_here", "_law_result", "_law_spot", "_law_onward"] ["_law_term_here"] (defScope s__law_steps) := ⟨rfl, rfl, rfl, by decide +kernel, rfl, by decide +kernel, by decide +kernel⟩
theorem ok__law_steps {f1 f2 f3 f4 f5 f6 : Addr} {e1 e2 e3 e4 e5 e6 : FuncData} (d : D K mg "_law_steps" s__law_steps ["_law_term_here"] f fd) (d__law_paths : D K mg "_law_paths" s__law_paths ["_law_term_here", "_law_spot"] f6 e6) (d__law_rewrite : D K mg "_law_rewrite" s__law_rewrite ["_law_term_here", "_law_spot", "_law_onward"] f5 e5) (d__law_subterm : D K mg "_law_subterm" s__law_subterm ["_law_term_here", "_law_spot"] f1 e1) (d__law_expanded : D K mg "_law_expanded" s__law_expanded ["_law_some"] f2 e2)
    (d__law_replace : D K mg "_law_replace" s__law_replace ["_law_term_here", "_law_spot", "_law_new"] f3 e3) (d__law_contracted : D K mg "_law_contracted" s__law_contracted ["_law_some"] f4 e4) : FnOk P w K mg base CX0 12 f fd ["_law_term_here"] (spStps K) := by
  have G__law_paths : FnOk P w K mg base CX0 10 f6 e6 ["_law_term_here", "_law_spot"] (spPts K 9) := ok__law_paths d__law_paths 9
  have G__law_rewrite : FnOk P w K mg base CX0 11 f5 e5 ["_law_term_here", "_law_spot", "_law_onward"] (spRwN K 9) := ok__law_rewrite d__law_rewrite d__law_subterm d__law_expanded d__law_replace d__law_contracted 9
  refine d.F.ok sc__law_steps (fun vs H Q E h => ?_) (fun cdv A outer s H vs Q E hr h => ?_)
  · obtain ⟨_, _, rfl, _⟩ := h
    rfl
  obtain ⟨v, t, rfl, ha, hd, hnd, q⟩ := h
  refine ⟨_, (pss_cons (ps_set (i := 1) sc__law_steps.nd rfl (Or.inl rfl) (pe_lst pa_nil))
 (pss_cons (ps_for PassesOwn.never rfl (pi_list (pe_call G__law_paths (hr.mono (by decide)) rfl d__law_paths.m d__law_paths.F.kp d__law_paths.b .nil pass0 (pa_cons (pv 0) (pa_cons pe_str pa_nil)))) (pg_name (i := 2) sc__law_steps.nd rfl (Or.inl rfl))
  (pss_one (ps_for PassesOwn.never rfl (pi_list (pe_lst (pa_cons pe_bl (pa_cons pe_bl pa_nil)))) (pg_name (i := 3) sc__law_steps.nd rfl (Or.inl rfl))
  (pss_one (ps_if (pt_cmpR op_notN (pe_call G__law_rewrite (hr.mono (by decide)) rfl d__law_rewrite.m d__law_rewrite.F.kp d__law_rewrite.b .nil pass0 (pa_cons (pv 0) (pa_cons (pv 2) (pa_cons (pv 3) pa_nil)))) pe_non (nomark _)) (pss_one (ps_expr (pe_bm PySem.F.plainAttrs_list PySem.F.slot_list_append PySem.F.type_list_append mt_append (pv 1) (pa_cons (pe_tup (pa_cons (pv 2) (pa_cons (pv 3) pa_nil))) pa_nil)))) pss_nil)))))
 (pss_one (ps_ret (pv 1))))), ?_⟩
  refine ⟨zero_le', fun l nl => ?_⟩
  have s1 := Same.new nl (.lst [])
  refine ⟨_, rfl, v, t, [], rfl, ta_mono (Tp.same s1) ha, by omega, by omega, by omega, by show 0 + t.dp ≤ 60; omega, fun b H2 s2 nb hb => ?_⟩
  have nbl : b ≠ l := fun z => by rw [z, upd_same] at nb; cases nb
  have hpl : ∀ p ∈ t.pts [], p.length ≤ 8 := fun p hp => by
    have := Tree.pts_le t [] p hp
    have e : ([] : List Bool).length = 0 := rfl
    omega
  have hl2 : H2 l = some (.lst []) := s2 _ _ upd_same
  refine ⟨b, rfl, ⟨_, SqL.here hb⟩, for_list (xs := ptxs (t.pts [])) (fun i σ G => ∃ (x y : Option V) (xs : List V), σ = [some v, some (.ref l), x, y] ∧ Same H G ∧ G b = some (.lst (ptxs (t.pts []))) ∧ G l = some (.lst xs) ∧ xs.length ≤ 2 * i ∧ ∀ x ∈ xs, StepAt K G t x)
    ⟨none, none, [], rfl, s1.trans s2, hb, hl2, Nat.zero_le _, fun x hx => nomatch hx⟩ ?_ ?_ ?_⟩
  · rintro i σ G _ ⟨x, y, xs, rfl, _, hb, _⟩
    exact SqL.here hb
  · rintro i x0 σ G hx ⟨x, y, xs, rfl, sm, hb, hl, hlen, hX⟩
    unfold ptxs at hx
    rw [List.getElem?_map] at hx
    cases ep : (t.pts [])[i]? with
    | none => rw [ep] at hx; cases hx
    | some p =>
      rw [ep] at hx
      cases hx
      have hi : i < (t.pts []).length := (List.getElem?_eq_some_iff.mp ep).1
      have hi : i < t.nodes := by rw [← Tree.pts_len t []]; exact hi
      have hp8 := hpl p (List.mem_of_getElem? ep)
      refine ⟨two_le, fun z nz => ?_⟩
      have nzl : z ≠ l := fun e => by rw [e, hl] at nz; cases nz
      have nzb : z ≠ b := fun e => by rw [e, hb] at nz; cases nz
      have sz := Same.new nz (.lst [.bl true, .bl false])
      refine ⟨z, rfl, ⟨_, SqL.here upd_same⟩, for_list (xs := [.bl true, .bl false]) (fun j σ G => ∃ (y : Option V) (xs : List V), σ = [some v, some (.ref l), some (.str (ptx p)), y] ∧ Same H G ∧ G b = some (.lst (ptxs (t.pts []))) ∧ G z = some (.lst [.bl true, .bl false]) ∧ G l = some (.lst xs) ∧ xs.length ≤ 2 * i + j ∧ ∀ x ∈ xs, StepAt K G t x)
        ⟨y, xs, rfl, sm.trans sz, sz _ _ hb, upd_same, sz _ _ hl, hlen, fun x hx => (hX x hx).tp (Tp.same sz)⟩ ?_ ?_ ?_⟩
      · rintro j σ G _ ⟨y, xs, rfl, _, _, hz, _⟩
        exact SqL.here hz
      · rintro j x1 σ G hx ⟨y, xs, rfl, sm, hb, hz, hl, hlen, hX⟩
        obtain ⟨on, rfl⟩ : ∃ on, x1 = V.bl on := by
          match j, hx with
          | 0, hx => cases hx; exact ⟨_, rfl⟩
          | 1, hx => cases hx; exact ⟨_, rfl⟩
        have hj : j < 2 := (List.getElem?_eq_some_iff.mp hx).1
        refine ⟨_, rfl, _, rfl, _, rfl, v, t, p, on, rfl, ta_mono (Tp.same sm) ha, by omega, by omega, by omega, fun _ G2 s3 => ?_, fun t' ht' x2 G2 a2 s3 => ?_⟩
        · refine ⟨rfl, _, rfl, ite_no rfl ?_⟩
          exact ⟨_, xs, rfl, sm.trans s3, s3 _ _ hb, s3 _ _ hz, s3 _ _ hl, by omega, fun x hx => (hX x hx).tp (Tp.same s3)⟩
        · refine ⟨rfl, _, rfl, ite_yes (by rw [ta_ne a2]; rfl) ?_⟩
          have hl3 := s3 _ _ hl
          refine ⟨_, rfl, .inl ⟨rfl, _, SqL.here hl3⟩, _, rfl, _, rfl, two_le, fun p3 np3 => ?_⟩
          have s4 := Same.new np3 (.tup [.str (ptx p), .bl on])
          have hl4 := s4 _ _ hl3
          have tp5 := Tp.but hl4 (But.set (o := .lst (xs ++ [.ref p3])))
          refine ⟨l, _, _, rfl, rfl, hl4, small1000 (by omega), ⟨_, xs ++ [.ref p3], rfl, fun c o e => ?_, ?_, ?_, upd_same, by rw [List.length_append]; show xs.length + 1 ≤ _; omega, fun x hx => ?_⟩⟩
          · rw [upd_ne (ne_of_none e nl)]
            exact s4 _ _ (s3 _ _ (sm _ _ e))
          · rw [upd_ne nbl]
            exact s4 _ _ (s3 _ _ hb)
          · rw [upd_ne nzl]
            exact s4 _ _ (s3 _ _ hz)
          · rcases List.mem_append.mp hx with hx | hx
            · exact (hX x hx).tp ((Tp.same (s3.trans s4)).trans tp5)
            · rw [List.mem_singleton.mp hx]
              exact ⟨p3, p, on, t', rfl, tp5.sqT (SqT.here upd_same), ht'⟩
      · rintro σ G ⟨y, xs, rfl, sm, hb, hz, hl, hlen, hX⟩
        exact ⟨_, _, xs, rfl, sm, hb, hl, by show xs.length ≤ 2 * (i + 1); have : xs.length ≤ 2 * i + 2 := hlen; omega, hX⟩
  · rintro σ G ⟨x, y, xs, rfl, sm, hb, hl, hlen, hX⟩
    rw [ptxs_len, Tree.pts_len] at hlen
    exact ⟨_, rfl, q l xs G sm nl hl (by omega) hX⟩

abbrev s__law_rewritten : Stmt := top 56
theorem sc__law_rewritten : FnScope ["_law_rng", "_law_term_here", "_law_turns", "_law_top", "_law_turn", "_law_some", "_law_spot", "_law_onward", "_law_later"] ["_law_rng", "_law_term_here", "_law_turns", "_law_top"] (defScope s__law_rewritten) := ⟨rfl, rfl, rfl, by decide +kernel, rfl, by decide +kernel, by decide +kernel⟩
theorem ok__law_rewrittenR {f1 f2 f3 f4 f5 f6 f7 f8 f9 g1 g2 g3 : Addr} {e1 e2 e3 e4 e5 e6 e7 e8 e9 i1 i2 i3 : FuncData} (d : D K mg "_law_rewritten" s__law_rewritten ["_law_rng", "_law_term_here", "_law_turns", "_law_top"] f fd) (B : Blt mg) (d__law_draw : D K mg "_law_draw" s__law_draw ["_law_rng", "_law_amount"] g1 i1) (d__law_pick : D K mg "_law_pick" s__law_pick ["_law_rng", "_law_terms"] g2 i2) (d__law_size : D K mg "_law_size" s__law_size ["_law_term_here"] f7 e7) (d__law_depth : D K mg "_law_depth" s__law_depth ["_law_term_here"] f8 e8) (d__law_fits : D K mg "_law_fits" s__law_fits ["_law_term_here", "_law_top"] g3 i3)
    (d__law_steps : D K mg "_law_steps" s__law_steps ["_law_term_here"] f9 e9) (d__law_paths : D K mg "_law_paths" s__law_paths ["_law_term_here", "_law_spot"] f6 e6) (d__law_rewrite : D K mg "_law_rewrite" s__law_rewrite ["_law_term_here", "_law_spot", "_law_onward"] f5 e5) (d__law_subterm : D K mg "_law_subterm" s__law_subterm ["_law_term_here", "_law_spot"] f1 e1) (d__law_expanded : D K mg "_law_expanded" s__law_expanded ["_law_some"] f2 e2)
    (d__law_replace : D K mg "_law_replace" s__law_replace ["_law_term_here", "_law_spot", "_law_new"] f3 e3) (d__law_contracted : D K mg "_law_contracted" s__law_contracted ["_law_some"] f4 e4) : FnOk P w K mg base CX0 13 f fd ["_law_rng", "_law_term_here", "_law_turns", "_law_top"] (spRwR K) := by
  have G__law_pick : FnOk P w K mg base CX0 2 g2 i2 ["_law_rng", "_law_terms"] (spPickC K) := ok__law_pickC d__law_pick B d__law_draw
  have G__law_fits : FnOk P w K mg base CX0 10 g3 i3 ["_law_term_here", "_law_top"] (spFits K) := ok__law_fits d__law_fits B d__law_size d__law_depth
  have G__law_steps : FnOk P w K mg base CX0 12 f9 e9 ["_law_term_here"] (spStps K) := ok__law_steps d__law_steps d__law_paths d__law_rewrite d__law_subterm d__law_expanded d__law_replace d__law_contracted
  have G__law_rewrite : FnOk P w K mg base CX0 11 f5 e5 ["_law_term_here", "_law_spot", "_law_onward"] (spRwN K 9) := ok__law_rewrite d__law_rewrite d__law_subterm d__law_expanded d__law_replace d__law_contracted 9
  refine d.F.ok sc__law_rewritten (fun vs H Q E h => ?_) (fun cdv A outer s H vs Q E hr h => ?_)
  · obtain ⟨_, _, _, _, _, _, _, rfl, _⟩ := h
    rfl
  obtain ⟨Rl, r, c, v, t, turns, top, rfl, hR, ha, hd, hz, ht0, ht1, htop, hr0, hrs, q⟩ := h
  refine ⟨_, (pss_cons (ps_for PassesOwn.never rfl (pi_range1 (by rfl) B.range (pa_cons (pv 2) pa_nil)) (pg_name (i := 4) sc__law_rewritten.nd rfl (Or.inl rfl))
  (pss_cons (ps_set (i := 5) sc__law_rewritten.nd rfl (Or.inl rfl) (pe_call G__law_steps (hr.mono (by decide)) rfl d__law_steps.m d__law_steps.F.kp d__law_steps.b .nil pass0 (pa_cons (pv 1) pa_nil)))
 (pss_one (ps_if (pt_cmpR op_gt (pe_callB call_len_seq (by rfl) B.len PySem.boot_len (pa_cons (pv 5) pa_nil)) pe_int (nomark _)) (pss_cons (ps_asg (pe_call G__law_pick (hr.mono (by decide)) rfl d__law_pick.m d__law_pick.F.kp d__law_pick.b .nil pass0 (pa_cons (pv 0) (pa_cons (pv 5) pa_nil))) (pg_tup (by rfl) (pgs_cons (pg_name (i := 6) sc__law_rewritten.nd rfl (Or.inl rfl)) (pgs_cons (pg_name (i := 7) sc__law_rewritten.nd rfl (Or.inl rfl)) pgs_nil))))
 (pss_cons (ps_set (i := 8) sc__law_rewritten.nd rfl (Or.inl rfl) (pe_call G__law_rewrite (hr.mono (by decide)) rfl d__law_rewrite.m d__law_rewrite.F.kp d__law_rewrite.b .nil pass0 (pa_cons (pv 1) (pa_cons (pv 6) (pa_cons (pv 7) pa_nil)))))
 (pss_one (ps_set (i := 1) sc__law_rewritten.nd rfl (Or.inl rfl) (pe_ifExp (pt_val (pe_call G__law_fits (hr.mono (by decide)) rfl d__law_fits.m d__law_fits.F.kp d__law_fits.b .nil pass0 (pa_cons (pv 8) (pa_cons (pv 3) pa_nil)))) (pv 8) (pv 1)))))) pss_nil))))
 (pss_one (ps_ret (pv 1)))), ?_⟩
  obtain ⟨n, rfl⟩ : ∃ n : Nat, turns = (n : Int) := ⟨turns.toNat, by omega⟩
  refine ⟨_, rfl, _, rfl, by omega, by omega, for_range (lo := 0) (n := n) (fun i σ G => ∃ (x : V) (u : Tree) (x4 x5 x6 x7 x8 : Option V), σ = [some (.ref r), some x, some (.int (n : Int)), some (.int top), x4, x5, x6, x7, x8] ∧ TA K G x u ∧ Rl u ∧ u.dp ≤ 6 ∧ u.sz ≤ 12 ∧ RngC G r c ∧ But r H G)
    ⟨v, t, none, none, none, none, none, rfl, ha, hr0, hd, hz, hR, But.same (Same.refl _)⟩ ?_ ?_⟩
  · rintro i σ G hi ⟨x, u, x4, x5, x6, x7, x8, rfl, ha, hst, hd, hz, hR, hb⟩
    have hnd := tree_nodes u
    refine ⟨_, rfl, x, u, rfl, ha, by omega, by omega, fun l xs G1 s1 nl hl hlen hX => ?_⟩
    have R1 := hR.same s1
    have a1 := ta_mono (Tp.same s1) ha
    refine ⟨_, rfl, l, xs, rfl, .inl (SqL.here hl), _, _, rfl, rfl, _, rfl, ite2 (fun c1 => ?_) (fun c1 => ?_)⟩
    · have hpos : 0 < xs.length := by
        have := of_decide_eq_true c1
        omega
      have nlr : l ≠ r := (hR.ne nl).1
      refine ⟨_, rfl, _, rfl, r, l, c, xs, rfl, R1, .inl (SqL.here hl), hpos, by omega, nlr, fun v1 G2 hv R2 b2 => ?_⟩
      have tp2 := R1.tp b2
      obtain ⟨qa, p, on, t', rfl, hq, hw⟩ := (hX v1 hv).tp tp2
      have a2 := ta_mono tp2 a1
      have hpl := Tree.rwt_len hw
      refine ⟨qa, _, rfl, hq, rfl, _, _, rfl, _, _, rfl, rfl, ?_⟩
      refine ⟨_, rfl, _, rfl, _, rfl, x, u, p, on, rfl, a2, by omega, by omega, by omega, fun hn _ _ => ?_, fun t2 ht2 y G3 a3 s3 => ?_⟩
      · rw [hn] at hw
        cases hw
      rw [hw] at ht2
      cases ht2
      have hdp := Tree.rwt_dp hw
      refine ⟨_, rfl, _, rfl, y, t', top, rfl, a3, by omega, fun G4 s4 hs4 hd4 => ⟨true, rfl, iteT ?_⟩, fun G4 s4 => ⟨false, rfl, iteF ?_⟩⟩
      · exact ⟨_, rfl, y, t', _, _, _, _, _, rfl, ta_mono (Tp.same s4) a3, hrs _ _ _ _ hst hw hs4 hd4, hd4, by omega, (R2.same s3).same s4, ((hb.trans (But.same s1)).trans b2).trans ((But.same s3).trans (But.same s4))⟩
      · exact ⟨_, rfl, x, u, _, _, _, _, _, rfl, ta_mono (Tp.same (s3.trans s4)) a2, hst, hd, hz, (R2.same s3).same s4, ((hb.trans (But.same s1)).trans b2).trans ((But.same s3).trans (But.same s4))⟩
    · exact ⟨x, u, _, _, _, _, _, rfl, a1, hst, hd, hz, R1, hb.trans (But.same s1)⟩
  · rintro σ G ⟨x, u, x4, x5, x6, x7, x8, rfl, ha, hst, hd, hz, hR, hb⟩
    exact ⟨_, rfl, q x u G ha hst hd hz hR hb⟩

abbrev s__law_sign : Stmt := top 57
theorem sc__law_sign : FnScope ["_law_number"] ["_law_number"] (defScope s__law_sign) := ⟨rfl, rfl, rfl, by decide +kernel, rfl, by decide +kernel, by decide +kernel⟩
theorem ok__law_sign (d : D K mg "_law_sign" s__law_sign ["_law_number"] f fd) : FnOk P w K mg base CX0 1 f fd ["_law_number"] spSign := by
  refine d.F.ok sc__law_sign (fun vs H Q E h => ?_) (fun cdv A outer s H vs Q E hr h => ?_)
  · obtain ⟨_, rfl, _⟩ := h
    rfl
  obtain ⟨l, rfl, q⟩ := h
  refine ⟨_, (pss_one (ps_ret (pe_ifExp (pt_cmpR op_gt (pv 0) pe_int (nomark _)) pe_int (pe_un un_neg pe_int)))), ?_⟩
  refine ⟨_, rfl, _, _, rfl, rfl, _, rfl, ?_⟩
  unfold lsg at q
  refine ite2 (fun c => ?_) (fun c => ?_)
  · have c : l > 0 := of_decide_eq_true c
    rw [if_pos c] at q
    exact q
  · have c : ¬ l > 0 := fun z => c (decide_eq_true z)
    rw [if_neg c] at q
    exact ⟨_, rfl, q⟩

abbrev s__law_inverse : Stmt := top 58
theorem sc__law_inverse : FnScope ["_law_row", "_law_number"] ["_law_row"] (defScope s__law_inverse) := ⟨rfl, rfl, rfl, by decide +kernel, rfl, by decide +kernel, by decide +kernel⟩
theorem ok__law_inverse (d : D K mg "_law_inverse" s__law_inverse ["_law_row"] f fd) (B : Blt mg) : FnOk P w K mg base CX0 1 f fd ["_law_row"] (spWW K inv) := by
  refine d.F.ok sc__law_inverse (fun vs H Q E h => ?_) (fun cdv A outer s H vs Q E hr h => ?_)
  · obtain ⟨_, _, rfl, _⟩ := h
    rfl
  obtain ⟨a, ns, rfl, hS, hl, q⟩ := h
  refine ⟨_, (pss_one (ps_ret (pe_callTy call_tuple_of (by rfl) B.tuple (by decide +kernel) (pa_cons (pe_lc (own := [("_law_number", 1)]) (g := gName 1) (tt := tYes) (by rfl) sc__law_inverse.nd (pi_tup (pe_revT (pv 0))) (blkOk_by (own := [("_law_number", 1)]) (N := ["_law_row", "_law_number"]) (sc := defScope s__law_inverse) (by decide +kernel)) (fun _ _ _ _ _ => (pg_name (i := 1) sc__law_inverse.nd rfl (Or.inl rfl))) (fun _ _ _ _ _ => pts_nil) (fun _ _ _ _ _ => (pe_op op_sub pe_int (pv 1)))) pa_nil)))), ?_⟩
  refine ⟨_, rfl, a, _, rfl, hS, fun p np => ⟨p, rfl, ⟨_, SqT.here upd_same⟩, fun D hD => ?_⟩⟩
  have s1 := Same.new np (.tup (ns.map V.int).reverse)
  refine lc_mapT (ψ := fun v => .int (0 - vInt v)) hD (SqT.here upd_same) (by rw [List.length_reverse, List.length_map]; exact hl) (fun x G R hx sm k => ?_) (fun G sm hg => ?_)
  · rw [← List.map_reverse] at hx
    obtain ⟨n, _, rfl⟩ := mem_int hx
    exact ⟨rfl, _, rfl, _, _, rfl, rfl, k G (Same.refl _)⟩
  · refine ⟨D, _, rfl, .inl ⟨SqL.here hg, fun p2 np2 => q p2 _ (s1.trans (sm.trans (Same.new np2 _))) (SqT.here ?_)⟩⟩
    rw [upd_same, ← List.map_reverse, map_int (ψ := fun n => V.int (0 - n))]
    unfold inv
    rw [List.map_map]
    congr 2
    apply List.map_congr_left
    intro n _
    show V.int (0 - n) = V.int (-n)
    rw [Int.zero_sub]

abbrev s__law_shift : Stmt := top 59
theorem sc__law_shift : FnScope ["_law_row", "_law_step", "_law_number"] ["_law_row", "_law_step"] (defScope s__law_shift) := ⟨rfl, rfl, rfl, by decide +kernel, rfl, by decide +kernel, by decide +kernel⟩
theorem ok__law_shift {f1 : Addr} {e1 : FuncData} (d : D K mg "_law_shift" s__law_shift ["_law_row", "_law_step"] f fd) (B : Blt mg) (d__law_sign : D K mg "_law_sign" s__law_sign ["_law_number"] f1 e1) : FnOk P w K mg base CX0 2 f fd ["_law_row", "_law_step"] (spShfL K) := by
  have G__law_sign : FnOk P w K mg base CX0 1 f1 e1 ["_law_number"] spSign := ok__law_sign d__law_sign
  refine d.F.ok sc__law_shift (fun vs H Q E h => ?_) (fun cdv A outer s H vs Q E hr h => ?_)
  · obtain ⟨_, _, _, rfl, _⟩ := h
    rfl
  obtain ⟨a, ns, k, rfl, hS, hl, hk1, hk2, q⟩ := h
  refine ⟨_, (pss_one (ps_ret (pe_callTy call_tuple_of (by rfl) B.tuple (by decide +kernel) (pa_cons (pe_lc (own := [("_law_number", 2)]) (g := gName 2) (tt := tYes) (by rfl) sc__law_shift.nd (pi_tup (pv 0)) (blkOk_by (own := [("_law_number", 2)]) (N := ["_law_row", "_law_step", "_law_number"]) (sc := defScope s__law_shift) (by decide +kernel)) (fun _ _ _ _ _ => (pg_name (i := 2) sc__law_shift.nd rfl (Or.inl rfl))) (fun _ _ _ _ _ => pts_nil) (fun _ _ _ _ _ => (pe_op op_add (pv 2) (pe_op op_mul (pv 1) (pe_call G__law_sign (hr.mono (by decide)) rfl d__law_sign.m d__law_sign.F.kp d__law_sign.b .nil pass0 (pa_cons (pv 2) pa_nil)))))) pa_nil)))), ?_⟩
  refine ⟨_, rfl, a, rfl, ⟨_, hS⟩, fun D hD => ?_⟩
  refine lc_mapT (ψ := fun v => .int (vInt v + k * lsg (vInt v))) hD hS (by rw [List.length_map]; exact hl) (fun x G R hx sm z => ?_) (fun G sm hg => ?_)
  · obtain ⟨n, _, rfl⟩ := mem_int hx
    exact ⟨rfl, _, rfl, _, rfl, _, rfl, n, rfl, _, _, rfl, rfl, .inl ⟨by omega, by omega⟩, _, _, rfl, rfl, z G (Same.refl _)⟩
  · refine ⟨D, _, rfl, .inl ⟨SqL.here hg, fun p np => q p _ (sm.trans (Same.new np _)) (SqT.here ?_)⟩⟩
    rw [upd_same, map_int (ψ := fun n => V.int (n + k * lsg n))]
    unfold shf
    rw [List.map_map]
    congr 2
    apply List.map_congr_left
    intro n _
    show V.int (n + k * lsg n) = V.int (sgn (ab n + k) n)
    rw [shf_law]

abbrev s__law_word : Stmt := top 60
theorem sc__law_word : FnScope ["_law_term_here", "_law_left"] ["_law_term_here"] (defScope s__law_word) := ⟨rfl, rfl, rfl, by decide +kernel, rfl, by decide +kernel, by decide +kernel⟩
theorem ok__law_word {f1 f2 f3 : Addr} {e1 e2 e3 : FuncData} (d__law_word : D K mg "_law_word" s__law_word ["_law_term_here"] f fd) (B : Blt mg) (d__law_sign : D K mg "_law_sign" s__law_sign ["_law_number"] f1 e1) (d__law_shift : D K mg "_law_shift" s__law_shift ["_law_row", "_law_step"] f2 e2) (d__law_inverse : D K mg "_law_inverse" s__law_inverse ["_law_row"] f3 e3) :
    ∀ n : Nat, FnOk P w K mg base CX0 (n + 2) f fd ["_law_term_here"] (spWd K lwd n)
  | 0 => fn_none spWd_no
  | n + 1 => by
    have G__law_word := ok__law_word d__law_word B d__law_sign d__law_shift d__law_inverse n
    have G__law_shift : FnOk P w K mg base CX0 2 f2 e2 ["_law_row", "_law_step"] (spShfL K) := ok__law_shift d__law_shift B d__law_sign
    have G__law_inverse : FnOk P w K mg base CX0 1 f3 e3 ["_law_row"] (spWW K inv) := ok__law_inverse d__law_inverse B
    refine d__law_word.F.ok sc__law_word (fun vs H Q E h => ?_) (fun cdv A outer s H vs Q E hr h => ?_)
    · obtain ⟨_, _, rfl, _⟩ := h
      rfl
    obtain ⟨v, t, rfl, ha, hn, hd, hz, q⟩ := h
    refine ⟨_, (pss_cons (ps_if (pt_cmpR (op_eqD hr.units) (pv 0) (pe_tup pa_nil) (nomark _)) (pss_one (ps_ret (pe_tup pa_nil))) pss_nil)
 (pss_cons (ps_set (i := 1) sc__law_word.nd rfl (Or.inl rfl) (pe_call G__law_word hr rfl d__law_word.m d__law_word.F.kp d__law_word.b .nil pass0 (pa_cons (pe_ix ix_tup (pv 0) pe_int (fun _ _ => rfl)) pa_nil)))
 (pss_one (ps_ret (pe_op op_catA (pe_op op_catA (pe_op op_catA (pv 1) (pe_call G__law_shift (hr.mono (by omega)) rfl d__law_shift.m d__law_shift.F.kp d__law_shift.b .nil pass0 (pa_cons (pe_call G__law_word hr rfl d__law_word.m d__law_word.F.kp d__law_word.b .nil pass0 (pa_cons (pe_ix ix_tup (pv 0) pe_int (fun _ _ => rfl)) pa_nil)) (pa_cons pe_int pa_nil)))) (pe_tup (pa_cons pe_int pa_nil))) (pe_call G__law_inverse (hr.mono (by omega)) rfl d__law_inverse.m d__law_inverse.F.kp d__law_inverse.b .nil pass0 (pa_cons (pe_call G__law_shift (hr.mono (by omega)) rfl d__law_shift.m d__law_shift.F.kp d__law_shift.b .nil pass0 (pa_cons (pv 1) (pa_cons pe_int pa_nil))) pa_nil))))))), ?_⟩
    refine ⟨_, rfl, zero_le', fun p hp => ⟨t.d, .tuple [], ta_mono (Tp.same (Same.new hp _)) ha, Dp.tup (SqT.here upd_same) .nil, Tree.shaped (by omega), shapedE, _, rfl, ite_eq (Tree.eqvL t) ?_⟩⟩
    have s1 := Same.new hp (.tup [])
    cases t with
    | L => exact iteT ⟨zero_le', fun p2 hp2 => q p2 _ (s1.trans (Same.new hp2 _)) (SqT.here upd_same)⟩
    | N l r =>
      have hn : max l.dp r.dp + 1 < n + 1 := hn
      have hd : max l.dp r.dp + 1 ≤ 6 := hd
      have hz : l.sz + r.sz ≤ 12 := hz
      have p1 := l.sz_pos
      have p2 := r.sz_pos
      obtain ⟨b, x1, x2, rfl, hS, hL, hR⟩ := ta_invN (ta_mono (Tp.same s1) ha)
      have ll := wd_len (t := l) (by omega) (by omega)
      have lr := wd_len (t := r) (by omega) (by omega)
      rw [← lwd_eq] at ll lr
      refine iteF ⟨_, rfl, b, _, 0, _, rfl, rfl, hS, rfl, x1, l, rfl, hL, by omega, by omega, by omega, fun a1 H2 s2 w1 => ?_⟩
      refine ⟨_, rfl, _, rfl, b, _, 1, _, rfl, rfl, (Tp.same s2).sqT hS, rfl, x2, r, rfl, ta_mono (Tp.same s2) hR, by omega, by omega, by omega, fun a2 H3 s3 w2 => ?_⟩
      refine ⟨a2, _, 1, rfl, w2, by omega, by decide, by decide, fun a3 H4 s4 w3 => ?_⟩
      have w1' := (Tp.same (s3.trans s4)).sqT w1
      refine cat_w w1' w3 (by rw [shf_len]; omega) fun a4 H5 s5 w4 => ?_
      refine ⟨one_le, fun a5 n5 => ?_⟩
      have s6 := Same.new n5 (.tup [.int 1])
      refine cat_w ((Tp.same s6).sqT w4) (SqT.here upd_same : WT K _ a5 [1]) (by rw [List.length_append, shf_len, List.length_singleton]; omega) fun a6 H7 s7 w6 => ?_
      have s57 := (s5.trans s6).trans s7
      refine ⟨_, rfl, a1, _, 1, rfl, (Tp.same s57).sqT w1', by omega, by decide, by decide, fun a7 H8 s8 w7 => ?_⟩
      refine ⟨a7, _, rfl, w7, by rw [shf_len]; omega, fun a8 H9 s9 w8 => ?_⟩
      refine cat_w ((Tp.same (s8.trans s9)).sqT w6) w8 (by rw [List.length_append, List.length_append, shf_len, inv_len, shf_len, List.length_singleton]; omega) fun a9 H10 s10 w9 => ?_
      exact q a9 H10 (s1.trans (s2.trans (s3.trans (s4.trans (s57.trans (s8.trans (s9.trans s10))))))) w9

abbrev s__law_braided : Stmt := top 61
theorem sc__law_braided : FnScope ["_law_first", "_law_second", "_law_third", "_law_big", "_law_other", "_law_sign_here"] ["_law_first", "_law_second", "_law_third"] (defScope s__law_braided) := ⟨rfl, rfl, rfl, by decide +kernel, rfl, by decide +kernel, by decide +kernel⟩
theorem ok__law_braided {f1 : Addr} {e1 : FuncData} (d : D K mg "_law_braided" s__law_braided ["_law_first", "_law_second", "_law_third"] f fd) (B : Blt mg) (BW : BltW mg) (d__law_sign : D K mg "_law_sign" s__law_sign ["_law_number"] f1 e1) : FnOk P w K mg base CX0 2 f fd ["_law_first", "_law_second", "_law_third"] spBrd := by
  have G__law_sign : FnOk P w K mg base CX0 1 f1 e1 ["_law_number"] spSign := ok__law_sign d__law_sign
  refine d.F.ok sc__law_braided (fun vs H Q E h => ?_) (fun cdv A outer s H vs Q E hr h => ?_)
  · obtain ⟨_, _, _, rfl, _⟩ := h
    rfl
  obtain ⟨a, b, c, rfl, q⟩ := h
  refine ⟨_, (pss_cons (ps_par3 (i := 3) (j := 4) (l := 5) (by rfl) sc__law_braided.nd rfl rfl rfl (by decide) (by decide) (by decide) rfl rfl rfl (pa_cons (pe_callB call_abs (by rfl) BW.abs (by decide +kernel) (pa_cons (pv 0) pa_nil)) (pa_cons (pe_callB call_abs (by rfl) BW.abs (by decide +kernel) (pa_cons (pv 1) pa_nil)) (pa_cons (pe_call G__law_sign (hr.mono (by decide)) rfl d__law_sign.m d__law_sign.F.kp d__law_sign.b .nil pass0 (pa_cons (pv 0) pa_nil)) pa_nil))) (by rfl))
 (pss_cons (ps_if (PW.pt (pw_or (pt_cmpR op_ne (pe_callB call_abs (by rfl) BW.abs (by decide +kernel) (pa_cons (pv 2) pa_nil)) (pv 3) (nomark _)) (pw_or1 (pt_cmpR op_ne (pe_callB call_abs (by rfl) BW.abs (by decide +kernel) (pa_cons (pe_op op_sub (pv 3) (pv 4)) pa_nil)) pe_int (nomark _))))) (pss_one (ps_ret pe_non)) pss_nil)
 (pss_cons (ps_if (pt_cmpR op_eq (pv 2) (pe_op op_sub pe_int (pv 0)) (nomark _)) (pss_one (ps_ret (pe_lst (pa_cons (pe_op op_sub pe_int (pe_op op_mul (pv 5) (pv 4))) (pa_cons (pe_op op_mul (pe_call G__law_sign (hr.mono (by decide)) rfl d__law_sign.m d__law_sign.F.kp d__law_sign.b .nil pass0 (pa_cons (pv 1) pa_nil)) (pv 3)) (pa_cons (pe_op op_mul (pv 5) (pv 4)) pa_nil)))))) pss_nil)
 (pss_one (ps_ret (pe_ifExp (pt_cmpR op_eq (pe_call G__law_sign (hr.mono (by decide)) rfl d__law_sign.m d__law_sign.F.kp d__law_sign.b .nil pass0 (pa_cons (pv 1) pa_nil)) (pv 5) (nomark _)) (pe_lst (pa_cons (pv 1) (pa_cons (pv 0) (pa_cons (pv 1) pa_nil)))) pe_non)))))), ?_⟩
  refine ⟨_, rfl, a, rfl, _, rfl, b, rfl, _, rfl, a, rfl, ?_⟩
  refine ⟨_, _, _, rfl, ?_⟩
  show tSeq _ _ _ [some (.int a), some (.int b), some (.int c), some (.int (ab a)), some (.int (ab b)), some (.int (lsg a))] H
  have nB : ∀ {x y : Int}, (!decide (V.int x = V.int y)) = true → x ≠ y := fun h z => by
    rw [z, decide_eq_true rfl] at h
    cases h
  have nB' : ∀ {x y : Int}, ¬ (!decide (V.int x = V.int y)) = true → x = y := fun h => Classical.byContradiction fun z => h (by rw [decide_eq_false fun y => z (V.int.inj y)]; rfl)
  refine ⟨_, rfl, c, rfl, _, rfl, rfl, _, rfl, ?_⟩
  have none1 : (ab c ≠ ab a ∨ ab (ab a - ab b) ≠ 1) → brd a b c = none := fun h => by unfold brd; rw [if_pos h]
  refine ite2 (fun c1 => ?_) (fun c1 => ?_)
  · have c1 : ab c ≠ ab a := nB c1
    refine iteT ?_
    exact q .non H (Same.refl _) (by rw [none1 (.inl c1)]; rfl)
  have c1 : ab c = ab a := nB' c1
  refine ⟨_, rfl, _, rfl, _, _, rfl, rfl, _, rfl, rfl, _, rfl, ?_⟩
  refine ite2 (fun c2 => ?_) (fun c2 => ?_)
  · have c2 : ab (ab a - ab b) ≠ 1 := nB c2
    exact q .non H (Same.refl _) (by rw [none1 (.inr c2)]; rfl)
  have c2 : ab (ab a - ab b) = 1 := nB' c2
  have e0 : brd a b c = if c = 0 - a then some [0 - lsg a * ab b, lsg b * ab a, lsg a * ab b] else if lsg b = lsg a then some [b, a, b] else none := by
    conv => lhs; unfold brd
    rw [if_neg (fun z => z.elim (fun y => y c1) (fun y => y c2))]
  have lb := lsg_b a
  refine ⟨_, rfl, _, rfl, _, _, rfl, rfl, rfl, _, rfl, ?_⟩
  refine ite2 (fun c3 => ?_) (fun c3 => ?_)
  · have c3 : c = 0 - a := V.int.inj (of_decide_eq_true c3)
    rw [if_pos c3] at e0
    refine ⟨_, rfl, _, rfl, _, _, rfl, rfl, .inl lb, _, _, rfl, rfl, _, rfl, b, rfl, _, rfl, _, _, rfl, rfl, .inl (lsg_b b), _, rfl, _, rfl, _, _, rfl, rfl, .inl lb, three_le, fun p np => ?_⟩
    exact q _ _ (Same.new np _) (by rw [e0]; exact ⟨p, rfl, np, upd_same⟩)
  have c3 : c ≠ 0 - a := fun z => c3 (decide_eq_true (congrArg V.int z))
  rw [if_neg c3] at e0
  refine ⟨_, rfl, b, rfl, _, rfl, rfl, _, rfl, ?_⟩
  refine ite2 (fun c4 => ?_) (fun c4 => ?_)
  · have c4 : lsg b = lsg a := V.int.inj (of_decide_eq_true c4)
    rw [if_pos c4] at e0
    refine ⟨_, rfl, _, rfl, _, rfl, three_le, fun p np => ?_⟩
    exact q _ _ (Same.new np _) (by rw [e0]; exact ⟨p, rfl, np, upd_same⟩)
  · have c4 : lsg b ≠ lsg a := fun z => c4 (decide_eq_true (congrArg V.int z))
    rw [if_neg c4] at e0
    exact q .non H (Same.refl _) (by rw [e0]; rfl)

abbrev s__law_move : Stmt := top 62
theorem sc__law_move : FnScope ["_law_row", "_law_move_here", "_law_word_here", "_law_at", "_law_new", "_law_many"] ["_law_row", "_law_move_here"] (defScope s__law_move) := ⟨rfl, rfl, rfl, by decide +kernel, rfl, by decide +kernel, by decide +kernel⟩
theorem ok__law_move {f1 f2 : Addr} {e1 e2 : FuncData} (d : D K mg "_law_move" s__law_move ["_law_row", "_law_move_here"] f fd) (B : Blt mg) (BW : BltW mg) (d__law_sign : D K mg "_law_sign" s__law_sign ["_law_number"] f1 e1) (d__law_braided : D K mg "_law_braided" s__law_braided ["_law_first", "_law_second", "_law_third"] f2 e2) : FnOk P w K mg base CX0 3 f fd ["_law_row", "_law_move_here"] (spMove K) := by
  have G__law_braided : FnOk P w K mg base CX0 2 f2 e2 ["_law_first", "_law_second", "_law_third"] spBrd := ok__law_braided d__law_braided B BW d__law_sign
  refine d.F.ok sc__law_move (fun vs H Q E h => ?_) (fun cdv A outer s H vs Q E hr h => ?_)
  · obtain ⟨_, _, _, _, rfl, _⟩ := h
    rfl
  obtain ⟨r, m, ns, o, rfl, hR, hl, hM, q⟩ := h
  refine ⟨_, (pss_cons (ps_par (i := 2) (j := 3) (by rfl) sc__law_move.nd rfl rfl (by decide) rfl rfl (pa_cons (pe_ix ix_tup (pv 1) pe_int (fun _ _ => rfl)) (pa_cons (pe_ix ix_tup (pv 1) pe_int (fun _ _ => rfl)) pa_nil)) (by rfl))
 (pss_cons (ps_set (i := 4) sc__law_move.nd rfl (Or.inl rfl) pe_non)
 (pss_cons (ps_if (PW.pt (pw_and (pt_cmpR op_eq (pv 2) pe_str (nomark _)) (pw_and (pt_cmpR op_eq (pe_callB call_len_seq (by rfl) B.len PySem.boot_len (pa_cons (pv 1) pa_nil)) pe_int (nomark _)) (pw_and (pt_chain op_le op_le pe_int (pv 3) (pe_callB call_len_seq (by rfl) B.len PySem.boot_len (pa_cons (pv 0) pa_nil))) (pw_and1 (pt_chain op_lt op_lt pe_int (pe_callB call_abs (by rfl) BW.abs (by decide +kernel) (pa_cons (pe_ix ix_tup (pv 1) pe_int (fun _ _ => rfl)) pa_nil)) pe_int)))))) (pss_one (ps_ret (pe_op op_cat (pe_op op_cat (pe_slice sl_list (pv 0) po_none (po_some (pv 3))) (pe_lst (pa_cons (pe_ix ix_tup (pv 1) pe_int (fun _ _ => rfl)) (pa_cons (pe_op op_sub pe_int (pe_ix ix_tup (pv 1) pe_int (fun _ _ => rfl))) pa_nil)))) (pe_slice sl_list (pv 0) (po_some (pv 3)) po_none)))) pss_nil)
 (C8.pss_cut (ps_set (i := 5) sc__law_move.nd rfl (Or.inl rfl) (pe_ifExp (pt_cmpR op_eq (pv 2) pe_str (nomark _)) pe_int pe_int))
 (pss_cons (ps_if (PW.pt (pw_or (pt_cmpR op_ne (pe_callB call_len_seq (by rfl) B.len PySem.boot_len (pa_cons (pv 1) pa_nil)) pe_int (nomark _)) (pw_or (pt_cmpR op_lt (pv 3) pe_int (nomark _)) (pw_or1 (pt_cmpR op_gt (pe_op op_add (pv 3) (pv 5)) (pe_callB call_len_seq (by rfl) B.len PySem.boot_len (pa_cons (pv 0) pa_nil)) (nomark _)))))) (pss_one (ps_ret pe_non)) pss_nil)
 (C8.pss_cut (ps_if (PW.pt (pw_and (pt_cmpR op_eq (pv 2) pe_str (nomark _)) (pw_and1 (pt_cmpR op_eq (pe_ix ix_list (pv 0) (pv 3) (fun _ _ => rfl)) (pe_op op_sub pe_int (pe_ix ix_list (pv 0) (pe_op op_add (pv 3) pe_int) (fun _ _ => rfl))) (nomark _))))) (pss_one (ps_set (i := 4) sc__law_move.nd rfl (Or.inl rfl) (pe_lst pa_nil))) (pss_one (ps_if (PW.pt (pw_and (pt_cmpR op_eq (pv 2) pe_str (nomark _)) (pw_and1 (pt_cmpR op_gt (pe_callB call_abs (by rfl) BW.abs (by decide +kernel) (pa_cons (pe_op op_sub (pe_callB call_abs (by rfl) BW.abs (by decide +kernel) (pa_cons (pe_ix ix_list (pv 0) (pv 3) (fun _ _ => rfl)) pa_nil)) (pe_callB call_abs (by rfl) BW.abs (by decide +kernel) (pa_cons (pe_ix ix_list (pv 0) (pe_op op_add (pv 3) pe_int) (fun _ _ => rfl)) pa_nil))) pa_nil)) pe_int (nomark _))))) (pss_one (ps_set (i := 4) sc__law_move.nd rfl (Or.inl rfl) (pe_lst (pa_cons (pe_ix ix_list (pv 0) (pe_op op_add (pv 3) pe_int) (fun _ _ => rfl)) (pa_cons (pe_ix ix_list (pv 0) (pv 3) (fun _ _ => rfl)) pa_nil))))) (pss_one (ps_if (pt_cmpR op_eq (pv 2) pe_str (nomark _)) (pss_one (ps_set (i := 4) sc__law_move.nd rfl (Or.inl rfl) (pe_call G__law_braided (hr.mono (by decide)) rfl d__law_braided.m d__law_braided.F.kp d__law_braided.b .nil pass0 (pa_cons (pe_ix ix_list (pv 0) (pv 3) (fun _ _ => rfl)) (pa_cons (pe_ix ix_list (pv 0) (pe_op op_add (pv 3) pe_int) (fun _ _ => rfl)) (pa_cons (pe_ix ix_list (pv 0) (pe_op op_add (pv 3) pe_int) (fun _ _ => rfl)) pa_nil)))))) pss_nil)))))
 (pss_one (ps_ret (pe_ifExp (pt_cmpR op_isN (pv 4) pe_non (nomark _)) pe_non (pe_op op_cat (pe_op op_cat (pe_slice sl_list (pv 0) po_none (po_some (pv 3))) (pv 4)) (pe_slice sl_list (pv 0) (po_some (pe_op op_add (pv 3) (pv 5))) po_none))))))))))), ?_⟩
  have lnR : ((ns.map V.int).length : Int) = ns.length := by rw [List.length_map]
  cases hM with
  | ins i k hi k0 k1 hm =>
    refine ⟨_, rfl, m, _, 0, _, rfl, rfl, hm, rfl, _, rfl, m, _, 1, _, rfl, rfl, hm, rfl, ?_⟩
    refine ⟨_, _, rfl, ?_⟩
    refine ⟨_, rfl, rfl, _, rfl, ite_yes (by decide +kernel) ?_⟩
    refine ⟨_, rfl, m, _, rfl, .inr hm, rfl, _, rfl, ite_yes (decide_eq_true rfl) ?_⟩
    refine ⟨_, rfl, _, _, rfl, rfl, _, rfl, ite_yes (decide_eq_true (by omega)) ⟨_, rfl, r, _, rfl, .inl (SqL.here hR), _, _, rfl, rfl, _, rfl, ite_yes (decide_eq_true (by rw [lnR]; omega)) ?_⟩⟩
    refine ⟨_, rfl, m, _, 2, _, rfl, rfl, hm, rfl, _, rfl, _, _, rfl, rfl, _, rfl, ite_yes (decide_eq_true k0) ⟨_, _, rfl, rfl, _, rfl, ite_yes (decide_eq_true k1) ?_⟩⟩
    refine ⟨_, rfl, _, rfl, (i : Int), rfl, r, _, rfl, SqL.here hR, fun c1 nc1 => ?_⟩
    rw [cutA hi]
    have z1 := Same.new nc1 (.lst ((ns.take i).map V.int))
    have hm1 := (Tp.same z1).sqT hm
    refine ⟨_, rfl, m, _, 2, _, rfl, rfl, hm1, rfl, _, rfl, m, _, 2, _, rfl, rfl, hm1, rfl, _, _, rfl, rfl, two_le, fun c2 nc2 => ?_⟩
    have z2 := Same.new nc2 (.lst [.int k, .int (0 - k)])
    have l1 : (ns.take i).length = i := by rw [List.length_take]; omega
    have l2 : (ns.drop i).length = ns.length - i := List.length_drop
    refine ⟨c1, c2, _, _, rfl, rfl, z2 _ _ upd_same, upd_same, by rw [List.length_map, l1]; exact Nat.le_trans (by show i + 2 ≤ 2000; omega) (by decide), fun c3 nc3 => ?_⟩
    have z3 := Same.new nc3 (.lst ((ns.take i).map V.int ++ [.int k, .int (0 - k)]))
    have z13 := z1.trans (z2.trans z3)
    refine ⟨_, rfl, _, rfl, (i : Int), rfl, r, _, rfl, SqL.here (z13 _ _ hR), fun c4 nc4 => ?_⟩
    rw [cutB hi]
    have z4 := Same.new nc4 (.lst ((ns.drop i).map V.int))
    refine ⟨c3, c4, _, _, rfl, rfl, z4 _ _ upd_same, upd_same, by rw [List.length_append, List.length_map, List.length_map, l1, l2]; exact Nat.le_trans (by show i + 2 + (ns.length - i) ≤ 2000; omega) (by decide), fun c5 nc5 => ?_⟩
    have z14 := z13.trans z4
    refine q _ _ (z14.trans (Same.new nc5 _)) ⟨c5, rfl, z14.free nc5, ?_⟩
    rw [upd_same, List.map_append, List.map_append]
    rfl
  | two u i hw hm =>
    refine ⟨_, rfl, m, _, 0, _, rfl, rfl, hm, rfl, _, rfl, m, _, 1, _, rfl, rfl, hm, rfl, ?_⟩
    refine ⟨_, _, rfl, ?_⟩
    have noI : decide (V.str (mw u) = V.str "insert") = false := mw_ins hw
    refine ⟨_, rfl, rfl, _, rfl, ite_no noI (iteF ?_)⟩
    refine ⟨fun σ G => σ = [some (.ref r), some (.ref m), some (.str (mw u)), some (.int i), some .non, some (.int (mvN u : Nat))] ∧ H = G, ?_, ?_⟩
    · refine ⟨_, rfl, rfl, _, rfl, ?_⟩
      refine ite2 (fun c => ?_) (fun c => ?_)
      · rw [mw_brd hw] at c
        have c : u = 2 := of_decide_eq_true c
        exact ⟨by rw [c]; rfl, rfl⟩
      · rw [mw_brd hw] at c
        have c : u ≠ 2 := fun z => c (decide_eq_true z)
        have e : mvN u = 2 := by unfold mvN; split; rfl; split; rfl; omega
        exact ⟨by rw [e]; rfl, rfl⟩
    rintro σ G ⟨rfl, rfl⟩
    refine ⟨_, rfl, m, _, rfl, .inr hm, rfl, _, rfl, ite_no (by show (!decide (V.int 2 = V.int 2)) = false; rw [decide_eq_true rfl]; rfl) ?_⟩
    refine ⟨_, rfl, _, _, rfl, rfl, _, rfl, ite_no (decide_eq_false (by omega)) ?_⟩
    refine ⟨_, rfl, _, rfl, _, _, rfl, rfl, _, rfl, r, _, rfl, .inl (SqL.here hR), _, _, rfl, rfl, _, rfl, ?_⟩
    refine ite2 (fun c1 => ?_) (fun c1 => ?_)
    · have c1 : ((ns.map V.int).length : Int) < (i : Int) + (mvN u : Nat) := of_decide_eq_true c1
      rw [lnR] at c1
      exact q .non H (Same.refl _) (by rw [mvF_out hw (by omega)]; rfl)
    have c1 : ¬ ((ns.map V.int).length : Int) < (i : Int) + (mvN u : Nat) := fun z => c1 (decide_eq_true z)
    rw [lnR] at c1
    refine ⟨fun σ G => ∃ v, σ = [some (.ref r), some (.ref m), some (.str (mw u)), some (.int i), some v, some (.int (mvN u : Nat))] ∧ Same H G ∧ OL H G (mvK u ns i) v, ?_, ?_⟩
    · refine ⟨_, rfl, rfl, _, rfl, ?_⟩
      refine ite2 (fun c2 => ?_) (fun c2 => ?_)
      · rw [mw_can hw] at c2
        have c2 : u = 0 := of_decide_eq_true c2
        subst c2
        have c1 : i + 2 ≤ ns.length := by
          have : mvN 0 = 2 := rfl
          omega
        have h1 : ns[i]? = some ns[i] := List.getElem?_eq_getElem (by omega)
        have h2 : ns[i + 1]? = some ns[i + 1] := List.getElem?_eq_getElem (by omega)
        have ek : mvK 0 ns i = if ns[i] = 0 - ns[i + 1] then some [] else none := by
          show mvC ns i = _
          unfold mvC
          rw [h1, h2]
        refine ⟨_, rfl, _, rfl, r, _, _, _, rfl, rfl, SqL.here hR, at_int h1, _, rfl, _, rfl, _, _, rfl, rfl, r, _, _, _, rfl, rfl, SqL.here hR, at_int h2, _, _, rfl, rfl, rfl, _, rfl, ?_⟩
        generalize ns[i] = a at *
        generalize ns[i + 1] = b at *
        refine ite2 (fun c3 => ?_) (fun c3 => ?_)
        · have c3 : a = 0 - b := V.int.inj (of_decide_eq_true c3)
          rw [if_pos c3] at ek
          refine ⟨zero_le', fun p np => ⟨_, rfl, Same.new np _, ?_⟩⟩
          rw [ek]
          exact ⟨p, rfl, np, upd_same⟩
        · have c3 : a ≠ 0 - b := fun z => c3 (decide_eq_true (congrArg V.int z))
          rw [if_neg c3] at ek
          refine ⟨_, rfl, rfl, _, rfl, ite_no (by decide +kernel) (iteF ?_)⟩
          refine ⟨_, rfl, rfl, _, rfl, ite_no (by decide +kernel) ?_⟩
          exact ⟨_, rfl, Same.refl _, by rw [ek]; rfl⟩
      rw [mw_can hw] at c2
      have c2 : u ≠ 0 := fun z => c2 (decide_eq_true z)
      refine iteF ?_
      refine ⟨_, rfl, rfl, _, rfl, ?_⟩
      refine ite2 (fun c3 => ?_) (fun c3 => ?_)
      · rw [mw_swp hw] at c3
        have c3 : u = 1 := of_decide_eq_true c3
        subst c3
        have c1 : i + 2 ≤ ns.length := by
          have : mvN 1 = 2 := rfl
          omega
        have h1 : ns[i]? = some ns[i] := List.getElem?_eq_getElem (by omega)
        have h2 : ns[i + 1]? = some ns[i + 1] := List.getElem?_eq_getElem (by omega)
        have ek : mvK 1 ns i = if ab (ab ns[i] - ab ns[i + 1]) > 1 then some [ns[i + 1], ns[i]] else none := by
          show mvS ns i = _
          unfold mvS
          rw [h1, h2]
        refine ⟨_, rfl, _, rfl, r, _, _, _, rfl, rfl, SqL.here hR, at_int h1, _, rfl, _, rfl, _, rfl, _, _, rfl, rfl, r, _, _, _, rfl, rfl, SqL.here hR, at_int h2, _, rfl, _, _, rfl, rfl, _, rfl, _, _, rfl, rfl, _, rfl, ?_⟩
        refine ite2 (fun c3 => ?_) (fun c3 => ?_)
        · have c3 : ab (ab ns[i] - ab ns[i + 1]) > 1 := of_decide_eq_true c3
          rw [if_pos c3] at ek
          refine ⟨_, rfl, _, rfl, _, _, rfl, rfl, r, _, _, _, rfl, rfl, SqL.here hR, at_int h2, _, rfl, _, rfl, r, _, _, _, rfl, rfl, SqL.here hR, at_int h1, two_le, fun p np => ⟨_, rfl, Same.new np _, ?_⟩⟩
          rw [ek]
          exact ⟨p, rfl, np, upd_same⟩
        · have c3 : ¬ ab (ab ns[i] - ab ns[i + 1]) > 1 := fun z => c3 (decide_eq_true z)
          rw [if_neg c3] at ek
          refine ⟨_, rfl, rfl, _, rfl, ite_no (by decide +kernel) ?_⟩
          exact ⟨_, rfl, Same.refl _, by rw [ek]; rfl⟩
      · rw [mw_swp hw] at c3
        have c3 : u ≠ 1 := fun z => c3 (decide_eq_true z)
        have c4 : u = 2 := by omega
        subst c4
        have c1 : i + 3 ≤ ns.length := by
          have : mvN 2 = 3 := rfl
          omega
        have h1 : ns[i]? = some ns[i] := List.getElem?_eq_getElem (by omega)
        have h2 : ns[i + 1]? = some ns[i + 1] := List.getElem?_eq_getElem (by omega)
        have h3 : ns[i + 2]? = some ns[i + 2] := List.getElem?_eq_getElem (by omega)
        have ek : mvK 2 ns i = brd ns[i] ns[i + 1] ns[i + 2] := by
          show mvB ns i = _
          unfold mvB
          rw [h1, h2, h3]
        refine iteF ?_
        refine ⟨_, rfl, rfl, _, rfl, ite_yes (by decide +kernel) ?_⟩
        refine ⟨_, rfl, _, rfl, r, _, _, _, rfl, rfl, SqL.here hR, at_int h1, _, rfl, _, rfl, _, _, rfl, rfl, r, _, _, _, rfl, rfl, SqL.here hR, at_int h2, _, rfl, _, rfl, _, _, rfl, rfl, r, _, _, _, rfl, rfl, SqL.here hR, at_int h3, _, _, _, rfl, fun v G sm hv => ?_⟩
        rw [← ek] at hv
        exact ⟨v, rfl, sm, hv⟩
    · rintro σ G ⟨v, rfl, sm, hv⟩
      have e0 : mvF u ns i = (mvK u ns i).map fun m => ns.take i ++ m ++ ns.drop (i + mvN u) := rfl
      cases hk : mvK u ns i with
      | none =>
        rw [hk] at hv e0
        have hv : v = .non := hv
        subst hv
        refine ⟨_, rfl, rfl, _, rfl, ite_yes (decide_eq_true rfl) ?_⟩
        exact q .non G sm (by rw [e0]; rfl)
      | some l =>
        rw [hk] at hv e0
        obtain ⟨c0, rfl, n0, h0⟩ := hv
        have hl0 : l.length ≤ 3 := mvK_len hk
        refine ⟨_, rfl, rfl, _, rfl, ite_no (decide_eq_false (fun z => by cases z)) ?_⟩
        have hR2 := sm _ _ hR
        refine ⟨_, rfl, _, rfl, (i : Int), rfl, r, _, rfl, SqL.here hR2, fun c1 nc1 => ?_⟩
        rw [cutA (by omega)]
        have z1 := Same.new nc1 (.lst ((ns.take i).map V.int))
        have l1 : (ns.take i).length = i := by rw [List.length_take]; omega
        have l2 : (ns.drop (i + mvN u)).length = ns.length - (i + mvN u) := List.length_drop
        refine ⟨_, rfl, c1, c0, _, _, rfl, rfl, upd_same, z1 _ _ h0, by rw [List.length_map, l1, List.length_map]; exact Nat.le_trans (by show i + l.length ≤ 2000; omega) (by decide), fun c3 nc3 => ?_⟩
        have z3 := Same.new nc3 (.lst ((ns.take i).map V.int ++ l.map V.int))
        have z13 := z1.trans z3
        refine ⟨_, rfl, _, rfl, _, rfl, _, _, rfl, rfl, (i : Int) + (mvN u : Nat), rfl, r, _, rfl, SqL.here (z13 _ _ hR2), fun c4 nc4 => ?_⟩
        rw [show (i : Int) + (mvN u : Nat) = ((i + mvN u : Nat) : Int) by omega, cutB (by omega)]
        have z4 := Same.new nc4 (.lst ((ns.drop (i + mvN u)).map V.int))
        refine ⟨c3, c4, _, _, rfl, rfl, z4 _ _ upd_same, upd_same, by rw [List.length_append, List.length_map, List.length_map, List.length_map, l1, l2]; exact Nat.le_trans (by show i + l.length + (ns.length - (i + mvN u)) ≤ 2000; omega) (by decide), fun c5 nc5 => ?_⟩
        have z14 := z13.trans z4
        refine q _ _ ((sm.trans z14).trans (Same.new nc5 _)) ?_
        rw [e0]
        refine ⟨c5, rfl, (sm.trans z14).free nc5, ?_⟩
        rw [upd_same]
        dsimp only
        rw [List.map_append, List.map_append]

theorem ok__law_moveN {f1 f2 : Addr} {e1 e2 : FuncData} (d : D K mg "_law_move" s__law_move ["_law_row", "_law_move_here"] f fd) (B : Blt mg) (BW : BltW mg) (d__law_sign : D K mg "_law_sign" s__law_sign ["_law_number"] f1 e1) (d__law_braided : D K mg "_law_braided" s__law_braided ["_law_first", "_law_second", "_law_third"] f2 e2) : FnOk P w K mg base CX0 3 f fd ["_law_row", "_law_move_here"] (spMoveN K) := by
  have G__law_braided : FnOk P w K mg base CX0 2 f2 e2 ["_law_first", "_law_second", "_law_third"] spBrd := ok__law_braided d__law_braided B BW d__law_sign
  refine d.F.ok sc__law_move (fun vs H Q E h => ?_) (fun cdv A outer s H vs Q E hr h => ?_)
  · obtain ⟨_, _, _, _, _, rfl, _⟩ := h
    rfl
  obtain ⟨r, m, ns, nm, args, rfl, hR, hl, hm, hN, q⟩ := h
  refine ⟨_, (pss_cons (ps_par (i := 2) (j := 3) (by rfl) sc__law_move.nd rfl rfl (by decide) rfl rfl (pa_cons (pe_ix ix_tup (pv 1) pe_int (fun _ _ => rfl)) (pa_cons (pe_ix ix_tup (pv 1) pe_int (fun _ _ => rfl)) pa_nil)) (by rfl))
 (pss_cons (ps_set (i := 4) sc__law_move.nd rfl (Or.inl rfl) pe_non)
 (pss_cons (ps_if (PW.pt (pw_and (pt_cmpR op_eq (pv 2) pe_str (nomark _)) (pw_and (pt_cmpR op_eq (pe_callB call_len_seq (by rfl) B.len PySem.boot_len (pa_cons (pv 1) pa_nil)) pe_int (nomark _)) (pw_and (pt_chain op_le op_le pe_int (pv 3) (pe_callB call_len_seq (by rfl) B.len PySem.boot_len (pa_cons (pv 0) pa_nil))) (pw_and1 (pt_chain op_lt op_lt pe_int (pe_callB call_abs (by rfl) BW.abs (by decide +kernel) (pa_cons (pe_ix ix_tup (pv 1) pe_int (fun _ _ => rfl)) pa_nil)) pe_int)))))) (pss_one (ps_ret (pe_op op_cat (pe_op op_cat (pe_slice sl_list (pv 0) po_none (po_some (pv 3))) (pe_lst (pa_cons (pe_ix ix_tup (pv 1) pe_int (fun _ _ => rfl)) (pa_cons (pe_op op_sub pe_int (pe_ix ix_tup (pv 1) pe_int (fun _ _ => rfl))) pa_nil)))) (pe_slice sl_list (pv 0) (po_some (pv 3)) po_none)))) pss_nil)
 (C8.pss_cut (ps_set (i := 5) sc__law_move.nd rfl (Or.inl rfl) (pe_ifExp (pt_cmpR op_eq (pv 2) pe_str (nomark _)) pe_int pe_int))
 (pss_cons (ps_if (PW.pt (pw_or (pt_cmpR op_ne (pe_callB call_len_seq (by rfl) B.len PySem.boot_len (pa_cons (pv 1) pa_nil)) pe_int (nomark _)) (pw_or (pt_cmpR op_lt (pv 3) pe_int (nomark _)) (pw_or1 (pt_cmpR op_gt (pe_op op_add (pv 3) (pv 5)) (pe_callB call_len_seq (by rfl) B.len PySem.boot_len (pa_cons (pv 0) pa_nil)) (nomark _)))))) (pss_one (ps_ret pe_non)) pss_nil)
 (C8.pss_cut (ps_if (PW.pt (pw_and (pt_cmpR op_eq (pv 2) pe_str (nomark _)) (pw_and1 (pt_cmpR op_eq (pe_ix ix_list (pv 0) (pv 3) (fun _ _ => rfl)) (pe_op op_sub pe_int (pe_ix ix_list (pv 0) (pe_op op_add (pv 3) pe_int) (fun _ _ => rfl))) (nomark _))))) (pss_one (ps_set (i := 4) sc__law_move.nd rfl (Or.inl rfl) (pe_lst pa_nil))) (pss_one (ps_if (PW.pt (pw_and (pt_cmpR op_eq (pv 2) pe_str (nomark _)) (pw_and1 (pt_cmpR op_gt (pe_callB call_abs (by rfl) BW.abs (by decide +kernel) (pa_cons (pe_op op_sub (pe_callB call_abs (by rfl) BW.abs (by decide +kernel) (pa_cons (pe_ix ix_list (pv 0) (pv 3) (fun _ _ => rfl)) pa_nil)) (pe_callB call_abs (by rfl) BW.abs (by decide +kernel) (pa_cons (pe_ix ix_list (pv 0) (pe_op op_add (pv 3) pe_int) (fun _ _ => rfl)) pa_nil))) pa_nil)) pe_int (nomark _))))) (pss_one (ps_set (i := 4) sc__law_move.nd rfl (Or.inl rfl) (pe_lst (pa_cons (pe_ix ix_list (pv 0) (pe_op op_add (pv 3) pe_int) (fun _ _ => rfl)) (pa_cons (pe_ix ix_list (pv 0) (pv 3) (fun _ _ => rfl)) pa_nil))))) (pss_one (ps_if (pt_cmpR op_eq (pv 2) pe_str (nomark _)) (pss_one (ps_set (i := 4) sc__law_move.nd rfl (Or.inl rfl) (pe_call G__law_braided (hr.mono (by decide)) rfl d__law_braided.m d__law_braided.F.kp d__law_braided.b .nil pass0 (pa_cons (pe_ix ix_list (pv 0) (pv 3) (fun _ _ => rfl)) (pa_cons (pe_ix ix_list (pv 0) (pe_op op_add (pv 3) pe_int) (fun _ _ => rfl)) (pa_cons (pe_ix ix_list (pv 0) (pe_op op_add (pv 3) pe_int) (fun _ _ => rfl)) pa_nil)))))) pss_nil)))))
 (pss_one (ps_ret (pe_ifExp (pt_cmpR op_isN (pv 4) pe_non (nomark _)) pe_non (pe_op op_cat (pe_op op_cat (pe_slice sl_list (pv 0) po_none (po_some (pv 3))) (pv 4)) (pe_slice sl_list (pv 0) (po_some (pe_op op_add (pv 3) (pv 5))) po_none))))))))))), ?_⟩
  have lnR : ((ns.map V.int).length : Int) = ns.length := by rw [List.length_map]
  have sD : ∀ {x y : Str}, ¬ x = y → decide (V.str x = V.str y) = false := fun h => decide_eq_false fun z => h (V.str.inj z)
  rcases hN with ⟨at_, rfl, hc⟩ | ⟨at_, k, rfl, hc⟩
  · have hm : SqT K H m [.str nm, .int at_] := hm
    refine ⟨_, rfl, m, _, 0, _, rfl, rfl, hm, rfl, _, rfl, m, _, 1, _, rfl, rfl, hm, rfl, ?_⟩
    refine ⟨_, _, rfl, ?_⟩
    refine ⟨_, rfl, rfl, _, rfl, ?_⟩
    by_cases e1 : nm = "insert"
    · refine ite_yes (decide_eq_true (by rw [e1])) ⟨_, rfl, m, _, rfl, .inr hm, rfl, _, rfl, ite_no (by show decide (V.int 2 = V.int 3) = false; decide) (iteF ?_)⟩
      refine ⟨fun σ G => ∃ x : Int, σ = [some (.ref r), some (.ref m), some (.str nm), some (.int at_), some .non, some (.int x)] ∧ H = G, ?_, ?_⟩
      · refine ⟨_, rfl, rfl, _, rfl, ite2 (fun _ => ⟨_, rfl, rfl⟩) (fun _ => ⟨_, rfl, rfl⟩)⟩
      rintro σ G ⟨x, rfl, rfl⟩
      refine ⟨_, rfl, m, _, rfl, .inr hm, rfl, _, rfl, ite_no (by show (!decide (V.int 2 = V.int 2)) = false; decide) ?_⟩
      refine ⟨_, rfl, _, _, rfl, rfl, _, rfl, ite2 (fun c => iteT (q H (Same.refl _))) (fun c => ?_)⟩
      have c : ¬ at_ < 0 := fun z => c (decide_eq_true z)
      have hc : cdW nm = none := hc.resolve_right c
      refine ⟨_, rfl, _, rfl, _, _, rfl, rfl, _, rfl, r, _, rfl, .inl (SqL.here hR), _, _, rfl, rfl, _, rfl, ?_⟩
      refine ite2 (fun c1 => q H (Same.refl _)) (fun c1 => ?_)
      have n0 : nm ≠ "cancel" := fun z => by rw [z] at hc; exact absurd hc (by decide +kernel)
      have n1 : nm ≠ "swap" := fun z => by rw [z] at hc; exact absurd hc (by decide +kernel)
      have n2 : nm ≠ "braid" := fun z => by rw [z] at hc; exact absurd hc (by decide +kernel)
      refine ⟨fun σ G => σ = [some (.ref r), some (.ref m), some (.str nm), some (.int at_), some .non, some (.int x)] ∧ H = G, ?_, ?_⟩
      · refine ⟨_, rfl, rfl, _, rfl, ite_no (sD n0) (iteF ?_)⟩
        refine ⟨_, rfl, rfl, _, rfl, ite_no (sD n1) (iteF ?_)⟩
        exact ⟨_, rfl, rfl, _, rfl, ite_no (sD n2) ⟨rfl, rfl⟩⟩
      · rintro σ G ⟨rfl, rfl⟩
        exact ⟨_, rfl, rfl, _, rfl, ite_yes (decide_eq_true rfl) (q H (Same.refl _))⟩
    · refine ite_no (sD e1) (iteF ?_)
      refine ⟨fun σ G => ∃ x : Int, σ = [some (.ref r), some (.ref m), some (.str nm), some (.int at_), some .non, some (.int x)] ∧ H = G, ?_, ?_⟩
      · refine ⟨_, rfl, rfl, _, rfl, ite2 (fun _ => ⟨_, rfl, rfl⟩) (fun _ => ⟨_, rfl, rfl⟩)⟩
      rintro σ G ⟨x, rfl, rfl⟩
      refine ⟨_, rfl, m, _, rfl, .inr hm, rfl, _, rfl, ite_no (by show (!decide (V.int 2 = V.int 2)) = false; decide) ?_⟩
      refine ⟨_, rfl, _, _, rfl, rfl, _, rfl, ite2 (fun c => iteT (q H (Same.refl _))) (fun c => ?_)⟩
      have c : ¬ at_ < 0 := fun z => c (decide_eq_true z)
      have hc : cdW nm = none := hc.resolve_right c
      refine ⟨_, rfl, _, rfl, _, _, rfl, rfl, _, rfl, r, _, rfl, .inl (SqL.here hR), _, _, rfl, rfl, _, rfl, ?_⟩
      refine ite2 (fun c1 => q H (Same.refl _)) (fun c1 => ?_)
      have n0 : nm ≠ "cancel" := fun z => by rw [z] at hc; exact absurd hc (by decide +kernel)
      have n1 : nm ≠ "swap" := fun z => by rw [z] at hc; exact absurd hc (by decide +kernel)
      have n2 : nm ≠ "braid" := fun z => by rw [z] at hc; exact absurd hc (by decide +kernel)
      refine ⟨fun σ G => σ = [some (.ref r), some (.ref m), some (.str nm), some (.int at_), some .non, some (.int x)] ∧ H = G, ?_, ?_⟩
      · refine ⟨_, rfl, rfl, _, rfl, ite_no (sD n0) (iteF ?_)⟩
        refine ⟨_, rfl, rfl, _, rfl, ite_no (sD n1) (iteF ?_)⟩
        exact ⟨_, rfl, rfl, _, rfl, ite_no (sD n2) ⟨rfl, rfl⟩⟩
      · rintro σ G ⟨rfl, rfl⟩
        exact ⟨_, rfl, rfl, _, rfl, ite_yes (decide_eq_true rfl) (q H (Same.refl _))⟩
  · have hm : SqT K H m [.str nm, .int at_, .int k] := hm
    refine ⟨_, rfl, m, _, 0, _, rfl, rfl, hm, rfl, _, rfl, m, _, 1, _, rfl, rfl, hm, rfl, ?_⟩
    refine ⟨_, _, rfl, ?_⟩
    refine ⟨_, rfl, rfl, _, rfl, ?_⟩
    by_cases e1 : nm = "insert"
    · refine ite_yes (decide_eq_true (by rw [e1])) ⟨_, rfl, m, _, rfl, .inr hm, rfl, _, rfl, ite_yes (by show decide (V.int 3 = V.int 3) = true; decide) ?_⟩
      by_cases e2 : 0 ≤ at_
      · by_cases e3 : at_ ≤ ns.length
        · refine ⟨_, rfl, _, _, rfl, rfl, _, rfl, ite_yes (decide_eq_true e2) ⟨_, rfl, r, _, rfl, .inl (SqL.here hR), _, _, rfl, rfl, _, rfl, ite_yes (decide_eq_true (by rw [lnR]; exact e3)) ?_⟩⟩
          by_cases e4 : 0 < ab k
          · have e5 : ¬ ab k < 41 := fun z => hc ⟨e1, e2, e3, e4, z⟩
            refine ⟨_, rfl, m, _, 2, _, rfl, rfl, hm, rfl, _, rfl, _, _, rfl, rfl, _, rfl, ite_yes (decide_eq_true e4) ⟨_, _, rfl, rfl, _, rfl, ite_no (decide_eq_false e5) ?_⟩⟩
            refine ⟨fun σ G => ∃ x : Int, σ = [some (.ref r), some (.ref m), some (.str nm), some (.int at_), some .non, some (.int x)] ∧ H = G, ?_, ?_⟩
            · refine ⟨_, rfl, rfl, _, rfl, ite2 (fun _ => ⟨_, rfl, rfl⟩) (fun _ => ⟨_, rfl, rfl⟩)⟩
            rintro σ G ⟨x, rfl, rfl⟩
            refine ⟨_, rfl, m, _, rfl, .inr hm, rfl, _, rfl, ite_yes (by show (!decide (V.int 3 = V.int 2)) = true; decide) (iteT ?_)⟩
            exact q H (Same.refl _)
          · refine ⟨_, rfl, m, _, 2, _, rfl, rfl, hm, rfl, _, rfl, _, _, rfl, rfl, _, rfl, ite_no (decide_eq_false e4) ⟨_, rfl, iteF ?_⟩⟩
            refine ⟨fun σ G => ∃ x : Int, σ = [some (.ref r), some (.ref m), some (.str nm), some (.int at_), some .non, some (.int x)] ∧ H = G, ?_, ?_⟩
            · refine ⟨_, rfl, rfl, _, rfl, ite2 (fun _ => ⟨_, rfl, rfl⟩) (fun _ => ⟨_, rfl, rfl⟩)⟩
            rintro σ G ⟨x, rfl, rfl⟩
            refine ⟨_, rfl, m, _, rfl, .inr hm, rfl, _, rfl, ite_yes (by show (!decide (V.int 3 = V.int 2)) = true; decide) (iteT ?_)⟩
            exact q H (Same.refl _)
        · refine ⟨_, rfl, _, _, rfl, rfl, _, rfl, ite_yes (decide_eq_true e2) ⟨_, rfl, r, _, rfl, .inl (SqL.here hR), _, _, rfl, rfl, _, rfl, ite_no (decide_eq_false (by rw [lnR]; exact e3)) (iteF ?_)⟩⟩
          refine ⟨fun σ G => ∃ x : Int, σ = [some (.ref r), some (.ref m), some (.str nm), some (.int at_), some .non, some (.int x)] ∧ H = G, ?_, ?_⟩
          · refine ⟨_, rfl, rfl, _, rfl, ite2 (fun _ => ⟨_, rfl, rfl⟩) (fun _ => ⟨_, rfl, rfl⟩)⟩
          rintro σ G ⟨x, rfl, rfl⟩
          refine ⟨_, rfl, m, _, rfl, .inr hm, rfl, _, rfl, ite_yes (by show (!decide (V.int 3 = V.int 2)) = true; decide) (iteT ?_)⟩
          exact q H (Same.refl _)
      · refine ⟨_, rfl, _, _, rfl, rfl, _, rfl, ite_no (decide_eq_false e2) ⟨_, rfl, iteF (iteF ?_)⟩⟩
        refine ⟨fun σ G => ∃ x : Int, σ = [some (.ref r), some (.ref m), some (.str nm), some (.int at_), some .non, some (.int x)] ∧ H = G, ?_, ?_⟩
        · refine ⟨_, rfl, rfl, _, rfl, ite2 (fun _ => ⟨_, rfl, rfl⟩) (fun _ => ⟨_, rfl, rfl⟩)⟩
        rintro σ G ⟨x, rfl, rfl⟩
        refine ⟨_, rfl, m, _, rfl, .inr hm, rfl, _, rfl, ite_yes (by show (!decide (V.int 3 = V.int 2)) = true; decide) (iteT ?_)⟩
        exact q H (Same.refl _)
    · refine ite_no (sD e1) (iteF ?_)
      refine ⟨fun σ G => ∃ x : Int, σ = [some (.ref r), some (.ref m), some (.str nm), some (.int at_), some .non, some (.int x)] ∧ H = G, ?_, ?_⟩
      · refine ⟨_, rfl, rfl, _, rfl, ite2 (fun _ => ⟨_, rfl, rfl⟩) (fun _ => ⟨_, rfl, rfl⟩)⟩
      rintro σ G ⟨x, rfl, rfl⟩
      refine ⟨_, rfl, m, _, rfl, .inr hm, rfl, _, rfl, ite_yes (by show (!decide (V.int 3 = V.int 2)) = true; decide) (iteT ?_)⟩
      exact q H (Same.refl _)
theorem ok__law_moveX {f1 f2 : Addr} {e1 e2 : FuncData} (d : D K mg "_law_move" s__law_move ["_law_row", "_law_move_here"] f fd) (B : Blt mg) (BW : BltW mg) (d__law_sign : D K mg "_law_sign" s__law_sign ["_law_number"] f1 e1) (d__law_braided : D K mg "_law_braided" s__law_braided ["_law_first", "_law_second", "_law_third"] f2 e2) : FnOk P w K mg base CX0 3 f fd ["_law_row", "_law_move_here"] (spMoveX K) := by
  refine (fn_or (ok__law_move d B BW d__law_sign d__law_braided) (ok__law_moveN d B BW d__law_sign d__law_braided)).imp fun vs H Q E h => ?_
  obtain ⟨r, m, ns, nm, args, rfl, hR, hl, hm, ha, q⟩ := h
  match args, ha, hm, q with
  | [at_], _, hm, q =>
    by_cases h0 : 0 ≤ at_
    · cases hc : cdW nm with
      | some u =>
        obtain ⟨rfl, hu⟩ := cdW_mw hc
        rw [mvX_two hc h0] at q
        exact .inl ⟨r, m, ns, _, rfl, hR, hl, .two u at_.toNat hu (by rw [Int.toNat_of_nonneg h0]; exact hm), q⟩
      | none => 
        rw [mvX_no (.inl hc)] at q
        exact .inr ⟨r, m, ns, nm, [at_], rfl, hR, hl, hm, .inl ⟨at_, rfl, .inl hc⟩, fun H' sm => q .non H' sm rfl⟩
    · rw [mvX_no (.inr (by omega))] at q
      exact .inr ⟨r, m, ns, nm, [at_], rfl, hR, hl, hm, .inl ⟨at_, rfl, .inr (by omega)⟩, fun H' sm => q .non H' sm rfl⟩
  | [at_, k], _, hm, q =>
    by_cases h : nm = "insert" ∧ 0 ≤ at_ ∧ at_ ≤ ns.length ∧ 0 < ab k ∧ ab k < 41
    · obtain ⟨rfl, h0, h1, h2, h3⟩ := h
      rw [mvX_ins h0 h1 h2 h3] at q
      exact .inl ⟨r, m, ns, _, rfl, hR, hl, .ins at_.toNat k (by omega) h2 h3 (by rw [Int.toNat_of_nonneg h0]; exact hm), q⟩
    · rw [mvX_insN h] at q
      exact .inr ⟨r, m, ns, nm, [at_, k], rfl, hR, hl, hm, .inr ⟨at_, k, rfl, h⟩, fun H' sm => q .non H' sm rfl⟩
  | [], h, _, _ => exact absurd h (by decide)
  | _ :: _ :: _ :: _, h, _, _ => rcases h with h | h <;> (rw [List.length_cons, List.length_cons, List.length_cons] at h; omega)

abbrev s__law_apply_moves : Stmt := top 63
theorem sc__law_apply_moves : FnScope ["_law_row", "_law_moves", "_law_current", "_law_move_here"] ["_law_row", "_law_moves"] (defScope s__law_apply_moves) := ⟨rfl, rfl, rfl, by decide +kernel, rfl, by decide +kernel, by decide +kernel⟩
theorem ok__law_apply_moves {f1 f2 f3 : Addr} {e1 e2 e3 : FuncData} (d : D K mg "_law_apply_moves" s__law_apply_moves ["_law_row", "_law_moves"] f fd) (B : Blt mg) (BW : BltW mg) (d__law_sign : D K mg "_law_sign" s__law_sign ["_law_number"] f1 e1) (d__law_braided : D K mg "_law_braided" s__law_braided ["_law_first", "_law_second", "_law_third"] f2 e2) (d__law_move : D K mg "_law_move" s__law_move ["_law_row", "_law_move_here"] f3 e3) : FnOk P w K mg base CX0 4 f fd ["_law_row", "_law_moves"] (spLApX K) := by
  have G__law_move : FnOk P w K mg base CX0 3 f3 e3 ["_law_row", "_law_move_here"] (spMoveX K) := ok__law_moveX d__law_move B BW d__law_sign d__law_braided
  refine d.F.ok sc__law_apply_moves (fun vs H Q E h => ?_) (fun cdv A outer s H vs Q E hr h => ?_)
  · obtain ⟨_, _, _, _, _, rfl, _⟩ := h
    rfl
  obtain ⟨a, b, ns, us, ms, rfl, hw, hb, hM, hA, hu, hl, q, qN⟩ := h
  refine ⟨_, (pss_cons (ps_set (i := 2) sc__law_apply_moves.nd rfl (Or.inl rfl) (pe_callTy call_list_of (by rfl) B.list (by decide +kernel) (pa_cons (pv 0) pa_nil)))
 (pss_cons (ps_for PassesOwn.never rfl (pi_list (pv 1)) (pg_name (i := 3) sc__law_apply_moves.nd rfl (Or.inl rfl))
  (pss_cons (ps_set (i := 2) sc__law_apply_moves.nd rfl (Or.inl rfl) (pe_ifExp (PW.pt (pw_and (pt_val (pe_callB call_isi (by rfl) B.isinstance (by decide +kernel) (pa_cons (pv 3) (pa_cons (pe_bltn (v := .ty "tuple") (by rfl) B.tuple (by decide +kernel) rfl) pa_nil)))) (pw_and1 (pt_cmpR op_gt (pe_callB call_len_seq (by rfl) B.len PySem.boot_len (pa_cons (pv 3) pa_nil)) pe_int (nomark _))))) (pe_call G__law_move (hr.mono (by decide)) rfl d__law_move.m d__law_move.F.kp d__law_move.b .nil pass0 (pa_cons (pv 2) (pa_cons (pv 3) pa_nil))) pe_non))
 (pss_one (ps_if (pt_cmpR op_isN (pv 2) pe_non (nomark _)) (pss_one (ps_ret pe_non)) pss_nil))))
 (pss_one (ps_ret (pe_callTy call_tuple_of (by rfl) B.tuple (by decide +kernel) (pa_cons (pv 2) pa_nil)))))), ?_⟩
  refine ⟨_, rfl, a, _, rfl, .inr hw, fun c nc => ?_⟩
  have s1 := Same.new nc (.lst (ns.map V.int))
  refine ⟨_, rfl, b, rfl, ⟨_, SqL.here (s1 _ _ hb)⟩, for_list (xs := us) (fun i σ G => ∃ (x3 : Option V) (c : Addr) (cur : List Int), σ = [some (.ref a), some (.ref b), some (.ref c), x3] ∧ Same H G ∧ G c = some (.lst (cur.map V.int)) ∧ cur.length ≤ ns.length + 2 * i ∧ runX (ms.drop i) i cur = runX ms 0 ns)
    ⟨none, c, ns, rfl, s1, upd_same, by omega, rfl⟩ (fun i σ G _ ⟨_, _, _, _, sm, _⟩ => SqL.here (sm _ _ hb)) ?_ ?_⟩
  · rintro i x σ G hx ⟨x3, c, cur, rfl, sm, hc, hlc, hrun⟩
    have hi : i < us.length := (List.getElem?_eq_some_iff.mp hx).1
    have hi2 : i < ms.length := by rw [← hM.1]; exact hi
    have hm : ms[i]? = some ms[i] := List.getElem?_eq_getElem hi2
    obtain ⟨p, rfl, hp⟩ := hM.2 i x _ hx hm
    have ha := hA _ (List.getElem_mem hi2)
    rw [List.drop_eq_getElem_cons hi2] at hrun
    generalize ms[i] = m at *
    obtain ⟨nm, args⟩ := m
    have ha : args.length ≤ 2 := ha
    have hrun : (match mvX nm args cur with | none => Except.error i | some r => runX (ms.drop (i + 1)) (i + 1) r) = runX ms 0 ns := hrun
    have hpG := (Tp.same sm).sqT hp
    have hlen : ((V.str nm :: args.map V.int).length : Int) = args.length + 1 := by
      rw [List.length_cons, List.length_map]
      omega
    refine ⟨_, rfl, _, _, _, _, true, rfl, .ty "tuple", tyx_tup hpG, kit_ty (by decide +kernel), true, rfl, iteT ?_⟩
    refine ⟨_, rfl, p, _, rfl, .inr hpG, _, _, rfl, rfl, _, rfl, ?_⟩
    rw [hlen]
    refine ite2 (fun c1 => ?_) (fun c1 => ?_)
    · have c1 : ((args.length : Nat) : Int) + 1 > 1 := of_decide_eq_true c1
      refine ⟨_, rfl, _, rfl, c, p, cur, nm, args, rfl, hc, by omega, hpG, by omega, fun v H2 s2 hv => ?_⟩
      cases e : mvX nm args cur with
      | none =>
        rw [e] at hv hrun
        have hv : v = .non := hv
        subst hv
        refine ⟨_, rfl, rfl, _, rfl, ite_yes (decide_eq_true rfl) ?_⟩
        exact qN i hrun.symm _ (sm.trans s2)
      | some r2 =>
        rw [e] at hv hrun
        obtain ⟨q2, rfl, _, hq2⟩ := hv
        have hl2 := mvX_len e
        refine ⟨_, rfl, rfl, _, rfl, ite_no (decide_eq_false (fun z => by cases z)) ?_⟩
        exact ⟨_, q2, r2, rfl, sm.trans s2, hq2, by omega, hrun⟩
    · have c1 : ¬ ((args.length : Nat) : Int) + 1 > 1 := fun z => c1 (decide_eq_true z)
      have e : mvX nm args cur = none := by
        match args, c1 with
        | [], _ => rfl
        | _ :: _, c1 => exact absurd (by rw [List.length_cons]; omega) c1
      rw [e] at hrun
      refine ⟨_, rfl, rfl, _, rfl, ite_yes (decide_eq_true rfl) ?_⟩
      exact qN i hrun.symm _ sm
  · rintro σ G ⟨x3, c, cur, rfl, sm, hc, hlc, hrun⟩
    rw [hM.1, List.drop_length] at hrun
    have hrun : Except.ok cur = runX ms 0 ns := hrun
    refine ⟨_, rfl, c, _, rfl, .inl ⟨SqL.here hc, fun p np => ?_⟩⟩
    exact q cur hrun.symm p _ (SqT.here upd_same) (sm.trans (Same.new np _))

abbrev s__law_joint_word : Stmt := top 64
theorem sc__law_joint_word : FnScope ["_law_one", "_law_other"] ["_law_one", "_law_other"] (defScope s__law_joint_word) := ⟨rfl, rfl, rfl, by decide +kernel, rfl, by decide +kernel, by decide +kernel⟩
theorem ok__law_joint_word {f1 f2 f3 f4 : Addr} {e1 e2 e3 e4 : FuncData} (d : D K mg "_law_joint_word" s__law_joint_word ["_law_one", "_law_other"] f fd) (B : Blt mg) (d__law_sign : D K mg "_law_sign" s__law_sign ["_law_number"] f1 e1) (d__law_shift : D K mg "_law_shift" s__law_shift ["_law_row", "_law_step"] f2 e2) (d__law_inverse : D K mg "_law_inverse" s__law_inverse ["_law_row"] f3 e3) (d__law_word : D K mg "_law_word" s__law_word ["_law_term_here"] f4 e4) : FnOk P w K mg base CX0 10 f fd ["_law_one", "_law_other"] (spJoint K) := by
  have G__law_word : FnOk P w K mg base CX0 9 f4 e4 ["_law_term_here"] (spWd K lwd 7) := ok__law_word d__law_word B d__law_sign d__law_shift d__law_inverse 7
  have G__law_inverse : FnOk P w K mg base CX0 1 f3 e3 ["_law_row"] (spWW K inv) := ok__law_inverse d__law_inverse B
  refine d.F.ok sc__law_joint_word (fun vs H Q E h => ?_) (fun cdv A outer s H vs Q E hr h => ?_)
  · obtain ⟨_, _, _, _, rfl, _⟩ := h
    rfl
  obtain ⟨x, y, a, b, rfl, ha, hb, az, ad, bz, bd, q⟩ := h
  refine ⟨_, (pss_one (ps_ret (pe_op op_catA (pe_call G__law_inverse (hr.mono (by decide)) rfl d__law_inverse.m d__law_inverse.F.kp d__law_inverse.b .nil pass0 (pa_cons (pe_call G__law_word (hr.mono (by decide)) rfl d__law_word.m d__law_word.F.kp d__law_word.b .nil pass0 (pa_cons (pv 0) pa_nil)) pa_nil)) (pe_call G__law_word (hr.mono (by decide)) rfl d__law_word.m d__law_word.F.kp d__law_word.b .nil pass0 (pa_cons (pv 1) pa_nil))))), ?_⟩
  have la := wd_len ad az
  have lb := wd_len bd bz
  refine ⟨_, rfl, x, a, rfl, ha, by omega, ad, az, fun p1 H1 s1 w1 => ?_⟩
  rw [lwd_eq] at w1
  refine ⟨p1, wd a, rfl, w1, by omega, fun p2 H2 s2 w2 => ?_⟩
  refine ⟨_, rfl, y, b, rfl, ta_mono (Tp.same (s1.trans s2)) hb, by omega, bd, bz, fun p3 H3 s3 w3 => ?_⟩
  rw [lwd_eq] at w3
  refine cat_w ((Tp.same s3).sqT w2) w3 (by rw [inv_len]; omega) fun p4 H4 s4 w4 => ?_
  exact q p4 H4 (s1.trans (s2.trans (s3.trans s4))) w4

abbrev s__law_check : Stmt := top 65
theorem sc__law_check : FnScope ["_law_one", "_law_other", "_law_told", "_law_word_here", "_law_moves", "_law_last", "_law_current"] ["_law_one", "_law_other", "_law_told"] (defScope s__law_check) := ⟨rfl, rfl, rfl, by decide +kernel, rfl, by decide +kernel, by decide +kernel⟩
theorem ok__law_check {f1 f2 : Addr} {e1 e2 : FuncData} (d : D K mg "_law_check" s__law_check ["_law_one", "_law_other", "_law_told"] f fd) (B : Blt mg) (d__law_joint_word : D K mg "_law_joint_word" s__law_joint_word ["_law_one", "_law_other"] f1 e1) (d__law_apply_moves : D K mg "_law_apply_moves" s__law_apply_moves ["_law_row", "_law_moves"] f2 e2) (G__law_joint_word : FnOk P w K mg base CX0 10 f1 e1 ["_law_one", "_law_other"] (spJoint K)) (G__law_apply_moves : FnOk P w K mg base CX0 4 f2 e2 ["_law_row", "_law_moves"] (spLApX K)) : FnOk P w K mg base CX0 11 f fd ["_law_one", "_law_other", "_law_told"] (spLChk K) := by
  refine d.F.ok sc__law_check (fun vs H Q E h => ?_) (fun cdv A outer s H vs Q E hr h => ?_)
  · obtain ⟨_, _, _, _, _, _, _, _, _, _, _, rfl, _⟩ := h
    rfl
  obtain ⟨x, y, a, b, t, m, l, w, us, ms, last, rfl, ha, hb, az, ad, bz, bd, ht, hm, hM, hA, hu, hl, hw, q⟩ := h
  refine ⟨_, (pss_cons (ps_asg (pv 2) (pg_tup (by rfl) (pgs_cons (pg_name (i := 3) sc__law_check.nd rfl (Or.inl rfl)) (pgs_cons (pg_name (i := 4) sc__law_check.nd rfl (Or.inl rfl)) (pgs_cons (pg_name (i := 5) sc__law_check.nd rfl (Or.inl rfl)) pgs_nil)))))
 (pss_cons (ps_set (i := 6) sc__law_check.nd rfl (Or.inl rfl) (pe_call G__law_apply_moves (hr.mono (by decide)) rfl d__law_apply_moves.m d__law_apply_moves.F.kp d__law_apply_moves.b .nil pass0 (pa_cons (pe_call G__law_joint_word (hr.mono (by decide)) rfl d__law_joint_word.m d__law_joint_word.F.kp d__law_joint_word.b .nil pass0 (pa_cons (pv 0) (pa_cons (pv 1) pa_nil))) (pa_cons (pv 4) pa_nil))))
 (pss_cons (ps_if (PW.pt (pw_or (pt_cmpR op_isN (pv 6) pe_non (nomark _)) (pw_or1 (pt_cmpR (op_neD hr.units) (pv 6) (pv 5) (nomark _))))) (pss_one (ps_ret pe_bl)) pss_nil)
 (pss_cons (ps_if (pt_cmpR op_eq (pv 3) pe_str (nomark _)) (pss_one (ps_ret (pe_cmpR op_eq (pe_callB call_len_seq (by rfl) B.len PySem.boot_len (pa_cons (pv 5) pa_nil)) pe_int (nomark _)))) pss_nil)
 (pss_cons (ps_if (pt_cmpR op_eq (pv 3) pe_str (nomark _)) (pss_one (ps_ret (pe_and (pe_cmpR op_in_seq pe_int (pv 5) (by with_unfolding_all rfl)) (pe_one (pe_cmpR op_notIn_seq (pe_un un_neg pe_int) (pv 5) (by with_unfolding_all rfl)))))) pss_nil)
 (pss_one (ps_ret (pe_and (pe_cmpR op_eq (pv 3) pe_str (nomark _)) (pe_and (pe_cmpR op_in_seq (pe_un un_neg pe_int) (pv 5) (by with_unfolding_all rfl)) (pe_one (pe_cmpR op_notIn_seq pe_int (pv 5) (by with_unfolding_all rfl)))))))))))), ?_⟩
  refine ⟨_, rfl, t, _, rfl, ht, rfl, _, _, rfl, _, _, rfl, _, _, rfl, rfl, ?_⟩
  refine ⟨_, rfl, _, rfl, x, y, a, b, rfl, ha, hb, az, ad, bz, bd, fun p1 H1 s1 w1 => ?_⟩
  refine ⟨_, rfl, p1, m, _, us, ms, rfl, w1, s1 _ _ hm, hM.tp (Tp.same s1), hA, hu, hl, fun r hrun p2 H2 w2 s2 => ?_, fun j hrun H2 s2 => ?_⟩
  · have s12 := s1.trans s2
    have wl := (Tp.same s12).sqT hw
    have q : Q (.bl (decide (r = last) && decide (V.str w = shV last))) H2 := by
      have q := q H2 s12
      unfold ckD at q
      rw [hrun] at q
      exact q
    refine ⟨_, rfl, rfl, _, rfl, iteF ?_⟩
    refine ⟨_, rfl, _, rfl, wD r, wD last, dp_wt w2, dp_wt wl, wD_shaped r, wD_shaped last, _, rfl, ?_⟩
    rw [wD_eqv]
    by_cases e : r = last
    · rw [decide_eq_true e, Bool.true_and] at q
      refine ite_no (by rw [decide_eq_true e]; rfl) ?_
      refine ⟨_, rfl, rfl, _, rfl, ite2 (fun c => ?_) (fun c1 => ?_)⟩
      · cases V.str.inj (of_decide_eq_true c)
        rw [shV_equal] at q
        refine ⟨_, rfl, l, _, rfl, .inr wl, rfl, ?_⟩
        rw [List.length_map, show decide (V.int ((last.length : Nat) : Int) = V.int 0) = decide (((last.length : Nat) : Int) = 0) from decide_eq_decide.mpr ⟨fun z => V.int.inj z, fun z => congrArg V.int z⟩]
        exact q
      refine ⟨_, rfl, rfl, _, rfl, ite2 (fun c => ?_) (fun c2 => ?_)⟩
      · cases V.str.inj (of_decide_eq_true c)
        rw [shV_less] at q
        unfold lessR at q
        refine ⟨_, rfl, l, _, rfl, .inr wl, rfl, flat_i last, _, rfl, ?_⟩
        cases k1 : last.contains 1 with
        | true =>
          rw [k1] at q
          refine ite_yes ((inV_i 1 last).trans k1) ⟨_, rfl, _, rfl, l, _, rfl, .inr wl, rfl, flat_i last, ?_⟩
          have e2 := inV_i (-1) last
          have e4 : Q (.bl (!inV (V.int (-1)) (last.map V.int))) H2 := by rw [e2]; exact q
          exact e4
        | false =>
          rw [k1] at q
          exact ite_no ((inV_i 1 last).trans k1) q
      have n1 : w ≠ "equal" := fun z => c1 (decide_eq_true (congrArg V.str z))
      have n2 : w ≠ "less" := fun z => c2 (decide_eq_true (congrArg V.str z))
      refine ⟨_, rfl, rfl, _, rfl, ite2 (fun c => ?_) (fun c3 => ?_)⟩
      · cases V.str.inj (of_decide_eq_true c)
        rw [shV_great] at q
        unfold grR at q
        refine ⟨_, rfl, _, rfl, l, _, rfl, .inr wl, rfl, flat_i last, _, rfl, ?_⟩
        cases k1 : last.contains (-1) with
        | true =>
          rw [k1] at q
          refine ite_yes ((inV_i (-1) last).trans k1) ⟨_, rfl, l, _, rfl, .inr wl, rfl, flat_i last, ?_⟩
          have e2 := inV_i 1 last
          have e4 : Q (.bl (!inV (V.int 1) (last.map V.int))) H2 := by rw [e2]; exact q
          exact e4
        | false =>
          rw [k1] at q
          exact ite_no ((inV_i (-1) last).trans k1) q
      · have n3 : w ≠ "greater" := fun z => c3 (decide_eq_true (congrArg V.str z))
        rw [shV_other last n1 n2 n3] at q
        exact q
    · rw [decide_eq_false e, Bool.false_and] at q
      exact ite_yes (by rw [decide_eq_false e]; rfl) q
  · refine ⟨_, rfl, rfl, _, rfl, ite_yes (decide_eq_true rfl) ?_⟩
    have q := q H2 (s1.trans s2)
    unfold ckD at q
    rw [hrun] at q
    exact q

abbrev s__law_pair : Stmt := top 66
theorem sc__law_pair : FnScope ["_law_rng", "_law_top", "_law_one", "_law_way", "_law_other"] ["_law_rng", "_law_top"] (defScope s__law_pair) := ⟨rfl, rfl, rfl, by decide +kernel, rfl, by decide +kernel, by decide +kernel⟩
theorem ok__law_pair {f1 f2 f3 f4 f5 f6 f7 f8 f9 g1 g2 g3 g4 g5 g6 g7 : Addr} {e1 e2 e3 e4 e5 e6 e7 e8 e9 i1 i2 i3 i4 i5 i6 i7 : FuncData} (d : D K mg "_law_pair" s__law_pair ["_law_rng", "_law_top"] f fd) (B : Blt mg) (d__law_draw : D K mg "_law_draw" s__law_draw ["_law_rng", "_law_amount"] g1 i1) (d__law_pick : D K mg "_law_pick" s__law_pick ["_law_rng", "_law_terms"] g2 i2) (d__law_comb : D K mg "_law_comb" s__law_comb ["_law_many", "_law_onleft"] g4 i4) (d__law_term : D K mg "_law_term" s__law_term ["_law_rng", "_law_many", "_law_cap"] g5 i5) (d__law_any_term : D K mg "_law_any_term" s__law_any_term ["_law_rng", "_law_top"] g6 i6) (d__law_rewritten : D K mg "_law_rewritten" s__law_rewritten ["_law_rng", "_law_term_here", "_law_turns", "_law_top"] g7 i7) (d__law_size : D K mg "_law_size" s__law_size ["_law_term_here"] f7 e7) (d__law_depth : D K mg "_law_depth" s__law_depth ["_law_term_here"] f8 e8) (d__law_fits : D K mg "_law_fits" s__law_fits ["_law_term_here", "_law_top"] g3 i3)
    (d__law_steps : D K mg "_law_steps" s__law_steps ["_law_term_here"] f9 e9) (d__law_paths : D K mg "_law_paths" s__law_paths ["_law_term_here", "_law_spot"] f6 e6) (d__law_rewrite : D K mg "_law_rewrite" s__law_rewrite ["_law_term_here", "_law_spot", "_law_onward"] f5 e5) (d__law_subterm : D K mg "_law_subterm" s__law_subterm ["_law_term_here", "_law_spot"] f1 e1) (d__law_expanded : D K mg "_law_expanded" s__law_expanded ["_law_some"] f2 e2)
    (d__law_replace : D K mg "_law_replace" s__law_replace ["_law_term_here", "_law_spot", "_law_new"] f3 e3) (d__law_contracted : D K mg "_law_contracted" s__law_contracted ["_law_some"] f4 e4) : FnOk P w K mg base CX0 14 f fd ["_law_rng", "_law_top"] (spPair32 K) := by
  have G__law_draw : FnOk P w K mg base CX0 1 g1 i1 ["_law_rng", "_law_amount"] spDrawC := ok__law_drawC d__law_draw B
  have G__law_fits : FnOk P w K mg base CX0 10 g3 i3 ["_law_term_here", "_law_top"] (spFits K) := ok__law_fits d__law_fits B d__law_size d__law_depth
  have G__law_any_term : FnOk P w K mg base CX0 9 g6 i6 ["_law_rng", "_law_top"] (spAnyC K) := ok__law_any_termC d__law_any_term B d__law_draw d__law_comb d__law_term
  have G__law_rewritten : FnOk P w K mg base CX0 13 g7 i7 ["_law_rng", "_law_term_here", "_law_turns", "_law_top"] (spRwR K) := ok__law_rewrittenR d__law_rewritten B d__law_draw d__law_pick d__law_size d__law_depth d__law_fits d__law_steps d__law_paths d__law_rewrite d__law_subterm d__law_expanded d__law_replace d__law_contracted
  refine d.F.ok sc__law_pair (fun vs H Q E h => ?_) (fun cdv A outer s H vs Q E hr h => ?_)
  · obtain ⟨_, _, rfl, _⟩ := h
    rfl
  obtain ⟨r, c, rfl, hR, q⟩ := h
  refine ⟨_, (pss_cons (ps_set (i := 2) sc__law_pair.nd rfl (Or.inl rfl) (pe_call G__law_any_term (hr.mono (by decide)) rfl d__law_any_term.m d__law_any_term.F.kp d__law_any_term.b .nil pass0 (pa_cons (pv 0) (pa_cons (pv 1) pa_nil))))
 (pss_cons (ps_set (i := 3) sc__law_pair.nd rfl (Or.inl rfl) (pe_call G__law_draw (hr.mono (by decide)) rfl d__law_draw.m d__law_draw.F.kp d__law_draw.b .nil pass0 (pa_cons (pv 0) (pa_cons pe_int pa_nil))))
 (pss_cons (ps_if (pt_cmpR op_eq (pv 3) pe_int (nomark _)) (pss_one (ps_ret (pe_tup (pa_cons (pv 2) (pa_cons (pe_call G__law_rewritten (hr.mono (by decide)) rfl d__law_rewritten.m d__law_rewritten.F.kp d__law_rewritten.b .nil pass0 (pa_cons (pv 0) (pa_cons (pv 2) (pa_cons (pe_op op_add pe_int (pe_call G__law_draw (hr.mono (by decide)) rfl d__law_draw.m d__law_draw.F.kp d__law_draw.b .nil pass0 (pa_cons (pv 0) (pa_cons pe_int pa_nil)))) (pa_cons (pe_op op_add (pv 1) pe_int) pa_nil))))) pa_nil))))) pss_nil)
 (pss_cons (ps_if (pt_cmpR op_eq (pv 3) pe_int (nomark _)) (pss_cons (ps_set (i := 4) sc__law_pair.nd rfl (Or.inl rfl) (pe_call G__law_rewritten (hr.mono (by decide)) rfl d__law_rewritten.m d__law_rewritten.F.kp d__law_rewritten.b .nil pass0 (pa_cons (pv 0) (pa_cons (pv 2) (pa_cons (pe_call G__law_draw (hr.mono (by decide)) rfl d__law_draw.m d__law_draw.F.kp d__law_draw.b .nil pass0 (pa_cons (pv 0) (pa_cons pe_int pa_nil))) (pa_cons (pv 1) pa_nil))))))
 (pss_one (ps_ret (pe_tup (pa_cons (pv 2) (pa_cons (pe_ifExp (pt_val (pe_call G__law_fits (hr.mono (by decide)) rfl d__law_fits.m d__law_fits.F.kp d__law_fits.b .nil pass0 (pa_cons (pe_tup (pa_cons (pv 4) (pa_cons (pe_tup (pa_cons (pe_tup pa_nil) (pa_cons (pe_tup pa_nil) pa_nil))) pa_nil))) (pa_cons (pe_op op_add (pv 1) pe_int) pa_nil)))) (pe_tup (pa_cons (pv 4) (pa_cons (pe_call G__law_any_term (hr.mono (by decide)) rfl d__law_any_term.m d__law_any_term.F.kp d__law_any_term.b .nil pass0 (pa_cons (pv 0) (pa_cons pe_int pa_nil))) pa_nil))) (pe_tup pa_nil)) pa_nil)))))) pss_nil)
 (pss_one (ps_ret (pe_tup (pa_cons (pv 2) (pa_cons (pe_call G__law_any_term (hr.mono (by decide)) rfl d__law_any_term.m d__law_any_term.F.kp d__law_any_term.b .nil pass0 (pa_cons (pv 0) (pa_cons (pv 1) pa_nil))) pa_nil))))))))), ?_⟩
  refine ⟨_, rfl, _, rfl, r, 6, c, rfl, by decide, by decide, hR, fun v t H1 a1 z1 p1 R1 b1 => ?_⟩
  have hz : t.sz ≤ 12 := by omega
  have z1' : t.sz ≤ 6 := by omega
  obtain ⟨S8, S6, CL⟩ := cl32_of z1'
  refine ⟨_, rfl, r, 4, c, rfl, R1, by decide, by decide, fun way H2 w0 w1 R2 b2 => ?_⟩
  have a2 := ta_mono (R1.tp b2) a1
  have b12 := b1.trans b2
  refine ⟨_, rfl, rfl, _, rfl, ite2 (fun c1 => ?_) (fun c1 => ?_)⟩
  · refine ⟨_, rfl, _, rfl, _, rfl, _, rfl, r, 6, c, rfl, R2, by decide, by decide, fun k H3 k0 k1 R3 b3 => ⟨_, _, rfl, rfl, _, rfl, _, _, rfl, rfl, ?_⟩⟩
    have a3 := ta_mono (R2.tp b3) a2
    refine ⟨fun u => u ∈ S8 ∧ u.sz ≤ 8, r, c, v, t, 1 + k, 8, rfl, R3, a3, p1, hz, by omega, by omega, by omega, ⟨CL.s8, by omega⟩, fun u u' pt on hu hw hs hd => ⟨CL.n8 u u' pt on hu.1 hw (by omega) hd, by omega⟩, fun y u H4 a4 hu p4 z4 R4 b4 => ⟨two_le, fun pp np => ?_⟩⟩
    have s5 := Same.new np (.tup [v, y])
    exact q pp v y t u _ (SqT.here upd_same) (ta_mono (Tp.same s5) (ta_mono (R3.tp b4) a3)) (ta_mono (Tp.same s5) a4) z1' p1 hu.2 p4 (CL.r8 u hu.1) (R4.same s5) ((b12.trans b3).trans (b4.trans (But.same s5)))
  refine ⟨_, rfl, rfl, _, rfl, ite2 (fun c2 => ?_) (fun c2 => ?_)⟩
  · refine ⟨_, rfl, _, rfl, _, rfl, r, 4, c, rfl, R2, by decide, by decide, fun k H3 k0 k1 R3 b3 => ⟨_, rfl, ?_⟩⟩
    have a3 := ta_mono (R2.tp b3) a2
    refine ⟨fun u => u ∈ S6 ∧ u.sz ≤ 6, r, c, v, t, k, 6, rfl, R3, a3, p1, hz, by omega, by omega, by omega, ⟨CL.s6, z1'⟩, fun u u' pt on hu hw hs hd => ⟨CL.n6 u u' pt on hu.1 hw (by omega) hd, by omega⟩, fun y u H4 a4 hu p4 z4 R4 b4 => ?_⟩
    have t4 := ta_mono (R3.tp b4) a3
    have b14 := (b12.trans b3).trans b4
    obtain ⟨hu5, hu⟩ := hu
    refine ⟨_, rfl, _, rfl, zero_le', fun m1 nm1 => ⟨zero_le', fun m2 nm2 => ⟨two_le, fun m3 nm3 => ⟨two_le, fun m4 nm4 => ?_⟩⟩⟩⟩
    have w1 := Same.new nm1 (.tup [])
    have w2 := Same.new nm2 (.tup [])
    have w3 := Same.new nm3 (.tup [.ref m1, .ref m2])
    have w4 := Same.new nm4 (.tup [y, .ref m3])
    have w14 := w1.trans (w2.trans (w3.trans w4))
    have aX : TA K _ (.ref m4) (.N u (.N .L .L)) := ta_node (SqT.here upd_same) (ta_mono (Tp.same w14) a4) (ta_node (SqT.here (w4 _ _ upd_same)) (ta_leaf (SqT.here ((w2.trans (w3.trans w4)) _ _ upd_same))) (ta_leaf (SqT.here ((w3.trans w4) _ _ upd_same))))
    refine ⟨_, rfl, _, _, rfl, rfl, .ref m4, .N u (.N .L .L), 8, rfl, aX, by show max u.dp 1 + 1 ≤ 8; omega, fun H5 s5 hs5 hd5 => ⟨true, rfl, iteT ?_⟩, fun H5 s5 => ⟨false, rfl, iteF ?_⟩⟩
    · have hs5 : ((u.sz + 2 : Nat) : Int) ≤ 8 := hs5
      have hd5 : max u.dp 1 + 1 ≤ 6 := hd5
      have R5 := (R4.same w14).same s5
      refine ⟨_, rfl, _, rfl, r, 2, c, rfl, by decide, by decide, R5, fun x2 t2 H6 a6 z6 p6 R6 b6 => ⟨two_le, fun m5 nm5 => ⟨two_le, fun m6 nm6 => ?_⟩⟩⟩
      have v1 := Same.new nm5 (.tup [y, x2])
      have v2 := Same.new nm6 (.tup [v, .ref m5])
      have dz := t2.dp_sz
      have tp := ((Tp.same (w14.trans s5)).trans (R5.tp b6)).trans (Tp.same (v1.trans v2))
      refine q m6 v (.ref m5) t (.N u t2) _ (SqT.here upd_same) (ta_mono tp t4) (ta_node (SqT.here (v2 _ _ upd_same)) (ta_mono tp a4) (ta_mono (Tp.same (v1.trans v2)) a6)) z1' p1 ?_ ?_ (CL.r6 u hu5 t2 (by omega)) (R6.same (v1.trans v2)) ((b14.trans (But.same (w14.trans s5))).trans (b6.trans (But.same (v1.trans v2))))
      · show u.sz + t2.sz ≤ 8
        omega
      · show max u.dp t2.dp + 1 ≤ 6
        omega
    · refine ⟨zero_le', fun m5 nm5 => ⟨two_le, fun m6 nm6 => ?_⟩⟩
      have v1 := Same.new nm5 (.tup [])
      have v2 := Same.new nm6 (.tup [v, .ref m5])
      have sA := (w14.trans s5).trans (v1.trans v2)
      exact q m6 v (.ref m5) t .L _ (SqT.here upd_same) (ta_mono (Tp.same sA) t4) (ta_leaf (SqT.here (v2 _ _ upd_same))) z1' p1 (by decide) (by decide) (CL.r2 .L (by decide)) (R4.same sA) (b14.trans (But.same sA))
  · refine ⟨_, rfl, _, rfl, _, rfl, r, 6, c, rfl, by decide, by decide, R2, fun x2 t2 H3 a3 z3 p3 R3 b3 => ⟨two_le, fun m6 nm6 => ?_⟩⟩
    have v2 := Same.new nm6 (.tup [v, x2])
    exact q m6 v x2 t t2 _ (SqT.here upd_same) (ta_mono (Tp.same v2) (ta_mono (R2.tp b3) a2)) (ta_mono (Tp.same v2) a3) z1' p1 (by omega) p3 (CL.r2 t2 (by omega)) (R3.same v2) ((b12.trans b3).trans (But.same v2))

abbrev s__law_altered : Stmt := top 67
theorem sc__law_altered : FnScope ["_law_rng", "_law_told", "_law_word_here", "_law_moves", "_law_last", "_law_way", "_law_at", "_law_invalid", "_law_k"] ["_law_rng", "_law_told"] (defScope s__law_altered) := ⟨rfl, rfl, rfl, by decide +kernel, rfl, by decide +kernel, by decide +kernel⟩
theorem ok__law_altered {f1 f2 : Addr} {e1 e2 : FuncData} (d : D K mg "_law_altered" s__law_altered ["_law_rng", "_law_told"] f fd) (B : Blt mg) (d__law_draw : D K mg "_law_draw" s__law_draw ["_law_rng", "_law_amount"] f1 e1) (d__law_pick : D K mg "_law_pick" s__law_pick ["_law_rng", "_law_terms"] f2 e2) : FnOk P w K mg base CX0 3 f fd ["_law_rng", "_law_told"] (spAlt K) := by
  have G__law_draw : FnOk P w K mg base CX0 1 f1 e1 ["_law_rng", "_law_amount"] spDrawC := ok__law_drawC d__law_draw B
  have G__law_pick : FnOk P w K mg base CX0 2 f2 e2 ["_law_rng", "_law_terms"] (spPickC K) := ok__law_pickC d__law_pick B d__law_draw
  refine d.F.ok sc__law_altered (fun vs H Q E h => ?_) (fun cdv A outer s H vs Q E hr h => ?_)
  · obtain ⟨_, _, _, _, _, _, _, _, _, rfl, _⟩ := h
    rfl
  obtain ⟨r, c, t, m, l, w, us, ms, last, rfl, hR, ht, hm, mr, hM, hA, hu, hw, hl, q⟩ := h
  refine ⟨_, (pss_cons (ps_asg (pv 1) (pg_tup (by rfl) (pgs_cons (pg_name (i := 2) sc__law_altered.nd rfl (Or.inl rfl)) (pgs_cons (pg_name (i := 3) sc__law_altered.nd rfl (Or.inl rfl)) (pgs_cons (pg_name (i := 4) sc__law_altered.nd rfl (Or.inl rfl)) pgs_nil)))))
 (pss_cons (ps_par (i := 5) (j := 6) (by rfl) sc__law_altered.nd rfl rfl (by decide) rfl rfl (pa_cons (pe_call G__law_draw (hr.mono (by decide)) rfl d__law_draw.m d__law_draw.F.kp d__law_draw.b .nil pass0 (pa_cons (pv 0) (pa_cons pe_int pa_nil))) (pa_cons (pe_call G__law_draw (hr.mono (by decide)) rfl d__law_draw.m d__law_draw.F.kp d__law_draw.b .nil pass0 (pa_cons (pv 0) (pa_cons (pe_op op_add (pe_callB call_len_seq (by rfl) B.len PySem.boot_len (pa_cons (pv 3) pa_nil)) pe_int) pa_nil))) pa_nil)) (by rfl))
 (pss_cons (ps_if (pt_cmpR op_eq (pv 5) pe_int (nomark _)) (pss_one (ps_ret (pe_tup (pa_cons (pv 2) (pa_cons (pv 3) (pa_cons (pe_call G__law_pick (hr.mono (by decide)) rfl d__law_pick.m d__law_pick.F.kp d__law_pick.b .nil pass0 (pa_cons (pv 0) (pa_cons (pe_lst (pa_cons (pe_op op_catA (pv 4) (pe_tup (pa_cons pe_int pa_nil))) (pa_cons (pe_tup (pa_cons pe_int pa_nil)) (pa_cons (pe_op op_repA (pe_tup (pa_cons pe_int pa_nil)) pe_int) (pa_cons (pe_tup (pa_cons pe_int pa_nil)) (pa_cons (pe_op op_repA (pe_tup (pa_cons pe_int pa_nil)) pe_int) pa_nil)))))) pa_nil))) pa_nil)))))) pss_nil)
 (pss_cons (ps_if (pt_cmpR op_lt (pv 5) pe_int (nomark _)) (pss_one (ps_ret (pe_tup (pa_cons (pe_call G__law_pick (hr.mono (by decide)) rfl d__law_pick.m d__law_pick.F.kp d__law_pick.b .nil pass0 (pa_cons (pv 0) (pa_cons (pe_lst (pa_cons pe_str (pa_cons pe_str (pa_cons pe_str (pa_cons pe_str (pa_cons pe_str pa_nil)))))) pa_nil))) (pa_cons (pv 3) (pa_cons (pv 4) pa_nil)))))) pss_nil)
 (pss_cons (ps_if (pt_cmpR op_eq (pv 5) pe_int (nomark _)) (pss_one (ps_ret (pe_tup (pa_cons (pv 2) (pa_cons (pe_op op_cat (pe_slice sl_list (pv 3) po_none (po_some (pv 6))) (pe_slice sl_list (pv 3) (po_some (pe_op op_add (pv 6) pe_int)) po_none)) (pa_cons (pv 4) pa_nil)))))) pss_nil)
 (pss_cons (ps_if (pt_cmpR op_eq (pv 5) pe_int (nomark _)) (pss_cons (ps_set (i := 7) sc__law_altered.nd rfl (Or.inl rfl) (pe_call G__law_pick (hr.mono (by decide)) rfl d__law_pick.m d__law_pick.F.kp d__law_pick.b .nil pass0 (pa_cons (pv 0) (pa_cons (pe_lst (pa_cons (pe_tup (pa_cons pe_str (pa_cons pe_int pa_nil))) (pa_cons (pe_tup (pa_cons pe_str (pa_cons (pv 6) pa_nil))) (pa_cons (pe_tup (pa_cons pe_str (pa_cons pe_int pa_nil))) (pa_cons (pe_tup (pa_cons pe_str (pa_cons pe_int (pa_cons pe_int pa_nil)))) pa_nil))))) pa_nil))))
 (pss_one (ps_ret (pe_tup (pa_cons (pv 2) (pa_cons (pe_op op_cat (pe_op op_cat (pe_slice sl_list (pv 3) po_none (po_some (pv 6))) (pe_lst (pa_cons (pv 7) pa_nil))) (pe_slice sl_list (pv 3) (po_some (pv 6)) po_none)) (pa_cons (pv 4) pa_nil))))))) pss_nil)
 (pss_cons (ps_if (pt_cmpR op_eq (pv 5) pe_int (nomark _)) (pss_one (ps_ret (pe_tup (pa_cons (pv 2) (pa_cons (pe_op op_cat (pv 3) (pe_lst (pa_cons (pe_tup (pa_cons pe_str (pa_cons (pe_callB call_len_seq (by rfl) B.len PySem.boot_len (pa_cons (pv 4) pa_nil)) (pa_cons pe_int pa_nil)))) pa_nil))) (pa_cons (pe_op op_catA (pv 4) (pe_tup (pa_cons pe_int (pa_cons (pe_un un_neg pe_int) pa_nil)))) pa_nil)))))) pss_nil)
 (pss_cons (ps_if (pt_cmpR op_eq (pv 5) pe_int (nomark _)) (pss_one (ps_ret (pe_tup (pa_cons (pv 2) (pa_cons (pe_slice sl_list (pv 3) po_none (po_some (pv 6))) (pa_cons (pv 4) pa_nil)))))) pss_nil)
 (pss_cons (ps_if (PW.pt (pw_and (pt_cmpR op_eq (pv 5) pe_int (nomark _)) (pw_and1 (pt_cmpR op_gt (pe_callB call_len_seq (by rfl) B.len PySem.boot_len (pa_cons (pv 4) pa_nil)) pe_int (nomark _))))) (pss_cons (ps_set (i := 8) sc__law_altered.nd rfl (Or.inl rfl) (pe_call G__law_draw (hr.mono (by decide)) rfl d__law_draw.m d__law_draw.F.kp d__law_draw.b .nil pass0 (pa_cons (pv 0) (pa_cons (pe_callB call_len_seq (by rfl) B.len PySem.boot_len (pa_cons (pv 4) pa_nil)) pa_nil))))
 (pss_one (ps_ret (pe_tup (pa_cons (pv 2) (pa_cons (pv 3) (pa_cons (pe_op op_catA (pe_op op_catA (pe_slice sl_tupA (pv 4) po_none (po_some (pv 8))) (pe_tup (pa_cons (pe_op op_sub pe_int (pe_ix ix_tup (pv 4) (pv 8) (fun _ _ => rfl))) pa_nil))) (pe_slice sl_tupA (pv 4) (po_some (pe_op op_add (pv 8) pe_int)) po_none)) pa_nil))))))) pss_nil)
 (pss_cons (ps_if (pt_cmpR op_eq (pv 5) pe_int (nomark _)) (pss_one (ps_ret (pe_tup (pa_cons (pv 2) (pa_cons (pe_op op_cat (pv 3) (pe_lst (pa_cons (pe_tup (pa_cons pe_str (pa_cons pe_int (pa_cons pe_int pa_nil)))) pa_nil))) (pa_cons (pe_op op_catA (pe_tup (pa_cons pe_int (pa_cons (pe_un un_neg pe_int) pa_nil))) (pv 4)) pa_nil)))))) pss_nil)
 (pss_one (ps_ret (pe_tup (pa_cons (pv 2) (pa_cons (pe_op op_cat (pe_op op_cat (pe_slice sl_list (pv 3) po_none (po_some (pv 6))) (pe_lst (pa_cons (pe_tup (pa_cons pe_str (pa_cons (pv 6) pa_nil))) (pa_cons (pe_tup (pa_cons pe_str pa_nil)) pa_nil)))) (pe_slice sl_list (pv 3) (po_some (pv 6)) po_none)) (pa_cons (pv 4) pa_nil)))))))))))))))), ?_⟩
  refine ⟨_, rfl, t, _, rfl, ht, rfl, _, _, rfl, _, _, rfl, _, _, rfl, rfl, ?_⟩
  refine ⟨_, rfl, r, 10, c, rfl, hR, by decide, by decide, fun way H1 w0 w1 R1 b1 => ?_⟩
  have hm1 := b1 _ _ mr hm
  refine ⟨_, rfl, _, rfl, m, _, rfl, .inl (SqL.here hm1), _, _, rfl, rfl, r, _, c, rfl, R1, by omega, by omega, fun at_ H2 a0 a1 R2 b2 => ⟨_, _, rfl, ?_⟩⟩
  have hm2 := b2 _ _ mr hm1
  have b12 := b1.trans b2
  have tp2 := (hR.tp b1).trans (R1.tp b2)
  have hw2 : WT K H2 l last := tp2.sqT hw
  have hM2 := hM.tp tp2
  clear hm1 ht hw hM tp2 b1 b2 R1 hm hR
  obtain ⟨n, rfl⟩ : ∃ n : Nat, at_ = n := ⟨at_.toNat, by omega⟩
  have hn : n ≤ us.length := by omega
  have fin : ∀ {G : Hp} {m2 l2 : Addr} {w2 : Str} {us2 : List V} {ms2 : List (Str × List Int)} {last2 : List Int}, G m2 = some (.lst us2) → m2 ≠ r → MvTs K G us2 ms2 → (∀ z ∈ ms2, MvOk z) → us2.length ≤ us.length + 2 → WT K G l2 last2 → RngC G r c → But r H G → ∀ p, G p = none → Q (.ref p) (upd G p (.tup [.str w2, .ref m2, .ref l2])) := fun {G m2 l2 w2 us2 ms2 last2} h1 h2 h3 h4 h5 h6 h7 h8 p np => by
    have sp := Same.new np (.tup [.str w2, .ref m2, .ref l2])
    exact q p _ _ _ _ _ _ _ (SqT.here upd_same) (sp _ _ h1) h2 (h3.tp (Tp.same sp)) h4 h5 ((Tp.same sp).sqT h6) (h7.same sp) (h8.trans (But.same sp))
  have three : 3 ≤ sizeLine := by decide
  have szl : ∀ k : Nat, k ≤ 1000 → k ≤ sizeLine := fun k hk => Nat.le_trans hk (by decide)
  refine ⟨_, rfl, rfl, _, rfl, ite2 (fun c1 => ?_) (fun c1 => ?_)⟩
  · -- another word
    refine ⟨_, rfl, _, rfl, _, rfl, _, rfl, one_le, fun p1 n1 => ?_⟩
    have s1 := Same.new n1 (.tup [.int 0])
    refine cat_w ((Tp.same s1).sqT hw2) (b := p1) (ms := [0]) (SqT.here upd_same) (by show last.length + 1 ≤ 10000; omega) fun p2 G2 s2 h2 => ?_
    refine ⟨one_le, fun p3 n3 => ⟨one_le, fun p4 n4 => ⟨p4, 301, [V.int 2], rfl, rfl, SqT.here upd_same, by decide, by decide, by decide, fun p5 G5 s5 h5 => ⟨one_le, fun p6 n6 => ⟨one_le, fun p7 n7 => ⟨p7, 301, [V.int 1], rfl, rfl, SqT.here upd_same, by decide, by decide, by decide, fun p8 G8 s8 h8 => ⟨(by show 5 ≤ sizeLine; decide), fun g ng => ?_⟩⟩⟩⟩⟩⟩⟩
    have h5 : WT K G5 p5 (repW 301 [2]) := by rw [WT, ← repW_map]; exact h5
    have h8 : WT K G8 p8 (repW 301 [1]) := by rw [WT, ← repW_map]; exact h8
    have s3 := Same.new n3 (.tup [.int 99])
    have s4 := Same.new n4 (.tup [.int 2])
    have s6 := Same.new n6 (.tup [.int 0])
    have s7 := Same.new n7 (.tup [.int 1])
    have sg := Same.new ng (.lst [.ref p2, .ref p3, .ref p5, .ref p6, .ref p8])
    have s8g := s8.trans sg
    have s6g := s6.trans (s7.trans s8g)
    have s4g := s4.trans (s5.trans s6g)
    have s2g := s3.trans s4g
    have sAll := s1.trans (s2.trans s2g)
    have v3 : WT K G8 p3 [99] := (Tp.same (s4.trans (s5.trans (s6.trans (s7.trans s8))))).sqT (SqT.here upd_same)
    have v6 : WT K G8 p6 [0] := (Tp.same (s7.trans s8)).sqT (SqT.here upd_same)
    have v2 : WT K G8 p2 (last ++ [0]) := (Tp.same (s3.trans (s4.trans (s5.trans (s6.trans (s7.trans s8)))))).sqT h2
    have v5 := (Tp.same (s6.trans (s7.trans s8))).sqT h5
    refine ⟨r, g, c, _, rfl, R2.same sAll, (.inl (SqL.here upd_same)), (by show 0 < 5; decide), (by show 5 ≤ 10000; decide), ((R2.same (s1.trans (s2.trans (s3.trans (s4.trans (s5.trans (s6.trans (s7.trans s8)))))))).ne ng).1, fun v G hv R3 b3 => ?_⟩
    have tp3 := (R2.same sAll).tp b3
    obtain ⟨p, ns, rfl, hp⟩ : ∃ p ns, v = .ref p ∧ WT K G8 p ns := by
      simp only [List.mem_cons, List.not_mem_nil, or_false] at hv
      rcases hv with rfl | rfl | rfl | rfl | rfl
      · exact ⟨_, _, rfl, v2⟩
      · exact ⟨_, _, rfl, v3⟩
      · exact ⟨_, _, rfl, v5⟩
      · exact ⟨_, _, rfl, v6⟩
      · exact ⟨_, _, rfl, h8⟩
    exact ⟨three, fin (b3 _ _ mr (sAll _ _ hm2)) mr (hM2.tp ((Tp.same sAll).trans tp3)) hA (by omega) (((Tp.same sg).trans tp3).sqT hp) R3 (b12.trans ((But.same sAll).trans b3))⟩
  refine ⟨_, rfl, _, _, rfl, rfl, _, rfl, ite2 (fun c2 => ?_) (fun c2 => ?_)⟩
  · -- another text
    refine ⟨_, rfl, (by show 5 ≤ sizeLine; decide), fun g ng => ?_⟩
    have sg := Same.new ng (.lst [.str "equal", .str "less", .str "greater", .str "", .str "Less"])
    refine ⟨r, g, c, _, rfl, R2.same sg, .inl (SqL.here upd_same), by decide, by decide, (R2.ne ng).1, fun v G hv R3 b3 => ?_⟩
    have tp := (Tp.same sg).trans ((R2.same sg).tp b3)
    obtain ⟨z, rfl⟩ : ∃ z, v = .str z := by
      simp only [List.mem_cons, List.not_mem_nil, or_false] at hv
      rcases hv with rfl | rfl | rfl | rfl | rfl <;> exact ⟨_, rfl⟩
    exact ⟨_, rfl, _, rfl, three, fin (b3 _ _ mr (sg _ _ hm2)) mr (hM2.tp tp) hA (by omega) (tp.sqT hw2) R3 (b12.trans ((But.same sg).trans b3))⟩
  refine ⟨_, rfl, rfl, _, rfl, ite2 (fun c3 => ?_) (fun c3 => ?_)⟩
  · -- a move left out
    refine ⟨_, rfl, _, rfl, ?_⟩
    unfold tNoPart
    refine ⟨_, rfl, _, rfl, m, us, rfl, SqL.here hm2, fun p1 n1 => ?_⟩
    rw [cutV_to hn]
    have s1 := Same.new n1 (.lst (us.take n))
    have e1 : upd H2 p1 (.lst (us.take n)) p1 = some (.lst (us.take n)) := upd_same
    have hm3 := s1 _ _ hm2
    have R3 := R2.same s1
    generalize upd H2 p1 (.lst (us.take n)) = H3 at *
    refine ⟨_, rfl, _, rfl, _, _, rfl, rfl, _, rfl, m, us, rfl, SqL.here hm3, fun p2 n2 => ?_⟩
    rw [show ((n : Int) + 1) = ((n + 1 : Nat) : Int) from rfl, cutV_fr]
    have s2 := Same.new n2 (.lst (us.drop (n + 1)))
    refine ⟨p1, p2, _, _, rfl, rfl, s2 _ _ e1, upd_same, szl _ (by rw [List.length_take, List.length_drop]; omega), fun p3 n3 => ?_⟩
    have s3 := Same.new n3 (.lst (us.take n ++ us.drop (n + 1)))
    have sA := s1.trans (s2.trans s3)
    exact ⟨_, rfl, three, fin upd_same ((R3.same s2).ne n3).1 (((hM2.take n).app (hM2.drop (n + 1))).tp (Tp.same sA)) (fun z hz => (List.mem_append.mp hz).elim (fun y => hA z (List.mem_of_mem_take y)) (fun y => hA z (List.mem_of_mem_drop y))) (by rw [List.length_append, List.length_take, List.length_drop]; omega) ((Tp.same sA).sqT hw2) (R2.same sA) (b12.trans (But.same sA))⟩
  refine ⟨_, rfl, rfl, _, rfl, ite2 (fun c4 => ?_) (fun c4 => ?_)⟩
  · -- a wrong move put in
    refine ⟨_, rfl, two_le, fun p1 n1 => ⟨_, rfl, two_le, fun p2 n2 => ⟨two_le, fun p3 n3 => ⟨three, fun p4 n4 => ⟨(by show 4 ≤ sizeLine; decide), fun g ng => ?_⟩⟩⟩⟩⟩
    have s1 := Same.new n1 (.tup [.str "cancel", .int 0])
    have s2 := Same.new n2 (.tup [.str "swap", .int (n : Int)])
    have s3 := Same.new n3 (.tup [.str "braid", .int 0])
    have s4 := Same.new n4 (.tup [.str "insert", .int 0, .int 41])
    have sg := Same.new ng (.lst [.ref p1, .ref p2, .ref p3, .ref p4])
    have s4g := s4.trans sg
    have s3g := s3.trans s4g
    have s2g := s2.trans s3g
    have sAll := s1.trans s2g
    refine ⟨r, g, c, _, rfl, R2.same sAll, .inl (SqL.here upd_same), (by show 0 < 4; decide), (by show 4 ≤ 10000; decide), ((R2.same (s1.trans (s2.trans (s3.trans s4)))).ne ng).1, fun v G hv R3 b3 => ?_⟩
    have tp3 := (R2.same sAll).tp b3
    obtain ⟨mv, hmv, hml⟩ : ∃ mv, MvT K G v mv ∧ MvOk mv := by
      simp only [List.mem_cons, List.not_mem_nil, or_false] at hv
      rcases hv with rfl | rfl | rfl | rfl
      · exact ⟨("cancel", [0]), ⟨p1, rfl, tp3.sqT ((Tp.same s2g).sqT (SqT.here upd_same))⟩, mvOk_of (by decide) (by decide +kernel)⟩
      · exact ⟨("swap", [(n : Int)]), ⟨p2, rfl, tp3.sqT ((Tp.same s3g).sqT (SqT.here upd_same))⟩, mvOk_of (by show 1 ≤ 2; decide) (by decide +kernel)⟩
      · exact ⟨("braid", [0]), ⟨p3, rfl, tp3.sqT ((Tp.same s4g).sqT (SqT.here upd_same))⟩, mvOk_of (by decide) (by decide +kernel)⟩
      · exact ⟨("insert", [0, 41]), ⟨p4, rfl, tp3.sqT ((Tp.same sg).sqT (SqT.here upd_same))⟩, mvOk_of (by decide) (by decide +kernel)⟩
    have hm3 := b3 _ _ mr (sAll _ _ hm2)
    have hM3 := hM2.tp ((Tp.same sAll).trans tp3)
    have hw3 := ((Tp.same sAll).trans tp3).sqT hw2
    have b13 := b12.trans ((But.same sAll).trans b3)
    clear n1 n2 n3 n4 ng s1 s2 s3 s4 sg s4g s3g s2g sAll tp3 b3 R2 hw2 hM2 hm2 b12
    refine ⟨_, rfl, _, rfl, ?_⟩
    unfold tNoPart
    refine ⟨_, rfl, _, rfl, m, us, rfl, SqL.here hm3, fun p1 n1 => ?_⟩
    rw [cutV_to hn]
    have s1 := Same.new n1 (.lst (us.take n))
    refine ⟨_, rfl, one_le, fun p2 n2 => ?_⟩
    have s2 := Same.new n2 (.lst [v])
    refine ⟨p1, p2, _, _, rfl, rfl, s2 _ _ upd_same, upd_same, szl _ (by rw [List.length_take]; show min _ _ + 1 ≤ _; omega), fun p3 n3 => ?_⟩
    have s3 := Same.new n3 (.lst (us.take n ++ [v]))
    have s13 := s1.trans (s2.trans s3)
    refine ⟨_, rfl, _, rfl, _, rfl, m, us, rfl, SqL.here (s13 _ _ hm3), fun p4 n4 => ?_⟩
    rw [cutV_fr]
    have s4 := Same.new n4 (.lst (us.drop n))
    refine ⟨p3, p4, _, _, rfl, rfl, s4 _ _ upd_same, upd_same, szl _ (by rw [List.length_append, List.length_take, List.length_drop]; show min _ _ + 1 + _ ≤ _; omega), fun p5 n5 => ?_⟩
    have s5 := Same.new n5 (.lst (us.take n ++ [v] ++ us.drop n))
    have sA := s13.trans (s4.trans s5)
    exact ⟨_, rfl, three, fin upd_same ((R3.same (s13.trans s4)).ne n5).1 (((((hM3.take n).app (MvTs.one hmv)).app (hM3.drop n))).tp (Tp.same sA)) (fun z hz => (List.mem_append.mp hz).elim (fun y => (List.mem_append.mp y).elim (fun y => hA z (List.mem_of_mem_take y)) (fun y => by rw [List.mem_singleton.mp y]; exact hml)) (fun y => hA z (List.mem_of_mem_drop y))) (by rw [List.length_append, List.length_append, List.length_take, List.length_drop]; show min _ _ + 1 + _ ≤ _; omega) ((Tp.same sA).sqT hw3) (R3.same sA) (b13.trans (But.same sA))⟩
  refine ⟨_, rfl, rfl, _, rfl, ite2 (fun c5 => ?_) (fun c5 => ?_)⟩
  · -- a pair of letters at the end
    refine ⟨_, rfl, _, rfl, _, rfl, l, _, rfl, .inr hw2, three, fun p1 n1 => ⟨one_le, fun p2 n2 => ?_⟩⟩
    have s1 := Same.new n1 (.tup [.str "insert", .int (((last.map V.int).length : Nat) : Int), .int 2])
    have s2 := Same.new n2 (.lst [.ref p1])
    refine ⟨m, p2, us, _, rfl, rfl, s2 _ _ (s1 _ _ hm2), upd_same, szl _ (by show us.length + 1 ≤ _; omega), fun p3 n3 => ?_⟩
    have s3 := Same.new n3 (.lst (us ++ [.ref p1]))
    refine ⟨_, rfl, _, rfl, two_le, fun p4 n4 => ?_⟩
    have s4 := Same.new n4 (.tup [.int 2, .int (-2)])
    have s14 := s1.trans (s2.trans (s3.trans s4))
    refine cat_w ((Tp.same s14).sqT hw2) (b := p4) (ms := [2, -2]) (SqT.here upd_same) (by show last.length + 2 ≤ 10000; omega) fun p5 G5 s5 h5 => ?_
    have sA := s14.trans s5
    have hM5 : MvTs K G5 (us ++ [.ref p1]) (ms ++ [((("insert" : Str), [(((last.map V.int).length : Nat) : Int), 2]) : Str × List Int)]) := (hM2.tp (Tp.same sA)).snoc ⟨p1, rfl, (Tp.same (s2.trans (s3.trans (s4.trans s5)))).sqT (SqT.here upd_same)⟩
    exact ⟨three, fin (s5 _ _ (s4 _ _ upd_same)) ((R2.same (s1.trans s2)).ne n3).1 hM5 (fun z hz => (List.mem_append.mp hz).elim (hA z) (fun y => by rw [List.mem_singleton.mp y]; exact mvOk_of (by show 2 ≤ 2; decide) (by decide +kernel))) (by rw [List.length_append]; show us.length + 1 ≤ _; omega) h5 (R2.same sA) (b12.trans (But.same sA))⟩
  refine ⟨_, rfl, rfl, _, rfl, ite2 (fun c6 => ?_) (fun c6 => ?_)⟩
  · -- the moves cut
    refine ⟨_, rfl, _, rfl, ?_⟩
    unfold tNoPart
    refine ⟨_, rfl, _, rfl, m, us, rfl, SqL.here hm2, fun p1 n1 => ?_⟩
    rw [cutV_to hn]
    have s1 := Same.new n1 (.lst (us.take n))
    exact ⟨_, rfl, three, fin upd_same (R2.ne n1).1 ((hM2.take n).tp (Tp.same s1)) (fun z hz => hA z (List.mem_of_mem_take hz)) (by rw [List.length_take]; omega) ((Tp.same s1).sqT hw2) (R2.same s1) (b12.trans (But.same s1))⟩
  refine ⟨_, rfl, rfl, _, rfl, ite2 (fun c7 => ?_) (fun c7 => ?_)⟩
  · refine ⟨_, rfl, l, _, rfl, .inr hw2, _, _, rfl, rfl, _, rfl, ite2 (fun c8 => ?_) (fun c8 => ?_)⟩
    · -- a letter turned
      have c8 : ((last.map V.int).length : Int) > 0 := of_decide_eq_true c8
      rw [List.length_map] at c8
      refine ⟨_, rfl, _, rfl, l, _, rfl, .inr hw2, r, _, c, rfl, R2, by rw [List.length_map]; omega, by rw [List.length_map]; omega, fun k G k0 k1 R3 b3 => ?_⟩
      rw [List.length_map] at k1
      obtain ⟨j, rfl⟩ : ∃ j : Nat, k = j := ⟨k.toNat, by omega⟩
      have hj : j < last.length := by omega
      have hm3 := b3 _ _ mr hm2
      have tp3 := R2.tp b3
      have hw3 : WT K G l last := tp3.sqT hw2
      have hM3 := hM2.tp tp3
      have b13 := b12.trans b3
      refine ⟨_, rfl, _, rfl, _, rfl, ?_⟩
      unfold tNoPart
      have lw : (last.map V.int).length = last.length := List.length_map ..
      have hg : (last.map V.int)[j]? = some (.int last[j]) := by rw [List.getElem?_map, List.getElem?_eq_getElem hj]; rfl
      refine ⟨_, rfl, (j : Int), rfl, slA_j (j := j) hw3 (by rw [lw]; omega) fun p1 G1 s1 h1 => ?_⟩
      have h1 : WT K G1 p1 (last.take j) := by rw [WT, List.map_take]; exact h1
      refine ⟨_, rfl, _, rfl, l, _, (j : Int), _, rfl, rfl, (Tp.same s1).sqT hw3, atI_nat hg, _, _, rfl, rfl, one_le, fun p2 n2 => ?_⟩
      have s2 := Same.new n2 (.tup [.int (0 - last[j])])
      refine cat_w ((Tp.same s2).sqT h1) (b := p2) (ms := [0 - last[j]]) (SqT.here upd_same) (by rw [List.length_take]; show min _ _ + 1 ≤ 10000; omega) fun p3 G3 s3 h3 => ?_
      have s13 := s1.trans (s2.trans s3)
      refine ⟨_, rfl, _, rfl, _, _, rfl, rfl, _, rfl, slA_i (i := j + 1) ((Tp.same s13).sqT hw3) (by rw [lw]; omega) fun p4 G4 s4 h4 => ?_⟩
      have h4 : WT K G4 p4 (last.drop (j + 1)) := by rw [WT, List.map_drop]; exact h4
      refine cat_w ((Tp.same s4).sqT h3) h4 (by rw [List.length_append, List.length_take, List.length_drop]; show min _ _ + 1 + _ ≤ 10000; omega) fun p5 G5 s5 h5 => ?_
      have sA := s13.trans (s4.trans s5)
      exact ⟨three, fin (sA _ _ hm3) mr (hM3.tp (Tp.same sA)) hA (by omega) h5 (R3.same sA) (b13.trans (But.same sA))⟩
    refine ⟨_, rfl, rfl, _, rfl, ite2 (fun c9 => ?_) (fun c9 => ?_)⟩
    · -- a pair of letters in front
      refine ⟨_, rfl, _, rfl, three, fun p1 n1 => ⟨one_le, fun p2 n2 => ?_⟩⟩
      have s1 := Same.new n1 (.tup [.str "insert", .int 0, .int 1])
      have s2 := Same.new n2 (.lst [.ref p1])
      refine ⟨m, p2, us, _, rfl, rfl, s2 _ _ (s1 _ _ hm2), upd_same, szl _ (by show us.length + 1 ≤ _; omega), fun p3 n3 => ?_⟩
      have s3 := Same.new n3 (.lst (us ++ [.ref p1]))
      refine ⟨_, rfl, two_le, fun p4 n4 => ⟨_, rfl, ?_⟩⟩
      have s4 := Same.new n4 (.tup [.int 1, .int (-1)])
      have s14 := s1.trans (s2.trans (s3.trans s4))
      refine cat_w (ns := [1, -1]) (SqT.here upd_same) ((Tp.same s14).sqT hw2) (by show 2 + last.length ≤ 10000; omega) fun p5 G5 s5 h5 => ?_
      have sA := s14.trans s5
      have hM5 : MvTs K G5 (us ++ [.ref p1]) (ms ++ [((("insert" : Str), [0, 1]) : Str × List Int)]) := (hM2.tp (Tp.same sA)).snoc ⟨p1, rfl, (Tp.same (s2.trans (s3.trans (s4.trans s5)))).sqT (SqT.here upd_same)⟩
      exact ⟨three, fin (s5 _ _ (s4 _ _ upd_same)) ((R2.same (s1.trans s2)).ne n3).1 hM5 (fun z hz => (List.mem_append.mp hz).elim (hA z) (fun y => by rw [List.mem_singleton.mp y]; exact mvOk_of (by show 2 ≤ 2; decide) (by decide +kernel))) (by rw [List.length_append]; show us.length + 1 ≤ _; omega) h5 (R2.same sA) (b12.trans (But.same sA))⟩
    -- two that are no moves
    refine ⟨_, rfl, _, rfl, ?_⟩
    unfold tNoPart
    refine ⟨_, rfl, _, rfl, m, us, rfl, SqL.here hm2, fun p1 n1 => ?_⟩
    rw [cutV_to hn]
    have s1 := Same.new n1 (.lst (us.take n))
    refine ⟨_, rfl, two_le, fun p2 n2 => ⟨one_le, fun p3 n3 => ⟨two_le, fun p4 n4 => ?_⟩⟩⟩
    have s2 := Same.new n2 (.tup [.str "no", .int (n : Int)])
    have s3 := Same.new n3 (.tup [.str "cancel"])
    have s4 := Same.new n4 (.lst [.ref p2, .ref p3])
    have s24 := s2.trans (s3.trans s4)
    refine ⟨p1, p4, _, _, rfl, rfl, s24 _ _ upd_same, upd_same, szl _ (by rw [List.length_take]; show min _ _ + 2 ≤ _; omega), fun p5 n5 => ?_⟩
    have s5 := Same.new n5 (.lst (us.take n ++ [.ref p2, .ref p3]))
    have s15 := s1.trans (s24.trans s5)
    refine ⟨_, rfl, _, rfl, _, rfl, m, us, rfl, SqL.here (s15 _ _ hm2), fun p6 n6 => ?_⟩
    rw [cutV_fr]
    have s6 := Same.new n6 (.lst (us.drop n))
    refine ⟨p5, p6, _, _, rfl, rfl, s6 _ _ upd_same, upd_same, szl _ (by rw [List.length_append, List.length_take, List.length_drop]; show min _ _ + 2 + _ ≤ _; omega), fun p7 n7 => ?_⟩
    have s7 := Same.new n7 (.lst (us.take n ++ [.ref p2, .ref p3] ++ us.drop n))
    have sA := s15.trans (s6.trans s7)
    have two : MvTs K (upd (upd (upd (upd (upd (upd (upd H2 p1 (.lst (us.take n))) p2 (.tup [.str "no", .int (n : Int)])) p3 (.tup [.str "cancel"])) p4 (.lst [.ref p2, .ref p3])) p5 (.lst (us.take n ++ [.ref p2, .ref p3]))) p6 (.lst (us.drop n))) p7 (.lst (us.take n ++ [.ref p2, .ref p3] ++ us.drop n))) [.ref p2, .ref p3] [((("no" : Str), [(n : Int)]) : Str × List Int), (("cancel" : Str), [])] :=
      (MvTs.one (m := ((("no" : Str), [(n : Int)]) : Str × List Int)) ⟨p2, rfl, (Tp.same (s3.trans (s4.trans (s5.trans (s6.trans s7))))).sqT (SqT.here upd_same)⟩).snoc (m := ((("cancel" : Str), []) : Str × List Int)) ⟨p3, rfl, (Tp.same (s4.trans (s5.trans (s6.trans s7)))).sqT (SqT.here upd_same)⟩
    exact ⟨_, rfl, three, fin upd_same ((R2.same (s15.trans s6)).ne n7).1 ((((hM2.take n).tp (Tp.same sA)).app two).app ((hM2.drop n).tp (Tp.same sA))) (fun z hz => (List.mem_append.mp hz).elim (fun y => (List.mem_append.mp y).elim (fun y => hA z (List.mem_of_mem_take y)) (fun y => by rcases List.mem_cons.mp y with rfl | y; exact mvOk_of (by show 1 ≤ 2; decide) (by decide +kernel); rw [List.mem_singleton.mp y]; exact mvOk_of (by show 0 ≤ 2; decide) (by decide +kernel))) (fun y => hA z (List.mem_of_mem_drop y))) (by rw [List.length_append, List.length_append, List.length_take, List.length_drop]; show min _ _ + 2 + _ ≤ _; omega) ((Tp.same sA).sqT hw2) (R2.same sA) (b12.trans (But.same sA))⟩
  refine ⟨_, rfl, rfl, _, rfl, ite2 (fun c9 => ?_) (fun c9 => ?_)⟩
  · -- a pair of letters in front
    refine ⟨_, rfl, _, rfl, three, fun p1 n1 => ⟨one_le, fun p2 n2 => ?_⟩⟩
    have s1 := Same.new n1 (.tup [.str "insert", .int 0, .int 1])
    have s2 := Same.new n2 (.lst [.ref p1])
    refine ⟨m, p2, us, _, rfl, rfl, s2 _ _ (s1 _ _ hm2), upd_same, szl _ (by show us.length + 1 ≤ _; omega), fun p3 n3 => ?_⟩
    have s3 := Same.new n3 (.lst (us ++ [.ref p1]))
    refine ⟨_, rfl, two_le, fun p4 n4 => ⟨_, rfl, ?_⟩⟩
    have s4 := Same.new n4 (.tup [.int 1, .int (-1)])
    have s14 := s1.trans (s2.trans (s3.trans s4))
    refine cat_w (ns := [1, -1]) (SqT.here upd_same) ((Tp.same s14).sqT hw2) (by show 2 + last.length ≤ 10000; omega) fun p5 G5 s5 h5 => ?_
    have sA := s14.trans s5
    have hM5 : MvTs K G5 (us ++ [.ref p1]) (ms ++ [((("insert" : Str), [0, 1]) : Str × List Int)]) := (hM2.tp (Tp.same sA)).snoc ⟨p1, rfl, (Tp.same (s2.trans (s3.trans (s4.trans s5)))).sqT (SqT.here upd_same)⟩
    exact ⟨three, fin (s5 _ _ (s4 _ _ upd_same)) ((R2.same (s1.trans s2)).ne n3).1 hM5 (fun z hz => (List.mem_append.mp hz).elim (hA z) (fun y => by rw [List.mem_singleton.mp y]; exact mvOk_of (by show 2 ≤ 2; decide) (by decide +kernel))) (by rw [List.length_append]; show us.length + 1 ≤ _; omega) h5 (R2.same sA) (b12.trans (But.same sA))⟩
  -- two that are no moves
  refine ⟨_, rfl, _, rfl, ?_⟩
  unfold tNoPart
  refine ⟨_, rfl, _, rfl, m, us, rfl, SqL.here hm2, fun p1 n1 => ?_⟩
  rw [cutV_to hn]
  have s1 := Same.new n1 (.lst (us.take n))
  refine ⟨_, rfl, two_le, fun p2 n2 => ⟨one_le, fun p3 n3 => ⟨two_le, fun p4 n4 => ?_⟩⟩⟩
  have s2 := Same.new n2 (.tup [.str "no", .int (n : Int)])
  have s3 := Same.new n3 (.tup [.str "cancel"])
  have s4 := Same.new n4 (.lst [.ref p2, .ref p3])
  have s24 := s2.trans (s3.trans s4)
  refine ⟨p1, p4, _, _, rfl, rfl, s24 _ _ upd_same, upd_same, szl _ (by rw [List.length_take]; show min _ _ + 2 ≤ _; omega), fun p5 n5 => ?_⟩
  have s5 := Same.new n5 (.lst (us.take n ++ [.ref p2, .ref p3]))
  have s15 := s1.trans (s24.trans s5)
  refine ⟨_, rfl, _, rfl, _, rfl, m, us, rfl, SqL.here (s15 _ _ hm2), fun p6 n6 => ?_⟩
  rw [cutV_fr]
  have s6 := Same.new n6 (.lst (us.drop n))
  refine ⟨p5, p6, _, _, rfl, rfl, s6 _ _ upd_same, upd_same, szl _ (by rw [List.length_append, List.length_take, List.length_drop]; show min _ _ + 2 + _ ≤ _; omega), fun p7 n7 => ?_⟩
  have s7 := Same.new n7 (.lst (us.take n ++ [.ref p2, .ref p3] ++ us.drop n))
  have sA := s15.trans (s6.trans s7)
  have two : MvTs K (upd (upd (upd (upd (upd (upd (upd H2 p1 (.lst (us.take n))) p2 (.tup [.str "no", .int (n : Int)])) p3 (.tup [.str "cancel"])) p4 (.lst [.ref p2, .ref p3])) p5 (.lst (us.take n ++ [.ref p2, .ref p3]))) p6 (.lst (us.drop n))) p7 (.lst (us.take n ++ [.ref p2, .ref p3] ++ us.drop n))) [.ref p2, .ref p3] [((("no" : Str), [(n : Int)]) : Str × List Int), (("cancel" : Str), [])] :=
    (MvTs.one (m := ((("no" : Str), [(n : Int)]) : Str × List Int)) ⟨p2, rfl, (Tp.same (s3.trans (s4.trans (s5.trans (s6.trans s7))))).sqT (SqT.here upd_same)⟩).snoc (m := ((("cancel" : Str), []) : Str × List Int)) ⟨p3, rfl, (Tp.same (s4.trans (s5.trans (s6.trans s7)))).sqT (SqT.here upd_same)⟩
  exact ⟨_, rfl, three, fin upd_same ((R2.same (s15.trans s6)).ne n7).1 ((((hM2.take n).tp (Tp.same sA)).app two).app ((hM2.drop n).tp (Tp.same sA))) (fun z hz => (List.mem_append.mp hz).elim (fun y => (List.mem_append.mp y).elim (fun y => hA z (List.mem_of_mem_take y)) (fun y => by rcases List.mem_cons.mp y with rfl | y; exact mvOk_of (by show 1 ≤ 2; decide) (by decide +kernel); rw [List.mem_singleton.mp y]; exact mvOk_of (by show 0 ≤ 2; decide) (by decide +kernel))) (fun y => hA z (List.mem_of_mem_drop y))) (by rw [List.length_append, List.length_append, List.length_take, List.length_drop]; show min _ _ + 2 + _ ≤ _; omega) ((Tp.same sA).sqT hw2) (R2.same sA) (b12.trans (But.same sA))⟩

abbrev s_law : Stmt := top 68
theorem sc_law : FnScope ["_law_script", "_law_rng", "_law_turn", "_law_one", "_law_other", "_law_whole", "_law_step", "_law_told", "_law_word_here", "_law_moves", "_law_last", "_law_copied", "_law_argument", "_law_expected"] ["_law_script"] (defScope s_law) := ⟨rfl, rfl, rfl, by decide +kernel, rfl, by decide +kernel, by decide +kernel⟩
theorem ok_law {Cs fI fL fH fR fF fK fP CWd CS fS WD : Addr} {fdI fdL fdH fdR fdF fdK fdP fdS : FuncData} {g0 g1 g2 g3 g4 g5 g6 g7 g8 g9 g10 g11 g12 g13 g14 g15 g16 g17 g18 g19 g20 g21 g22 g23 g24 g25 g26 g27 g28 g29 g30 g31 g32 g33 g34 g35 g36 g37 g38 g39 g40 g41 g42 g43 g44 g45 g46 g47 g48 g49 g50 g51 : Addr} {h0 h1 h2 h3 h4 h5 h6 h7 h8 h9 h10 h11 h12 h13 h14 h15 h16 h17 h18 h19 h20 h21 h22 h23 h24 h25 h26 h27 h28 h29 h30 h31 h32 h33 h34 h35 h36 h37 h38 h39 h40 h41 h42 h43 h44 h45 h46 h47 h48 h49 h50 h51 : FuncData} (d : D K mg "law" s_law ["_law_script"] f fd) (B : Blt mg) (BW : BltW mg) (C : Cst mg) (CW : CstW mg) (EC : ErrC K mg "InvalidWord" CWd)
    (FLS : FunS P K mg "InvalidStep" "InvalidStep.__init__" s_ISInit ["self", "position"] CS fS fdS) (nS : PySem.W.findIn K (.ref CS) "position" = some none) (gS : mg "InvalidStep" = some (.ref CS)) (xS : PySem.W.exmOne K (.ref CS) (.ref CS) = some true) (mW : mg "WIDTHS" = some (.ref WD))
    (kW : ∀ nm : Str, ∃ r, KDin K w WD nm r ∧ (cdW nm = none → r = none) ∧ ∀ u, cdW nm = some u → ∃ t, r = some (.int (mvN u : Nat) t))
    (T : ScT K mg Cs) (MK : L2.Mk K Cs fI) (FI : Fun K "__init__" "Scan.__init__" s_SInit fI fdI) (bI : Binds K fdI ["self", "word"] [])
    (FL : Fun K "last_place" "Scan.last_place" s_SLast fL fdL) (bL : Binds K fdL ["self", "magnitude"] []) (mL : Meth K Cs "last_place" fL) (FH : Fun K "handle_start" "Scan.handle_start" s_SStart fH fdH) (bH : Binds K fdH ["self"] []) (mH : Meth K Cs "handle_start" fH) (FF : Fun K "find_handle" "Scan.find_handle" s_SFind fF fdF) (bF : Binds K fdF ["self"] []) (mF : Meth K Cs "find_handle" fF)
    (FR : Fun K "read_letter" "Scan.read_letter" s_SRead fR fdR) (bR : Binds K fdR ["self"] []) (mR : Meth K Cs "read_letter" fR) (FK : Fun K "take_handle" "Scan.take_handle" s_STake fK fdK) (bK : Binds K fdK ["self", "start"] []) (mK : Meth K Cs "take_handle" fK) (FP : Fun K "put_back" "Scan.put_back" s_SPut fP fdP) (bP : Binds K fdP ["self", "letters"] []) (mP : Meth K Cs "put_back" fP)
    (d_is_pair : D K mg "is_pair" s_is_pair ["part"] g0 h0) (d_is_term : D K mg "is_term" s_is_term ["term"] g1 h1) (d_check_term : D K mg "check_term" s_check_term ["term"] g2 h2) (d_is_letter : D K mg "is_letter" s_is_letter ["number"] g3 h3) (d_are_letters : D K mg "are_letters" s_are_letters ["numbers"] g4 h4) (d_check_word : D K mg "check_word" s_check_word ["word"] g5 h5) (d_with_sign : D K mg "with_sign" s_with_sign ["magnitude", "letter"] g6 h6) (d_braided : D K mg "braided" s_braided ["letters"] g7 h7) (d_replaced_by : D K mg "replaced_by" s_replaced_by ["name", "letters"] g8 h8) (d_insertion_of : D K mg "insertion_of" s_insertion_of ["letters", "move"] g9 h9) (d_change_of : D K mg "change_of" s_change_of ["letters", "move"] g10 h10) (d_apply_moves : D K mg "apply_moves" s_apply_moves ["word", "moves"] g11 h11) (d_without_handle : D K mg "without_handle" s_without_handle ["handle"] g12 h12) (d_reduced_form : D K mg "reduced_form" s_reduced_form ["word"] g13 h13) (d_removing_moves : D K mg "removing_moves" s_removing_moves ["at", "handle"] g14 h14) (d_reduction_moves : D K mg "reduction_moves" s_reduction_moves ["word"] g15 h15) (d_inverse_of : D K mg "inverse_of" s_inverse_of ["letters"] g16 h16) (d_shifted_by : D K mg "shifted_by" s_shifted_by ["word", "by"] g17 h17) (d_word_below : D K mg "word_below" s_word_below ["term"] g18 h18) (d_joint_word : D K mg "joint_word" s_joint_word ["one", "other"] g19 h19) (d_shown_by : D K mg "shown_by" s_shown_by ["last"] g20 h20) (d_certificate : D K mg "certificate" s_certificate ["one", "other"] g21 h21) (d_check_certificate : D K mg "check_certificate" s_check_certificate ["one", "other", "claimed"] g22 h22) (d__law_draws : D K mg "_law_draws" s__law_draws ["_law_script"] g23 h23) (d__law_draw : D K mg "_law_draw" s__law_draw ["_law_rng", "_law_amount"] g24 h24) (d__law_pick : D K mg "_law_pick" s__law_pick ["_law_rng", "_law_terms"] g25 h25) (d__law_same : D K mg "_law_same" s__law_same ["_law_result", "_law_expected"] g26 h26) (d__law_term : D K mg "_law_term" s__law_term ["_law_rng", "_law_many", "_law_cap"] g27 h27) (d__law_comb : D K mg "_law_comb" s__law_comb ["_law_many", "_law_onleft"] g28 h28) (d__law_any_term : D K mg "_law_any_term" s__law_any_term ["_law_rng", "_law_top"] g29 h29) (d__law_size : D K mg "_law_size" s__law_size ["_law_term_here"] g30 h30) (d__law_depth : D K mg "_law_depth" s__law_depth ["_law_term_here"] g31 h31) (d__law_fits : D K mg "_law_fits" s__law_fits ["_law_term_here", "_law_top"] g32 h32) (d__law_paths : D K mg "_law_paths" s__law_paths ["_law_term_here", "_law_spot"] g33 h33) (d__law_subterm : D K mg "_law_subterm" s__law_subterm ["_law_term_here", "_law_spot"] g34 h34) (d__law_replace : D K mg "_law_replace" s__law_replace ["_law_term_here", "_law_spot", "_law_new"] g35 h35) (d__law_expanded : D K mg "_law_expanded" s__law_expanded ["_law_some"] g36 h36) (d__law_contracted : D K mg "_law_contracted" s__law_contracted ["_law_some"] g37 h37) (d__law_rewrite : D K mg "_law_rewrite" s__law_rewrite ["_law_term_here", "_law_spot", "_law_onward"] g38 h38) (d__law_steps : D K mg "_law_steps" s__law_steps ["_law_term_here"] g39 h39) (d__law_rewritten : D K mg "_law_rewritten" s__law_rewritten ["_law_rng", "_law_term_here", "_law_turns", "_law_top"] g40 h40) (d__law_sign : D K mg "_law_sign" s__law_sign ["_law_number"] g41 h41) (d__law_inverse : D K mg "_law_inverse" s__law_inverse ["_law_row"] g42 h42) (d__law_shift : D K mg "_law_shift" s__law_shift ["_law_row", "_law_step"] g43 h43) (d__law_word : D K mg "_law_word" s__law_word ["_law_term_here"] g44 h44) (d__law_braided : D K mg "_law_braided" s__law_braided ["_law_first", "_law_second", "_law_third"] g45 h45) (d__law_move : D K mg "_law_move" s__law_move ["_law_row", "_law_move_here"] g46 h46) (d__law_apply_moves : D K mg "_law_apply_moves" s__law_apply_moves ["_law_row", "_law_moves"] g47 h47) (d__law_joint_word : D K mg "_law_joint_word" s__law_joint_word ["_law_one", "_law_other"] g48 h48) (d__law_check : D K mg "_law_check" s__law_check ["_law_one", "_law_other", "_law_told"] g49 h49) (d__law_pair : D K mg "_law_pair" s__law_pair ["_law_rng", "_law_top"] g50 h50) (d__law_altered : D K mg "_law_altered" s__law_altered ["_law_rng", "_law_told"] g51 h51) :
    FnOk P w K mg base CX0 60 f fd ["_law_script"] (spLaw K) := by
  have G__law_draws : FnOk P w K mg base CX0 1 g23 h23 ["_law_script"] (spDraws K) := ok__law_draws d__law_draws B
  have G__law_draw : FnOk P w K mg base CX0 1 g24 h24 ["_law_rng", "_law_amount"] spDrawC := ok__law_drawC d__law_draw B
  have G__law_pick : FnOk P w K mg base CX0 2 g25 h25 ["_law_rng", "_law_terms"] (spPickC K) := ok__law_pickC d__law_pick B d__law_draw
  have G__law_same : FnOk P w K mg base CX0 2 g26 h26 ["_law_result", "_law_expected"] (spSame K 2) := ok__law_same d__law_same B 2
  have G__law_any_term : FnOk P w K mg base CX0 9 g29 h29 ["_law_rng", "_law_top"] (spAnyC K) := ok__law_any_termC d__law_any_term B d__law_draw d__law_comb d__law_term
  have G__law_pair : FnOk P w K mg base CX0 14 g50 h50 ["_law_rng", "_law_top"] (spPair32 K) := ok__law_pair d__law_pair B d__law_draw d__law_pick d__law_comb d__law_term d__law_any_term d__law_rewritten d__law_size d__law_depth d__law_fits d__law_steps d__law_paths d__law_rewrite d__law_subterm d__law_expanded d__law_replace d__law_contracted
  have G__law_joint_word : FnOk P w K mg base CX0 10 g48 h48 ["_law_one", "_law_other"] (spJoint K) := ok__law_joint_word d__law_joint_word B d__law_sign d__law_shift d__law_inverse d__law_word
  have G__law_apply_moves : FnOk P w K mg base CX0 4 g47 h47 ["_law_row", "_law_moves"] (spLApX K) := ok__law_apply_moves d__law_apply_moves B BW d__law_sign d__law_braided d__law_move
  have G__law_check : FnOk P w K mg base CX0 11 g49 h49 ["_law_one", "_law_other", "_law_told"] (spLChk K) := ok__law_check d__law_check B d__law_joint_word d__law_apply_moves G__law_joint_word G__law_apply_moves
  have G__law_altered : FnOk P w K mg base CX0 3 g51 h51 ["_law_rng", "_law_told"] (spAlt K) := ok__law_altered d__law_altered B d__law_draw d__law_pick
  have G_check_term : FnOk P w K mg base CX0 3 g2 h2 ["term"] (spOkTerm K .non) := ok_check_term d_check_term B C d_is_pair d_is_term
  have G_reduced_form : FnOk P w K mg base CX0 4 g13 h13 ["word"] (spRF K) := ok_reduced_form d_reduced_form B BW T MK FI bI FL bL mL FH bH mH FF bF mF FR bR mR FK bK mK FP bP mP d_with_sign d_without_handle
  have G_reduction_moves : FnOk P w K mg base (L2N.CX P w) 4 g15 h15 ["word"] (spRMov K CWd) := ok_reduction_moves d_reduction_moves B BW CW EC T MK FI bI FL bL mL FH bH mH FF bF mF FR bR mR FK bK mK FP bP mP d_is_letter d_are_letters d_check_word d_with_sign d_without_handle d_removing_moves
  have G_apply_moves : FnOk P w K mg base (L2N.CX P w) 5 g11 h11 ["word", "moves"] (spApply K CWd CS) := ok_apply_moves d_apply_moves B BW CW EC FLS nS mW kW d_is_letter d_are_letters d_check_word d_with_sign d_change_of d_insertion_of d_replaced_by d_braided
  have G_joint_word : FnOk P w K mg base CX0 10 g19 h19 ["one", "other"] (spJoint K) := ok_joint_word d_joint_word B BW d_inverse_of d_with_sign d_shifted_by d_word_below
  have G_shown_by : FnOk P w K mg base CX0 1 g20 h20 ["last"] (spShown K) := ok_shown_by d_shown_by B BW
  have G_certificate : FnOk P w K mg base CX0 12 g21 h21 ["one", "other"] (spCert K) := ok_certificate d_certificate B BW d_check_term d_joint_word d_reduced_form d_shown_by d_reduction_moves G_check_term G_joint_word G_reduced_form G_shown_by G_reduction_moves
  have G_check_certificate : FnOk P w K mg base (L2C.CX P w) 12 g22 h22 ["one", "other", "claimed"] (spCkC K) := ok_check_certificate d_check_certificate B BW gS xS d_check_term d_joint_word d_apply_moves d_shown_by G_check_term G_joint_word G_apply_moves G_shown_by
  refine d.F.ok sc_law (fun vs H Q E h => ?_) (fun cdv A outer s H vs Q E hr h => ?_)
  · obtain ⟨_, _, rfl, _⟩ := h
    rfl
  obtain ⟨a, ns, rfl, hS, q⟩ := h
  refine ⟨_, (pss_cons (ps_set (i := 1) sc_law.nd rfl (Or.inl rfl) (pe_call G__law_draws (hr.mono (by decide)) rfl d__law_draws.m d__law_draws.F.kp d__law_draws.b .nil pass0 (pa_cons (pv 0) pa_nil)))
 (pss_cons (ps_for PassesOwn.never rfl (pi_range1 (by rfl) B.range (pa_cons pe_int pa_nil)) (pg_name (i := 2) sc_law.nd rfl (Or.inl rfl))
  (pss_cons (ps_asg (pe_call G__law_pair (hr.mono (by decide)) rfl d__law_pair.m d__law_pair.F.kp d__law_pair.b .nil pass0 (pa_cons (pv 1) (pa_cons pe_int pa_nil))) (pg_tup (by rfl) (pgs_cons (pg_name (i := 3) sc_law.nd rfl (Or.inl rfl)) (pgs_cons (pg_name (i := 4) sc_law.nd rfl (Or.inl rfl)) pgs_nil))))
 (pss_cons (ps_set (i := 5) sc_law.nd rfl (Or.inl rfl) (pe_call G_certificate (hr.mono (by decide)) rfl d_certificate.m d_certificate.F.kp d_certificate.b .nil pass0 (pa_cons (pv 3) (pa_cons (pv 4) pa_nil))))
 (pss_one (ps_for PassesOwn.never rfl (pi_range1 (by rfl) B.range (pa_cons pe_int pa_nil)) (pg_name (i := 6) sc_law.nd rfl (Or.inl rfl))
  (pss_cons (ps_set (i := 7) sc_law.nd rfl (Or.inl rfl) (pe_call G__law_altered (hr.mono (by decide)) rfl d__law_altered.m d__law_altered.F.kp d__law_altered.b .nil pass0 (pa_cons (pv 1) (pa_cons (pv 5) pa_nil))))
 (C8.pss_cut (ps_if (pt_cmpR op_eq (pe_call G__law_draw (hr.mono (by decide)) rfl d__law_draw.m d__law_draw.F.kp d__law_draw.b .nil pass0 (pa_cons (pv 1) (pa_cons pe_int pa_nil))) pe_int (nomark _)) (pss_one (ps_par (i := 4) (j := 7) (by rfl) sc_law.nd rfl rfl (by decide) rfl rfl (pa_cons (pe_call G__law_any_term (hr.mono (by decide)) rfl d__law_any_term.m d__law_any_term.F.kp d__law_any_term.b .nil pass0 (pa_cons (pv 1) (pa_cons pe_int pa_nil))) (pa_cons (pv 5) pa_nil)) (by rfl))) pss_nil)
 (pss_cons (ps_asg (pv 7) (pg_tup (by rfl) (pgs_cons (pg_name (i := 8) sc_law.nd rfl (Or.inl rfl)) (pgs_cons (pg_name (i := 9) sc_law.nd rfl (Or.inl rfl)) (pgs_cons (pg_name (i := 10) sc_law.nd rfl (Or.inl rfl)) pgs_nil)))))
 (pss_cons (ps_set (i := 11) sc_law.nd rfl (Or.inl rfl) (pe_callTy call_list_of (by rfl) B.list (by decide +kernel) (pa_cons (pv 9) pa_nil)))
 (pss_cons (ps_set (i := 12) sc_law.nd rfl (Or.inl rfl) (pe_tup (pa_cons (pv 8) (pa_cons (pe_call G__law_pick (hr.mono (by decide)) rfl d__law_pick.m d__law_pick.F.kp d__law_pick.b .nil pass0 (pa_cons (pv 1) (pa_cons (pe_lst (pa_cons (pv 11) (pa_cons (pe_callTy call_tuple_of (by rfl) B.tuple (by decide +kernel) (pa_cons (pv 11) pa_nil)) pa_nil))) pa_nil))) (pa_cons (pv 10) pa_nil)))))
 (pss_cons (ps_set (i := 13) sc_law.nd rfl (Or.inl rfl) (pe_call G__law_check (hr.mono (by decide)) rfl d__law_check.m d__law_check.F.kp d__law_check.b .nil pass0 (pa_cons (pv 3) (pa_cons (pv 4) (pa_cons (pv 7) pa_nil)))))
 (pss_one (ps_if (PW.pt (pw_or (pt_not (pt_val (pe_call G__law_same (hr.mono (by decide)) rfl d__law_same.m d__law_same.F.kp d__law_same.b .nil pass0 (pa_cons (pe_call G_check_certificate (hr.mono (by decide)) rfl d_check_certificate.m d_check_certificate.F.kp d_check_certificate.b .nil passC0 (pa_cons (pv 3) (pa_cons (pv 4) (pa_cons (pv 12) pa_nil)))) (pa_cons (pv 13) pa_nil))))) (pw_or1 (pt_cmpR (op_neD hr.units) (pv 11) (pv 9) (nomark _))))) (pss_one (ps_ret pe_bl)) pss_nil)))))))))))))
 (pss_cons (ps_if (pt_cmpR op_isnot_bl (pe_call G_check_certificate (hr.mono (by decide)) rfl d_check_certificate.m d_check_certificate.F.kp d_check_certificate.b .nil passC0 (pa_cons (pe_tup pa_nil) (pa_cons (pe_mk (d := (Tree.N .L .L).d) (pe_tup (pa_cons (pe_tup pa_nil) (pa_cons (pe_tup pa_nil) pa_nil))) (mk2 mk0 mk0)) (pa_cons (pe_tup (pa_cons pe_str (pa_cons (pe_lst pa_nil) (pa_cons (pe_tup (pa_cons pe_int pa_nil)) pa_nil)))) pa_nil)))) pe_bl (nomark _)) (pss_one (ps_ret pe_bl)) pss_nil)
 (pss_one (ps_ret (pe_cmpR op_is_bl (pe_call G_check_certificate (hr.mono (by decide)) rfl d_check_certificate.m d_check_certificate.F.kp d_check_certificate.b .nil passC0 (pa_cons (pe_tup pa_nil) (pa_cons (pe_tup pa_nil) (pa_cons (pe_tup (pa_cons pe_str (pa_cons (pe_lst pa_nil) (pa_cons (pe_tup pa_nil) pa_nil)))) pa_nil)))) pe_bl (nomark _))))))), ?_⟩
  refine ⟨_, rfl, a, ns, rfl, hS, fun r H1 s1 _ R1 => ?_⟩
  obtain ⟨c, R1⟩ := R1.toC
  refine ⟨3, rfl, by decide, by decide, for_range (lo := 0) (n := 3) (fun i σ G => ∃ (x2 x3 x4 x5 x6 x7 x8 x9 x10 x11 x12 x13 : Option V), σ = [some (.ref a), some (.ref r), x2, x3, x4, x5, x6, x7, x8, x9, x10, x11, x12, x13] ∧ RngC G r c) ⟨_, _, _, _, _, _, _, _, _, _, _, _, rfl, R1⟩ ?_ ?_⟩
  · clear R1
    rintro i σ H2 hi ⟨x2, x3, x4, x5, x6, x7, x8, x9, x10, x11, x12, x13, rfl, R2⟩
    refine ⟨_, rfl, r, c, rfl, R2, fun qq x y t u H3 hp aX aY z1 d1 z2 d2 rel R3 b3 => ⟨qq, _, rfl, hp, rfl, _, _, rfl, _, _, rfl, rfl, ?_⟩⟩
    obtain ⟨rr, kk, zz, hk, hrr, hmv, hjl, hsv⟩ := rel
    refine ⟨_, rfl, _, rfl, x, y, t, u, rr, kk, rfl, aX, aY, by omega, d1, by omega, d2, by omega, hrr, by omega, fun w m l us H4 hw hm hM hl s4 => ?_⟩
    rw [hsv] at hw
    have hAr := mvsF_okM kk [] (jw t u)
    have hmr := mv_ne (R3.same s4) hm hM
    have hls : us.length ≤ 380 := by rw [hM.1]; omega
    have hlr := redF_len hrr
    have aX := ta_mono (Tp.same s4) aX
    have aY := ta_mono (Tp.same s4) aY
    have R4 := R3.same s4
    obtain ⟨S8, S6, CL⟩ := cl32_of z1
    generalize mvsF kk [] (jw t u) = ms at *
    clear hp R2 R3 b3 s4 hmv hrr
    refine ⟨3, rfl, by decide, by decide, for_range (lo := 0) (n := 3) (fun j σ G => ∃ (y : V) (u : Tree) (x6 x7 x8 x9 x10 x11 x12 x13 : Option V), σ = [some (.ref a), some (.ref r), some (.int (0 + i)), some x, some y, some (.ref w), x6, x7, x8, x9, x10, x11, x12, x13] ∧ RngC G r c ∧ TA K G x t ∧ TA K G y u ∧ u.sz ≤ 8 ∧ u.dp ≤ 6 ∧ (jw t u).length ≤ 100 ∧ SqT K G w [.str zz, .ref m, .ref l] ∧ G m = some (.lst us) ∧ MvTs K G us ms ∧ WT K G l rr) ⟨_, u, _, _, _, _, _, _, _, _, rfl, R4, aX, aY, z2, d2, hjl, hw, hm, hM, hl⟩ ?_ ?_⟩
    · clear hjl z2 d2 hsv
      rintro j σ G1 hj ⟨y, u, x6, x7, x8, x9, x10, x11, x12, x13, rfl, R5, aX, aY, z2, d2, hjl, hw, hm, hM, hl⟩
      refine ⟨_, rfl, _, rfl, r, c, w, m, l, zz, us, ms, rr, rfl, R5, hw, hm, hmr, hM, hAr, by omega, hl, hlr, fun q2 m2 l2 w2 us2 ms2 last2 G2 hq2 hm2 m2r hM2 hA2 hu2 hl2 R6 b6 => ?_⟩
      have tp6 := R5.tp b6
      refine ⟨fun σ G => ∃ (y : V) (u : Tree) (q2 m2 l2 : Addr) (w2 : Str) (us2 : List V) (ms2 : List (Str × List Int)) (last2 : List Int), σ = [some (.ref a), some (.ref r), some (.int (0 + i)), some x, some y, some (.ref w), some (.int (0 + j)), some (.ref q2), x8, x9, x10, x11, x12, x13] ∧ RngC G r c ∧ TA K G x t ∧ TA K G y u ∧ u.sz ≤ 8 ∧ u.dp ≤ 6 ∧ (jw t u).length ≤ 100 ∧ SqT K G w [.str zz, .ref m, .ref l] ∧ G m = some (.lst us) ∧ MvTs K G us ms ∧ WT K G l rr ∧ SqT K G q2 [.str w2, .ref m2, .ref l2] ∧ G m2 = some (.lst us2) ∧ m2 ≠ r ∧ MvTs K G us2 ms2 ∧ (∀ z ∈ ms2, MvOk z) ∧ us2.length ≤ 382 ∧ WT K G l2 last2, ?_, ?_⟩
      · refine ⟨_, rfl, r, 6, c, rfl, R6, by decide, by decide, fun dr G3 d0 d6 R7 b7 => ⟨rfl, _, rfl, ite2 (fun c1 => ?_) (fun c1 => ?_)⟩⟩
        · refine ⟨_, rfl, r, 6, c, rfl, by decide, by decide, R7, fun y2 u2 G4 aZ zz2 dd2 R8 b8 => ⟨_, rfl, _, _, rfl, ?_⟩⟩
          have tp8 := (tp6.trans (R6.tp b7)).trans (R7.tp b8)
          have b68 := (b6.trans b7).trans b8
          obtain ⟨_, _, _, _, _, _, jl, _⟩ := CL.r2 u2 (by omega)
          exact ⟨y2, u2, w, m, l, zz, us, ms, rr, rfl, R8, ta_mono tp8 aX, aZ, by omega, dd2, jl, tp8.sqT hw, b68 _ _ hmr hm, hM.tp tp8, tp8.sqT hl, tp8.sqT hw, b68 _ _ hmr hm, hmr, hM.tp tp8, hAr, by omega, tp8.sqT hl⟩
        · have tp7 := R6.tp b7
          have tp67 := tp6.trans tp7
          have b67 := b6.trans b7
          exact ⟨y, u, q2, m2, l2, w2, us2, ms2, last2, rfl, R7, ta_mono tp67 aX, ta_mono tp67 aY, z2, d2, hjl, tp67.sqT hw, b67 _ _ hmr hm, hM.tp tp67, tp67.sqT hl, tp7.sqT hq2, b7 _ _ m2r hm2, m2r, hM2.tp tp7, hA2, by omega, tp7.sqT hl2⟩
      clear hq2 hm2 m2r hM2 hA2 hu2 hl2 z2 d2 hjl
      rintro σ G3 ⟨y, u, q2, m2, l2, w2, us2, ms2, last2, rfl, R7, aX, aY, z2, d2, hjl, hw, hm, hM, hl, hq2, hm2, m2r, hM2, hA2, hu2, hl2⟩
      refine ⟨_, rfl, q2, _, rfl, hq2, rfl, _, _, rfl, _, _, rfl, _, _, rfl, rfl, ?_⟩
      refine ⟨_, rfl, m2, us2, rfl, .inl (SqL.here hm2), fun cp ncp => ?_⟩
      have scp := Same.new ncp (.lst us2)
      have R8 := R7.same scp
      have cpr := (R7.ne ncp).1
      refine ⟨_, rfl, _, rfl, _, rfl, _, rfl, cp, us2, rfl, .inl ⟨SqL.here upd_same, fun tpp ntp => ?_⟩⟩
      have stp := Same.new ntp (.tup us2)
      refine ⟨two_le, fun g ng => ?_⟩
      have sg := Same.new ng (.lst [.ref cp, .ref tpp])
      have s13 := scp.trans (stp.trans sg)
      refine ⟨r, g, c, _, rfl, R7.same s13, .inl (SqL.here upd_same), (by show 0 < 2; decide), (by show 2 ≤ 10000; decide), ((R8.same stp).ne ng).1, fun v G4 hv R9 b9 => ?_⟩
      have tp9 := (R7.same s13).tp b9
      have tpA := (Tp.same s13).trans tp9
      have bA : But r G3 G4 := (But.same s13).trans b9
      have hcp : G4 cp = some (.lst us2) := b9 _ _ cpr ((stp.trans sg) _ _ upd_same)
      obtain ⟨pm, rfl, hpm⟩ : ∃ pm, v = .ref pm ∧ (SqL K G4 pm us2 ∨ SqT K G4 pm us2) := by
        simp only [List.mem_cons, List.not_mem_nil, or_false] at hv
        rcases hv with rfl | rfl
        · exact ⟨_, rfl, .inl (SqL.here hcp)⟩
        · exact ⟨_, rfl, .inr (tp9.sqT ((Tp.same sg).sqT (SqT.here upd_same)))⟩
      refine ⟨_, rfl, three_le, fun ar nar => ?_⟩
      have sar := Same.new nar (.tup [.str w2, .ref pm, .ref l2])
      have tpB := tpA.trans (Tp.same sar)
      have hpm := hpm.imp (fun z => sar.seq z) (fun z => (Tp.same sar).sqT z)
      have har : SqT K (upd G4 ar (.tup [.str w2, .ref pm, .ref l2])) ar [.str w2, .ref pm, .ref l2] := SqT.here upd_same
      have hcp := sar _ _ hcp
      have R10 := R9.same sar
      have bB : But r G3 (upd G4 ar (.tup [.str w2, .ref pm, .ref l2])) := bA.trans (But.same sar)
      generalize upd G4 ar (.tup [.str w2, .ref pm, .ref l2]) = G5 at *
      have hmm := bB _ _ hmr hm
      have hmm2 := bB _ _ m2r hm2
      have hM := hM.tp tpB
      have hM2 := hM2.tp tpB
      have hw := tpB.sqT hw
      have hl : WT K G5 l rr := tpB.sqT hl
      have hl2 : WT K G5 l2 last2 := tpB.sqT hl2
      have hq2 := tpB.sqT hq2
      have aX := ta_mono tpB aX
      have aY := ta_mono tpB aY
      have hlm : us2.length = ms2.length := hM2.1
      clear tpB tpA tp9 bA bB b9 R7 R8 R9 scp stp sg s13 sar
      refine ⟨_, rfl, _, rfl, _, rfl, x, y, t, u, q2, m2, l2, w2, us2, ms2, last2, rfl, aX, aY, by omega, d1, by omega, d2, hq2, hmm2, hM2, fun z hz => (hA2 z hz).1, by omega, by omega, hl2, fun G6 s6 => ?_⟩
      have tp6 := Tp.same s6
      refine ⟨_, rfl, _, rfl, _, rfl, x, y, t, u, ar, pm, l2, w2, us2, ms2, last2, rfl, ta_mono tp6 aX, ta_mono tp6 aY, by omega, d1, by omega, d2, by omega, tp6.sqT har, hpm.imp (fun z => s6.seq z) (fun z => tp6.sqT z), hM2.tp tp6, by omega, runA_of _ _ (fun z hz => (hA2 z hz).1) (by omega), tp6.sqT hl2, fun G7 s7 => ?_⟩
      refine ⟨_, rfl, _, _, .bool (ckD t u w2 ms2 last2), rfl, .bl _, .bl _, by cases ckD t u w2 ms2 last2 <;> rfl, by cases ckD t u w2 ms2 last2 <;> decide, by cases ckD t u w2 ms2 last2 <;> rfl, fun G8 s8 => ⟨true, rfl, iteF ?_⟩⟩
      have s68 := s6.trans (s7.trans s8)
      refine ⟨_, rfl, _, rfl, msD ms2, msD ms2, .lst (SqL.here (s68 _ _ hcp)) (hM2.tp (Tp.same s68)).dp, .lst (SqL.here (s68 _ _ hmm2)) (hM2.tp (Tp.same s68)).dp, msD_shaped hA2, msD_shaped hA2, _, rfl, ite_no (by rw [SeqAt.eqv_refl _ (SeqAt.canLay_of_shaped (msD_shaped hA2))]; rfl) ?_⟩
      exact ⟨y, u, _, _, _, _, _, _, _, _, rfl, R10.same s68, ta_mono (Tp.same s68) aX, ta_mono (Tp.same s68) aY, z2, d2, hjl, (Tp.same s68).sqT hw, s68 _ _ hmm, hM.tp (Tp.same s68), (Tp.same s68).sqT hl⟩
    · rintro σ G ⟨y, u, x6, x7, x8, x9, x10, x11, x12, x13, rfl, R5, _⟩
      exact ⟨_, _, _, _, _, _, _, _, _, _, _, _, rfl, R5⟩
  · rintro σ G ⟨x2, x3, x4, x5, x6, x7, x8, x9, x10, x11, x12, x13, rfl, R3⟩
    refine ⟨zero_le', fun e1 n1 => fun v G1 s1 hv => ⟨zero_le', fun m1 nm1 => ⟨one_le, fun w1 nw1 => ⟨three_le, fun q1 nq1 => ?_⟩⟩⟩⟩
    have t1 := Same.new n1 (.tup [])
    have t2 := Same.new nm1 (.lst [])
    have t3 := Same.new nw1 (.tup [.int 1])
    have t4 := Same.new nq1 (.tup [.str "less", .ref m1, .ref w1])
    have hL : TA K (upd (upd (upd G1 m1 (.lst [])) w1 (.tup [.int 1])) q1 (.tup [.str "less", .ref m1, .ref w1])) (.ref e1) .L := Dp.tup ((Tp.same (s1.trans (t2.trans (t3.trans t4)))).sqT (SqT.here upd_same)) .nil
    have hW1 : WT K (upd (upd (upd G1 m1 (.lst [])) w1 (.tup [.int 1])) q1 (.tup [.str "less", .ref m1, .ref w1])) w1 [1] := (Tp.same t4).sqT (SqT.here upd_same)
    refine ⟨_, _, .L, .N .L .L, q1, m1, w1, "less", [], [], [1], rfl, hL, ta_mono (Tp.same (t2.trans (t3.trans t4))) hv, by decide, by decide, by decide, by decide, by decide, SqT.here upd_same, .inl (SqL.here ((t3.trans t4) _ _ upd_same)), MvTs.nil, by decide, by show (jw .L (.N .L .L)).length ≤ 900; decide, hW1, fun G2 s2 => ?_⟩
    have k1 : ckD .L (.N .L .L) "less" [] [1] = true := by decide +kernel
    have k2 : ckD .L .L "less" [] [] = false := by decide +kernel
    rw [k1]
    refine ⟨_, _, rfl, rfl, _, rfl, ite_no rfl ?_⟩
    refine ⟨zero_le', fun e2 n2 => ⟨zero_le', fun e3 n3 => ⟨zero_le', fun m2 nm2 => ⟨zero_le', fun w2 nw2 => ⟨three_le, fun q2 nq2 => ?_⟩⟩⟩⟩⟩
    have t5 := Same.new n3 (.tup [])
    have t6 := Same.new nm2 (.lst [])
    have t7 := Same.new nw2 (.tup [])
    have t8 := Same.new nq2 (.tup [.str "less", .ref m2, .ref w2])
    refine ⟨_, _, .L, .L, q2, m2, w2, "less", [], [], [], rfl, Dp.tup ((Tp.same (t5.trans (t6.trans (t7.trans t8)))).sqT (SqT.here upd_same)) .nil, Dp.tup ((Tp.same (t6.trans (t7.trans t8))).sqT (SqT.here upd_same)) .nil, by decide, by decide, by decide, by decide, by decide, SqT.here upd_same, .inl (SqL.here ((t7.trans t8) _ _ upd_same)), MvTs.nil, by decide, by show (jw .L .L).length ≤ 900; decide, (Tp.same t8).sqT (SqT.here upd_same), fun G3 s3 => ?_⟩
    rw [k2]
    exact ⟨_, _, rfl, rfl, q _⟩

end
theorem all_mk {l : PySem.W.OpenLaw} {w : World} {K : PySem.W.Frag} {h : Heap} {mg : Str → Option Value} {fa : Addr} (X : K.In h) (G : h.Ns mainGlobals mg) (hfa : mg "law" = some (.ref fa))
    {g0 g1 g2 g3 g4 g5 g6 g7 g8 g9 g10 g11 g12 g13 g14 g15 g16 g17 g18 g19 g20 g21 g22 g23 g24 g25 g26 g27 g28 g29 g30 g31 g32 g33 g34 g35 g36 g37 g38 g39 g40 g41 g42 g43 g44 g45 g46 g47 g48 g49 g50 g51 g52 : Addr}
    {od0 an0 od1 an1 od2 an2 od3 an3 od4 an4 od5 an5 od6 an6 od7 an7 od8 an8 od9 an9 od10 an10 od11 an11 od12 an12 od13 an13 od14 an14 od15 an15 od16 an16 od17 an17 od18 an18 od19 an19 od20 an20 od21 an21 od22 an22 od23 an23 od24 an24 od25 an25 od26 an26 od27 an27 od28 an28 od29 an29 od30 an30 od31 an31 od32 an32 od33 an33 od34 an34 od35 an35 od36 an36 od37 an37 od38 an38 od39 an39 od40 an40 od41 an41 od42 an42 od43 an43 od44 an44 od45 an45 od46 an46 od47 an47 od48 an48 od49 an49 od50 an50 od51 an51 od52 an52 : Option Addr}
    {sl0 sl1 sl2 sl3 sl4 sl5 sl6 sl7 sl8 sl9 sl10 sl11 sl12 sl13 sl14 sl15 sl16 sl17 sl18 sl19 sl20 sl21 sl22 sl23 sl24 sl25 sl26 sl27 sl28 sl29 sl30 sl31 sl32 sl33 sl34 sl35 sl36 sl37 sl38 sl39 sl40 sl41 sl42 sl43 sl44 sl45 sl46 sl47 sl48 sl49 sl50 sl51 sl52 : Array (Option Value)}
    {oc0 kV0 dc0 pm0 cd0 ct0 oc1 kV1 dc1 pm1 cd1 ct1 oc2 kV2 dc2 pm2 cd2 ct2 oc3 kV3 dc3 pm3 cd3 ct3 oc4 kV4 dc4 pm4 cd4 ct4 oc5 kV5 dc5 pm5 cd5 ct5 oc6 kV6 dc6 pm6 cd6 ct6 oc7 kV7 dc7 pm7 cd7 ct7 oc8 kV8 dc8 pm8 cd8 ct8 oc9 kV9 dc9 pm9 cd9 ct9 oc10 kV10 dc10 pm10 cd10 ct10 oc11 kV11 dc11 pm11 cd11 ct11 oc12 kV12 dc12 pm12 cd12 ct12 oc13 kV13 dc13 pm13 cd13 ct13 oc14 kV14 dc14 pm14 cd14 ct14 oc15 kV15 dc15 pm15 cd15 ct15 oc16 kV16 dc16 pm16 cd16 ct16 oc17 kV17 dc17 pm17 cd17 ct17 oc18 kV18 dc18 pm18 cd18 ct18 oc19 kV19 dc19 pm19 cd19 ct19 oc20 kV20 dc20 pm20 cd20 ct20 oc21 kV21 dc21 pm21 cd21 ct21 oc22 kV22 dc22 pm22 cd22 ct22 oc23 kV23 dc23 pm23 cd23 ct23 oc24 kV24 dc24 pm24 cd24 ct24 oc25 kV25 dc25 pm25 cd25 ct25 oc26 kV26 dc26 pm26 cd26 ct26 oc27 kV27 dc27 pm27 cd27 ct27 oc28 kV28 dc28 pm28 cd28 ct28 oc29 kV29 dc29 pm29 cd29 ct29 oc30 kV30 dc30 pm30 cd30 ct30 oc31 kV31 dc31 pm31 cd31 ct31 oc32 kV32 dc32 pm32 cd32 ct32 oc33 kV33 dc33 pm33 cd33 ct33 oc34 kV34 dc34 pm34 cd34 ct34 oc35 kV35 dc35 pm35 cd35 ct35 oc36 kV36 dc36 pm36 cd36 ct36 oc37 kV37 dc37 pm37 cd37 ct37 oc38 kV38 dc38 pm38 cd38 ct38 oc39 kV39 dc39 pm39 cd39 ct39 oc40 kV40 dc40 pm40 cd40 ct40 oc41 kV41 dc41 pm41 cd41 ct41 oc42 kV42 dc42 pm42 cd42 ct42 oc43 kV43 dc43 pm43 cd43 ct43 oc44 kV44 dc44 pm44 cd44 ct44 oc45 kV45 dc45 pm45 cd45 ct45 oc46 kV46 dc46 pm46 cd46 ct46 oc47 kV47 dc47 pm47 cd47 ct47 oc48 kV48 dc48 pm48 cd48 ct48 oc49 kV49 dc49 pm49 cd49 ct49 oc50 kV50 dc50 pm50 cd50 ct50 oc51 kV51 dc51 pm51 cd51 ct51 oc52 kV52 dc52 pm52 cd52 ct52 : Value}
    {t_MAX_SIZE : Tok}
    {t_MAX_DEPTH : Tok}
    {t_MAX_LETTER : Tok}
    {t_MAX_LETTERS : Tok}
    {Cp : Addr} {m0 : Addr} {mod0 man0 : Option Addr} {msl0 : Array (Option Value)} {moc0 mkV0 mdc0 mpm0 mcd0 mct0 : Value} {m1 : Addr} {mod1 man1 : Option Addr} {msl1 : Array (Option Value)} {moc1 mkV1 mdc1 mpm1 mcd1 mct1 : Value} {m2 : Addr} {mod2 man2 : Option Addr} {msl2 : Array (Option Value)} {moc2 mkV2 mdc2 mpm2 mcd2 mct2 : Value} {m3 : Addr} {mod3 man3 : Option Addr} {msl3 : Array (Option Value)} {moc3 mkV3 mdc3 mpm3 mcd3 mct3 : Value} {m4 : Addr} {mod4 man4 : Option Addr} {msl4 : Array (Option Value)} {moc4 mkV4 mdc4 mpm4 mcd4 mct4 : Value} {m5 : Addr} {mod5 man5 : Option Addr} {msl5 : Array (Option Value)} {moc5 mkV5 mdc5 mpm5 mcd5 mct5 : Value} {m6 : Addr} {mod6 man6 : Option Addr} {msl6 : Array (Option Value)} {moc6 mkV6 mdc6 mpm6 mcd6 mct6 : Value} {ex0 : Addr} {x9 : Addr} {tf9 tcd9 tcc9 tN9 : Addr} {to9 tkV9 tdc9 tpm9 tct9 tcl9 tccl9 : Value} {td9 tan9 tcdd9 tccd9 tdd9 : Option Addr} {tsl9 tcs9 tccs9 : Array (Option Value)} {tcv9 : Array Value} {tfile9 tnm9 tq9 : Str} {tft9 : Tok} {tbs9 tbm9 tsub9 : List Value} {tsn9 : List Str} {tab9 : Bool} {tcol9 : Option Bool} {tk0_9 tk1_9 tk2_9 tk3_9 tk5_9 : Option Value} {WD : Addr} {ta0 ta1 ta2 tb0 tb1 tb2 : Tok} {hh0 hh1 hh2 : Int} {wn : Nat}
    (a0 : PySem.W.nsIn K mainGlobals "is_pair" = some (some (.ref g0))) (l0 : K.lookup g0 = some ⟨oc0, od0, .func (PySem.W.fnOf "is_pair" "is_pair" (defArgs s_is_pair) (defBody s_is_pair) (defScope s_is_pair) .none kV0 dc0 pm0 an0 cd0 ct0), sl0⟩) (c0 : PySem.W.codeIn K cd0 "is_pair" = true) (k0 : PySem.W.keepIn K (.ref g0) = true)
    (a1 : PySem.W.nsIn K mainGlobals "is_term" = some (some (.ref g1))) (l1 : K.lookup g1 = some ⟨oc1, od1, .func (PySem.W.fnOf "is_term" "is_term" (defArgs s_is_term) (defBody s_is_term) (defScope s_is_term) .none kV1 dc1 pm1 an1 cd1 ct1), sl1⟩) (c1 : PySem.W.codeIn K cd1 "is_term" = true) (k1 : PySem.W.keepIn K (.ref g1) = true)
    (a2 : PySem.W.nsIn K mainGlobals "check_term" = some (some (.ref g2))) (l2 : K.lookup g2 = some ⟨oc2, od2, .func (PySem.W.fnOf "check_term" "check_term" (defArgs s_check_term) (defBody s_check_term) (defScope s_check_term) .none kV2 dc2 pm2 an2 cd2 ct2), sl2⟩) (c2 : PySem.W.codeIn K cd2 "check_term" = true) (k2 : PySem.W.keepIn K (.ref g2) = true)
    (a3 : PySem.W.nsIn K mainGlobals "is_letter" = some (some (.ref g3))) (l3 : K.lookup g3 = some ⟨oc3, od3, .func (PySem.W.fnOf "is_letter" "is_letter" (defArgs s_is_letter) (defBody s_is_letter) (defScope s_is_letter) .none kV3 dc3 pm3 an3 cd3 ct3), sl3⟩) (c3 : PySem.W.codeIn K cd3 "is_letter" = true) (k3 : PySem.W.keepIn K (.ref g3) = true)
    (a4 : PySem.W.nsIn K mainGlobals "are_letters" = some (some (.ref g4))) (l4 : K.lookup g4 = some ⟨oc4, od4, .func (PySem.W.fnOf "are_letters" "are_letters" (defArgs s_are_letters) (defBody s_are_letters) (defScope s_are_letters) .none kV4 dc4 pm4 an4 cd4 ct4), sl4⟩) (c4 : PySem.W.codeIn K cd4 "are_letters" = true) (k4 : PySem.W.keepIn K (.ref g4) = true)
    (a5 : PySem.W.nsIn K mainGlobals "check_word" = some (some (.ref g5))) (l5 : K.lookup g5 = some ⟨oc5, od5, .func (PySem.W.fnOf "check_word" "check_word" (defArgs s_check_word) (defBody s_check_word) (defScope s_check_word) .none kV5 dc5 pm5 an5 cd5 ct5), sl5⟩) (c5 : PySem.W.codeIn K cd5 "check_word" = true) (k5 : PySem.W.keepIn K (.ref g5) = true)
    (a6 : PySem.W.nsIn K mainGlobals "with_sign" = some (some (.ref g6))) (l6 : K.lookup g6 = some ⟨oc6, od6, .func (PySem.W.fnOf "with_sign" "with_sign" (defArgs s_with_sign) (defBody s_with_sign) (defScope s_with_sign) .none kV6 dc6 pm6 an6 cd6 ct6), sl6⟩) (c6 : PySem.W.codeIn K cd6 "with_sign" = true) (k6 : PySem.W.keepIn K (.ref g6) = true)
    (a7 : PySem.W.nsIn K mainGlobals "braided" = some (some (.ref g7))) (l7 : K.lookup g7 = some ⟨oc7, od7, .func (PySem.W.fnOf "braided" "braided" (defArgs s_braided) (defBody s_braided) (defScope s_braided) .none kV7 dc7 pm7 an7 cd7 ct7), sl7⟩) (c7 : PySem.W.codeIn K cd7 "braided" = true) (k7 : PySem.W.keepIn K (.ref g7) = true)
    (a8 : PySem.W.nsIn K mainGlobals "replaced_by" = some (some (.ref g8))) (l8 : K.lookup g8 = some ⟨oc8, od8, .func (PySem.W.fnOf "replaced_by" "replaced_by" (defArgs s_replaced_by) (defBody s_replaced_by) (defScope s_replaced_by) .none kV8 dc8 pm8 an8 cd8 ct8), sl8⟩) (c8 : PySem.W.codeIn K cd8 "replaced_by" = true) (k8 : PySem.W.keepIn K (.ref g8) = true)
    (a9 : PySem.W.nsIn K mainGlobals "insertion_of" = some (some (.ref g9))) (l9 : K.lookup g9 = some ⟨oc9, od9, .func (PySem.W.fnOf "insertion_of" "insertion_of" (defArgs s_insertion_of) (defBody s_insertion_of) (defScope s_insertion_of) .none kV9 dc9 pm9 an9 cd9 ct9), sl9⟩) (c9 : PySem.W.codeIn K cd9 "insertion_of" = true) (k9 : PySem.W.keepIn K (.ref g9) = true)
    (a10 : PySem.W.nsIn K mainGlobals "change_of" = some (some (.ref g10))) (l10 : K.lookup g10 = some ⟨oc10, od10, .func (PySem.W.fnOf "change_of" "change_of" (defArgs s_change_of) (defBody s_change_of) (defScope s_change_of) .none kV10 dc10 pm10 an10 cd10 ct10), sl10⟩) (c10 : PySem.W.codeIn K cd10 "change_of" = true) (k10 : PySem.W.keepIn K (.ref g10) = true)
    (a11 : PySem.W.nsIn K mainGlobals "apply_moves" = some (some (.ref g11))) (l11 : K.lookup g11 = some ⟨oc11, od11, .func (PySem.W.fnOf "apply_moves" "apply_moves" (defArgs s_apply_moves) (defBody s_apply_moves) (defScope s_apply_moves) .none kV11 dc11 pm11 an11 cd11 ct11), sl11⟩) (c11 : PySem.W.codeIn K cd11 "apply_moves" = true) (k11 : PySem.W.keepIn K (.ref g11) = true)
    (a12 : PySem.W.nsIn K mainGlobals "without_handle" = some (some (.ref g12))) (l12 : K.lookup g12 = some ⟨oc12, od12, .func (PySem.W.fnOf "without_handle" "without_handle" (defArgs s_without_handle) (defBody s_without_handle) (defScope s_without_handle) .none kV12 dc12 pm12 an12 cd12 ct12), sl12⟩) (c12 : PySem.W.codeIn K cd12 "without_handle" = true) (k12 : PySem.W.keepIn K (.ref g12) = true)
    (a13 : PySem.W.nsIn K mainGlobals "reduced_form" = some (some (.ref g13))) (l13 : K.lookup g13 = some ⟨oc13, od13, .func (PySem.W.fnOf "reduced_form" "reduced_form" (defArgs s_reduced_form) (defBody s_reduced_form) (defScope s_reduced_form) .none kV13 dc13 pm13 an13 cd13 ct13), sl13⟩) (c13 : PySem.W.codeIn K cd13 "reduced_form" = true) (k13 : PySem.W.keepIn K (.ref g13) = true)
    (a14 : PySem.W.nsIn K mainGlobals "removing_moves" = some (some (.ref g14))) (l14 : K.lookup g14 = some ⟨oc14, od14, .func (PySem.W.fnOf "removing_moves" "removing_moves" (defArgs s_removing_moves) (defBody s_removing_moves) (defScope s_removing_moves) .none kV14 dc14 pm14 an14 cd14 ct14), sl14⟩) (c14 : PySem.W.codeIn K cd14 "removing_moves" = true) (k14 : PySem.W.keepIn K (.ref g14) = true)
    (a15 : PySem.W.nsIn K mainGlobals "reduction_moves" = some (some (.ref g15))) (l15 : K.lookup g15 = some ⟨oc15, od15, .func (PySem.W.fnOf "reduction_moves" "reduction_moves" (defArgs s_reduction_moves) (defBody s_reduction_moves) (defScope s_reduction_moves) .none kV15 dc15 pm15 an15 cd15 ct15), sl15⟩) (c15 : PySem.W.codeIn K cd15 "reduction_moves" = true) (k15 : PySem.W.keepIn K (.ref g15) = true)
    (a16 : PySem.W.nsIn K mainGlobals "inverse_of" = some (some (.ref g16))) (l16 : K.lookup g16 = some ⟨oc16, od16, .func (PySem.W.fnOf "inverse_of" "inverse_of" (defArgs s_inverse_of) (defBody s_inverse_of) (defScope s_inverse_of) .none kV16 dc16 pm16 an16 cd16 ct16), sl16⟩) (c16 : PySem.W.codeIn K cd16 "inverse_of" = true) (k16 : PySem.W.keepIn K (.ref g16) = true)
    (a17 : PySem.W.nsIn K mainGlobals "shifted_by" = some (some (.ref g17))) (l17 : K.lookup g17 = some ⟨oc17, od17, .func (PySem.W.fnOf "shifted_by" "shifted_by" (defArgs s_shifted_by) (defBody s_shifted_by) (defScope s_shifted_by) .none kV17 dc17 pm17 an17 cd17 ct17), sl17⟩) (c17 : PySem.W.codeIn K cd17 "shifted_by" = true) (k17 : PySem.W.keepIn K (.ref g17) = true)
    (a18 : PySem.W.nsIn K mainGlobals "word_below" = some (some (.ref g18))) (l18 : K.lookup g18 = some ⟨oc18, od18, .func (PySem.W.fnOf "word_below" "word_below" (defArgs s_word_below) (defBody s_word_below) (defScope s_word_below) .none kV18 dc18 pm18 an18 cd18 ct18), sl18⟩) (c18 : PySem.W.codeIn K cd18 "word_below" = true) (k18 : PySem.W.keepIn K (.ref g18) = true)
    (a19 : PySem.W.nsIn K mainGlobals "joint_word" = some (some (.ref g19))) (l19 : K.lookup g19 = some ⟨oc19, od19, .func (PySem.W.fnOf "joint_word" "joint_word" (defArgs s_joint_word) (defBody s_joint_word) (defScope s_joint_word) .none kV19 dc19 pm19 an19 cd19 ct19), sl19⟩) (c19 : PySem.W.codeIn K cd19 "joint_word" = true) (k19 : PySem.W.keepIn K (.ref g19) = true)
    (a20 : PySem.W.nsIn K mainGlobals "shown_by" = some (some (.ref g20))) (l20 : K.lookup g20 = some ⟨oc20, od20, .func (PySem.W.fnOf "shown_by" "shown_by" (defArgs s_shown_by) (defBody s_shown_by) (defScope s_shown_by) .none kV20 dc20 pm20 an20 cd20 ct20), sl20⟩) (c20 : PySem.W.codeIn K cd20 "shown_by" = true) (k20 : PySem.W.keepIn K (.ref g20) = true)
    (a21 : PySem.W.nsIn K mainGlobals "certificate" = some (some (.ref g21))) (l21 : K.lookup g21 = some ⟨oc21, od21, .func (PySem.W.fnOf "certificate" "certificate" (defArgs s_certificate) (defBody s_certificate) (defScope s_certificate) .none kV21 dc21 pm21 an21 cd21 ct21), sl21⟩) (c21 : PySem.W.codeIn K cd21 "certificate" = true) (k21 : PySem.W.keepIn K (.ref g21) = true)
    (a22 : PySem.W.nsIn K mainGlobals "check_certificate" = some (some (.ref g22))) (l22 : K.lookup g22 = some ⟨oc22, od22, .func (PySem.W.fnOf "check_certificate" "check_certificate" (defArgs s_check_certificate) (defBody s_check_certificate) (defScope s_check_certificate) .none kV22 dc22 pm22 an22 cd22 ct22), sl22⟩) (c22 : PySem.W.codeIn K cd22 "check_certificate" = true) (k22 : PySem.W.keepIn K (.ref g22) = true)
    (a23 : PySem.W.nsIn K mainGlobals "_law_draws" = some (some (.ref g23))) (l23 : K.lookup g23 = some ⟨oc23, od23, .func (PySem.W.fnOf "_law_draws" "_law_draws" (defArgs s__law_draws) (defBody s__law_draws) (defScope s__law_draws) .none kV23 dc23 pm23 an23 cd23 ct23), sl23⟩) (c23 : PySem.W.codeIn K cd23 "_law_draws" = true) (k23 : PySem.W.keepIn K (.ref g23) = true)
    (a24 : PySem.W.nsIn K mainGlobals "_law_draw" = some (some (.ref g24))) (l24 : K.lookup g24 = some ⟨oc24, od24, .func (PySem.W.fnOf "_law_draw" "_law_draw" (defArgs s__law_draw) (defBody s__law_draw) (defScope s__law_draw) .none kV24 dc24 pm24 an24 cd24 ct24), sl24⟩) (c24 : PySem.W.codeIn K cd24 "_law_draw" = true) (k24 : PySem.W.keepIn K (.ref g24) = true)
    (a25 : PySem.W.nsIn K mainGlobals "_law_pick" = some (some (.ref g25))) (l25 : K.lookup g25 = some ⟨oc25, od25, .func (PySem.W.fnOf "_law_pick" "_law_pick" (defArgs s__law_pick) (defBody s__law_pick) (defScope s__law_pick) .none kV25 dc25 pm25 an25 cd25 ct25), sl25⟩) (c25 : PySem.W.codeIn K cd25 "_law_pick" = true) (k25 : PySem.W.keepIn K (.ref g25) = true)
    (a26 : PySem.W.nsIn K mainGlobals "_law_same" = some (some (.ref g26))) (l26 : K.lookup g26 = some ⟨oc26, od26, .func (PySem.W.fnOf "_law_same" "_law_same" (defArgs s__law_same) (defBody s__law_same) (defScope s__law_same) .none kV26 dc26 pm26 an26 cd26 ct26), sl26⟩) (c26 : PySem.W.codeIn K cd26 "_law_same" = true) (k26 : PySem.W.keepIn K (.ref g26) = true)
    (a27 : PySem.W.nsIn K mainGlobals "_law_term" = some (some (.ref g27))) (l27 : K.lookup g27 = some ⟨oc27, od27, .func (PySem.W.fnOf "_law_term" "_law_term" (defArgs s__law_term) (defBody s__law_term) (defScope s__law_term) .none kV27 dc27 pm27 an27 cd27 ct27), sl27⟩) (c27 : PySem.W.codeIn K cd27 "_law_term" = true) (k27 : PySem.W.keepIn K (.ref g27) = true)
    (a28 : PySem.W.nsIn K mainGlobals "_law_comb" = some (some (.ref g28))) (l28 : K.lookup g28 = some ⟨oc28, od28, .func (PySem.W.fnOf "_law_comb" "_law_comb" (defArgs s__law_comb) (defBody s__law_comb) (defScope s__law_comb) .none kV28 dc28 pm28 an28 cd28 ct28), sl28⟩) (c28 : PySem.W.codeIn K cd28 "_law_comb" = true) (k28 : PySem.W.keepIn K (.ref g28) = true)
    (a29 : PySem.W.nsIn K mainGlobals "_law_any_term" = some (some (.ref g29))) (l29 : K.lookup g29 = some ⟨oc29, od29, .func (PySem.W.fnOf "_law_any_term" "_law_any_term" (defArgs s__law_any_term) (defBody s__law_any_term) (defScope s__law_any_term) .none kV29 dc29 pm29 an29 cd29 ct29), sl29⟩) (c29 : PySem.W.codeIn K cd29 "_law_any_term" = true) (k29 : PySem.W.keepIn K (.ref g29) = true)
    (a30 : PySem.W.nsIn K mainGlobals "_law_size" = some (some (.ref g30))) (l30 : K.lookup g30 = some ⟨oc30, od30, .func (PySem.W.fnOf "_law_size" "_law_size" (defArgs s__law_size) (defBody s__law_size) (defScope s__law_size) .none kV30 dc30 pm30 an30 cd30 ct30), sl30⟩) (c30 : PySem.W.codeIn K cd30 "_law_size" = true) (k30 : PySem.W.keepIn K (.ref g30) = true)
    (a31 : PySem.W.nsIn K mainGlobals "_law_depth" = some (some (.ref g31))) (l31 : K.lookup g31 = some ⟨oc31, od31, .func (PySem.W.fnOf "_law_depth" "_law_depth" (defArgs s__law_depth) (defBody s__law_depth) (defScope s__law_depth) .none kV31 dc31 pm31 an31 cd31 ct31), sl31⟩) (c31 : PySem.W.codeIn K cd31 "_law_depth" = true) (k31 : PySem.W.keepIn K (.ref g31) = true)
    (a32 : PySem.W.nsIn K mainGlobals "_law_fits" = some (some (.ref g32))) (l32 : K.lookup g32 = some ⟨oc32, od32, .func (PySem.W.fnOf "_law_fits" "_law_fits" (defArgs s__law_fits) (defBody s__law_fits) (defScope s__law_fits) .none kV32 dc32 pm32 an32 cd32 ct32), sl32⟩) (c32 : PySem.W.codeIn K cd32 "_law_fits" = true) (k32 : PySem.W.keepIn K (.ref g32) = true)
    (a33 : PySem.W.nsIn K mainGlobals "_law_paths" = some (some (.ref g33))) (l33 : K.lookup g33 = some ⟨oc33, od33, .func (PySem.W.fnOf "_law_paths" "_law_paths" (defArgs s__law_paths) (defBody s__law_paths) (defScope s__law_paths) .none kV33 dc33 pm33 an33 cd33 ct33), sl33⟩) (c33 : PySem.W.codeIn K cd33 "_law_paths" = true) (k33 : PySem.W.keepIn K (.ref g33) = true)
    (a34 : PySem.W.nsIn K mainGlobals "_law_subterm" = some (some (.ref g34))) (l34 : K.lookup g34 = some ⟨oc34, od34, .func (PySem.W.fnOf "_law_subterm" "_law_subterm" (defArgs s__law_subterm) (defBody s__law_subterm) (defScope s__law_subterm) .none kV34 dc34 pm34 an34 cd34 ct34), sl34⟩) (c34 : PySem.W.codeIn K cd34 "_law_subterm" = true) (k34 : PySem.W.keepIn K (.ref g34) = true)
    (a35 : PySem.W.nsIn K mainGlobals "_law_replace" = some (some (.ref g35))) (l35 : K.lookup g35 = some ⟨oc35, od35, .func (PySem.W.fnOf "_law_replace" "_law_replace" (defArgs s__law_replace) (defBody s__law_replace) (defScope s__law_replace) .none kV35 dc35 pm35 an35 cd35 ct35), sl35⟩) (c35 : PySem.W.codeIn K cd35 "_law_replace" = true) (k35 : PySem.W.keepIn K (.ref g35) = true)
    (a36 : PySem.W.nsIn K mainGlobals "_law_expanded" = some (some (.ref g36))) (l36 : K.lookup g36 = some ⟨oc36, od36, .func (PySem.W.fnOf "_law_expanded" "_law_expanded" (defArgs s__law_expanded) (defBody s__law_expanded) (defScope s__law_expanded) .none kV36 dc36 pm36 an36 cd36 ct36), sl36⟩) (c36 : PySem.W.codeIn K cd36 "_law_expanded" = true) (k36 : PySem.W.keepIn K (.ref g36) = true)
    (a37 : PySem.W.nsIn K mainGlobals "_law_contracted" = some (some (.ref g37))) (l37 : K.lookup g37 = some ⟨oc37, od37, .func (PySem.W.fnOf "_law_contracted" "_law_contracted" (defArgs s__law_contracted) (defBody s__law_contracted) (defScope s__law_contracted) .none kV37 dc37 pm37 an37 cd37 ct37), sl37⟩) (c37 : PySem.W.codeIn K cd37 "_law_contracted" = true) (k37 : PySem.W.keepIn K (.ref g37) = true)
    (a38 : PySem.W.nsIn K mainGlobals "_law_rewrite" = some (some (.ref g38))) (l38 : K.lookup g38 = some ⟨oc38, od38, .func (PySem.W.fnOf "_law_rewrite" "_law_rewrite" (defArgs s__law_rewrite) (defBody s__law_rewrite) (defScope s__law_rewrite) .none kV38 dc38 pm38 an38 cd38 ct38), sl38⟩) (c38 : PySem.W.codeIn K cd38 "_law_rewrite" = true) (k38 : PySem.W.keepIn K (.ref g38) = true)
    (a39 : PySem.W.nsIn K mainGlobals "_law_steps" = some (some (.ref g39))) (l39 : K.lookup g39 = some ⟨oc39, od39, .func (PySem.W.fnOf "_law_steps" "_law_steps" (defArgs s__law_steps) (defBody s__law_steps) (defScope s__law_steps) .none kV39 dc39 pm39 an39 cd39 ct39), sl39⟩) (c39 : PySem.W.codeIn K cd39 "_law_steps" = true) (k39 : PySem.W.keepIn K (.ref g39) = true)
    (a40 : PySem.W.nsIn K mainGlobals "_law_rewritten" = some (some (.ref g40))) (l40 : K.lookup g40 = some ⟨oc40, od40, .func (PySem.W.fnOf "_law_rewritten" "_law_rewritten" (defArgs s__law_rewritten) (defBody s__law_rewritten) (defScope s__law_rewritten) .none kV40 dc40 pm40 an40 cd40 ct40), sl40⟩) (c40 : PySem.W.codeIn K cd40 "_law_rewritten" = true) (k40 : PySem.W.keepIn K (.ref g40) = true)
    (a41 : PySem.W.nsIn K mainGlobals "_law_sign" = some (some (.ref g41))) (l41 : K.lookup g41 = some ⟨oc41, od41, .func (PySem.W.fnOf "_law_sign" "_law_sign" (defArgs s__law_sign) (defBody s__law_sign) (defScope s__law_sign) .none kV41 dc41 pm41 an41 cd41 ct41), sl41⟩) (c41 : PySem.W.codeIn K cd41 "_law_sign" = true) (k41 : PySem.W.keepIn K (.ref g41) = true)
    (a42 : PySem.W.nsIn K mainGlobals "_law_inverse" = some (some (.ref g42))) (l42 : K.lookup g42 = some ⟨oc42, od42, .func (PySem.W.fnOf "_law_inverse" "_law_inverse" (defArgs s__law_inverse) (defBody s__law_inverse) (defScope s__law_inverse) .none kV42 dc42 pm42 an42 cd42 ct42), sl42⟩) (c42 : PySem.W.codeIn K cd42 "_law_inverse" = true) (k42 : PySem.W.keepIn K (.ref g42) = true)
    (a43 : PySem.W.nsIn K mainGlobals "_law_shift" = some (some (.ref g43))) (l43 : K.lookup g43 = some ⟨oc43, od43, .func (PySem.W.fnOf "_law_shift" "_law_shift" (defArgs s__law_shift) (defBody s__law_shift) (defScope s__law_shift) .none kV43 dc43 pm43 an43 cd43 ct43), sl43⟩) (c43 : PySem.W.codeIn K cd43 "_law_shift" = true) (k43 : PySem.W.keepIn K (.ref g43) = true)
    (a44 : PySem.W.nsIn K mainGlobals "_law_word" = some (some (.ref g44))) (l44 : K.lookup g44 = some ⟨oc44, od44, .func (PySem.W.fnOf "_law_word" "_law_word" (defArgs s__law_word) (defBody s__law_word) (defScope s__law_word) .none kV44 dc44 pm44 an44 cd44 ct44), sl44⟩) (c44 : PySem.W.codeIn K cd44 "_law_word" = true) (k44 : PySem.W.keepIn K (.ref g44) = true)
    (a45 : PySem.W.nsIn K mainGlobals "_law_braided" = some (some (.ref g45))) (l45 : K.lookup g45 = some ⟨oc45, od45, .func (PySem.W.fnOf "_law_braided" "_law_braided" (defArgs s__law_braided) (defBody s__law_braided) (defScope s__law_braided) .none kV45 dc45 pm45 an45 cd45 ct45), sl45⟩) (c45 : PySem.W.codeIn K cd45 "_law_braided" = true) (k45 : PySem.W.keepIn K (.ref g45) = true)
    (a46 : PySem.W.nsIn K mainGlobals "_law_move" = some (some (.ref g46))) (l46 : K.lookup g46 = some ⟨oc46, od46, .func (PySem.W.fnOf "_law_move" "_law_move" (defArgs s__law_move) (defBody s__law_move) (defScope s__law_move) .none kV46 dc46 pm46 an46 cd46 ct46), sl46⟩) (c46 : PySem.W.codeIn K cd46 "_law_move" = true) (k46 : PySem.W.keepIn K (.ref g46) = true)
    (a47 : PySem.W.nsIn K mainGlobals "_law_apply_moves" = some (some (.ref g47))) (l47 : K.lookup g47 = some ⟨oc47, od47, .func (PySem.W.fnOf "_law_apply_moves" "_law_apply_moves" (defArgs s__law_apply_moves) (defBody s__law_apply_moves) (defScope s__law_apply_moves) .none kV47 dc47 pm47 an47 cd47 ct47), sl47⟩) (c47 : PySem.W.codeIn K cd47 "_law_apply_moves" = true) (k47 : PySem.W.keepIn K (.ref g47) = true)
    (a48 : PySem.W.nsIn K mainGlobals "_law_joint_word" = some (some (.ref g48))) (l48 : K.lookup g48 = some ⟨oc48, od48, .func (PySem.W.fnOf "_law_joint_word" "_law_joint_word" (defArgs s__law_joint_word) (defBody s__law_joint_word) (defScope s__law_joint_word) .none kV48 dc48 pm48 an48 cd48 ct48), sl48⟩) (c48 : PySem.W.codeIn K cd48 "_law_joint_word" = true) (k48 : PySem.W.keepIn K (.ref g48) = true)
    (a49 : PySem.W.nsIn K mainGlobals "_law_check" = some (some (.ref g49))) (l49 : K.lookup g49 = some ⟨oc49, od49, .func (PySem.W.fnOf "_law_check" "_law_check" (defArgs s__law_check) (defBody s__law_check) (defScope s__law_check) .none kV49 dc49 pm49 an49 cd49 ct49), sl49⟩) (c49 : PySem.W.codeIn K cd49 "_law_check" = true) (k49 : PySem.W.keepIn K (.ref g49) = true)
    (a50 : PySem.W.nsIn K mainGlobals "_law_pair" = some (some (.ref g50))) (l50 : K.lookup g50 = some ⟨oc50, od50, .func (PySem.W.fnOf "_law_pair" "_law_pair" (defArgs s__law_pair) (defBody s__law_pair) (defScope s__law_pair) .none kV50 dc50 pm50 an50 cd50 ct50), sl50⟩) (c50 : PySem.W.codeIn K cd50 "_law_pair" = true) (k50 : PySem.W.keepIn K (.ref g50) = true)
    (a51 : PySem.W.nsIn K mainGlobals "_law_altered" = some (some (.ref g51))) (l51 : K.lookup g51 = some ⟨oc51, od51, .func (PySem.W.fnOf "_law_altered" "_law_altered" (defArgs s__law_altered) (defBody s__law_altered) (defScope s__law_altered) .none kV51 dc51 pm51 an51 cd51 ct51), sl51⟩) (c51 : PySem.W.codeIn K cd51 "_law_altered" = true) (k51 : PySem.W.keepIn K (.ref g51) = true)
    (a52 : PySem.W.nsIn K mainGlobals "law" = some (some (.ref g52))) (l52 : K.lookup g52 = some ⟨oc52, od52, .func (PySem.W.fnOf "law" "law" (defArgs s_law) (defBody s_law) (defScope s_law) .none kV52 dc52 pm52 an52 cd52 ct52), sl52⟩) (c52 : PySem.W.codeIn K cd52 "law" = true) (k52 : PySem.W.keepIn K (.ref g52) = true)
    (z_len : PySem.W.nsIn K mainGlobals "len" = some none)
    (z_list : PySem.W.nsIn K mainGlobals "list" = some none)
    (z_tuple : PySem.W.nsIn K mainGlobals "tuple" = some none)
    (z_dict : PySem.W.nsIn K mainGlobals "dict" = some none)
    (z_bool : PySem.W.nsIn K mainGlobals "bool" = some none)
    (z_isinstance : PySem.W.nsIn K mainGlobals "isinstance" = some none)
    (z_max : PySem.W.nsIn K mainGlobals "max" = some none)
    (z_min : PySem.W.nsIn K mainGlobals "min" = some none)
    (z_range : PySem.W.nsIn K mainGlobals "range" = some none)
    (z_all : PySem.W.nsIn K mainGlobals "all" = some none)
    (z_sorted : PySem.W.nsIn K mainGlobals "sorted" = some none)
    (z_enumerate : PySem.W.nsIn K mainGlobals "enumerate" = some none)
    (z_sum : PySem.W.nsIn K mainGlobals "sum" = some none)
    (z_str : PySem.W.nsIn K mainGlobals "str" = some none)
    (z_int : PySem.W.nsIn K mainGlobals "int" = some none)
    (q_MAX_SIZE : PySem.W.nsIn K mainGlobals "MAX_SIZE" = some (some (.int 12 t_MAX_SIZE)))
    (q_MAX_DEPTH : PySem.W.nsIn K mainGlobals "MAX_DEPTH" = some (some (.int 6 t_MAX_DEPTH)))
    (q_MAX_LETTER : PySem.W.nsIn K mainGlobals "MAX_LETTER" = some (some (.int 40 t_MAX_LETTER)))
    (q_MAX_LETTERS : PySem.W.nsIn K mainGlobals "MAX_LETTERS" = some (some (.int 300 t_MAX_LETTERS)))
    (aC : PySem.W.nsIn K mainGlobals "Scan" = some (some (.ref Cp)))
    (ma0 : PySem.W.findIn K (.ref Cp) "__init__" = some (some (.ref m0)))
    (mi0 : PySem.W.isFn K (.ref m0) = true)
    (ml0 : K.lookup m0 = some ⟨moc0, mod0, .func (PySem.W.fnOf "__init__" "Scan.__init__" (defArgs s_SInit) (defBody s_SInit) (defScope s_SInit) .none mkV0 mdc0 mpm0 man0 mcd0 mct0), msl0⟩)
    (mc0 : PySem.W.codeIn K mcd0 "Scan.__init__" = true)
    (mk0 : PySem.W.keepIn K (.ref m0) = true)
    (ma1 : PySem.W.findIn K (.ref Cp) "last_place" = some (some (.ref m1)))
    (mi1 : PySem.W.isFn K (.ref m1) = true)
    (ml1 : K.lookup m1 = some ⟨moc1, mod1, .func (PySem.W.fnOf "last_place" "Scan.last_place" (defArgs s_SLast) (defBody s_SLast) (defScope s_SLast) .none mkV1 mdc1 mpm1 man1 mcd1 mct1), msl1⟩)
    (mc1 : PySem.W.codeIn K mcd1 "Scan.last_place" = true)
    (mk1 : PySem.W.keepIn K (.ref m1) = true)
    (ma2 : PySem.W.findIn K (.ref Cp) "handle_start" = some (some (.ref m2)))
    (mi2 : PySem.W.isFn K (.ref m2) = true)
    (ml2 : K.lookup m2 = some ⟨moc2, mod2, .func (PySem.W.fnOf "handle_start" "Scan.handle_start" (defArgs s_SStart) (defBody s_SStart) (defScope s_SStart) .none mkV2 mdc2 mpm2 man2 mcd2 mct2), msl2⟩)
    (mc2 : PySem.W.codeIn K mcd2 "Scan.handle_start" = true)
    (mk2 : PySem.W.keepIn K (.ref m2) = true)
    (ma3 : PySem.W.findIn K (.ref Cp) "find_handle" = some (some (.ref m3)))
    (mi3 : PySem.W.isFn K (.ref m3) = true)
    (ml3 : K.lookup m3 = some ⟨moc3, mod3, .func (PySem.W.fnOf "find_handle" "Scan.find_handle" (defArgs s_SFind) (defBody s_SFind) (defScope s_SFind) .none mkV3 mdc3 mpm3 man3 mcd3 mct3), msl3⟩)
    (mc3 : PySem.W.codeIn K mcd3 "Scan.find_handle" = true)
    (mk3 : PySem.W.keepIn K (.ref m3) = true)
    (ma4 : PySem.W.findIn K (.ref Cp) "read_letter" = some (some (.ref m4)))
    (mi4 : PySem.W.isFn K (.ref m4) = true)
    (ml4 : K.lookup m4 = some ⟨moc4, mod4, .func (PySem.W.fnOf "read_letter" "Scan.read_letter" (defArgs s_SRead) (defBody s_SRead) (defScope s_SRead) .none mkV4 mdc4 mpm4 man4 mcd4 mct4), msl4⟩)
    (mc4 : PySem.W.codeIn K mcd4 "Scan.read_letter" = true)
    (mk4 : PySem.W.keepIn K (.ref m4) = true)
    (ma5 : PySem.W.findIn K (.ref Cp) "take_handle" = some (some (.ref m5)))
    (mi5 : PySem.W.isFn K (.ref m5) = true)
    (ml5 : K.lookup m5 = some ⟨moc5, mod5, .func (PySem.W.fnOf "take_handle" "Scan.take_handle" (defArgs s_STake) (defBody s_STake) (defScope s_STake) .none mkV5 mdc5 mpm5 man5 mcd5 mct5), msl5⟩)
    (mc5 : PySem.W.codeIn K mcd5 "Scan.take_handle" = true)
    (mk5 : PySem.W.keepIn K (.ref m5) = true)
    (ma6 : PySem.W.findIn K (.ref Cp) "put_back" = some (some (.ref m6)))
    (mi6 : PySem.W.isFn K (.ref m6) = true)
    (ml6 : K.lookup m6 = some ⟨moc6, mod6, .func (PySem.W.fnOf "put_back" "Scan.put_back" (defArgs s_SPut) (defBody s_SPut) (defScope s_SPut) .none mkV6 mdc6 mpm6 man6 mcd6 mct6), msl6⟩)
    (mc6 : PySem.W.codeIn K mcd6 "Scan.put_back" = true)
    (mk6 : PySem.W.keepIn K (.ref m6) = true)
    (cpg : PySem.W.plainGet K Cp Str.empty = true)
    (chd : PySem.W.hasDictIn K Cp = true)
    (cpo : PySem.W.plainOver K Cp = true)
    (csa : PySem.W.findIn K (.ref Cp) "__setattr__" = some (some (.builtin "object.__setattr__")))
    (cmk : PySem.W.makesIn K Cp = true)
    (ckc : PySem.W.keepIn K (.ref Cp) = true)
    (cn0 : PySem.W.findIn K (.ref Cp) "done" = some none)
    (cn1 : PySem.W.findIn K (.ref Cp) "waiting" = some none)
    (cn2 : PySem.W.findIn K (.ref Cp) "places" = some none)
    (z_abs : PySem.W.nsIn K mainGlobals "abs" = some none)
    (z_reversed : PySem.W.nsIn K mainGlobals "reversed" = some none)
    (z_any : PySem.W.nsIn K mainGlobals "any" = some none)
    (ea0 : PySem.W.nsIn K mainGlobals "InvalidWord" = some (some (.ref ex0)))
    (eq0 : PySem.W.excIn K ex0 [.type "ValueError", .type "Exception", .type "BaseException", .type "object"] "ValueError.__new__" = true)
    (ek0 : PySem.W.keepIn K (.ref ex0) = true)
    (eb0 : PySem.W.subIn K (.ref ex0) (.type "BaseException") = some true)
    (et0 : PySem.W.typeIn K (.ref ex0) = some (.type "type"))
    (z_super : PySem.W.nsIn K mainGlobals "super" = some none)
    (tany : PySem.W.nsIn K cStatics "thirdparty.any" = some none)
    (ttop : (l.prog.main.scope.names.lookup ("super" : Str)).isSome = false)
    (ax9 : PySem.W.nsIn K mainGlobals "InvalidStep" = some (some (.ref x9)))
    (ky9 : PySem.W.typeIn K (.ref x9) = some (.type "type"))
    (xs9 : PySem.W.subIn K (.ref x9) (.type "BaseException") = some true)
    (xf9_position : PySem.W.findIn K (.ref x9) "position" = some none)
    (ti9 : PySem.W.findIn K (.ref x9) "__init__" = some (some (.ref tf9)))
    (tt9 : PySem.W.typeIn K (.ref tf9) = some (.type "function"))
    (tl9 : K.lookup tf9 = some ⟨to9, td9, .func (PySem.W.ksFn "__init__" "InvalidStep.__init__" (defArgs s_ISInit) (defBody s_ISInit) (defScope s_ISInit) .none tkV9 tdc9 tpm9 tan9 (.ref tcd9) tct9 tcc9), tsl9⟩)
    (tci9 : PySem.W.codeIn K (.ref tcd9) "InvalidStep.__init__" = true)
    (tco9 : K.lookup tcd9 = some ⟨tcl9, tcdd9, .fields tcv9, tcs9⟩)
    (tcf9 : tcv9[2]? = some (.str tfile9 tft9))
    (tpf9 : ((l.prog.main.file : Str) == tfile9) = true)
    (tce9 : K.lookup tcc9 = some ⟨tccl9, tccd9, .cell (some (.ref x9)), tccs9⟩)
    (tlk9 : K.lookup x9 = some (excClassObj tnm9 tq9 x9 tN9 tbs9 tbm9 true tsn9 tsub9 tab9 tcol9 tdd9 tk0_9 tk1_9 tk2_9 tk3_9 tk5_9 "ValueError.__new__"))
    (tre9 : PySem.HandSPX.refsVE tbm9 = true)
    (tsa9 : PySem.W.findIn K (.ref x9) "__setattr__" = some (some (.builtin "object.__setattr__")))
    (tkp9 : PySem.W.keepIn K (.ref x9) = true)
    (tmr9 : PySem.W.mroIn K x9 (.ref x9) = some true)
    (tks9 : PySem.W.ks_superIn K x9 x9 "__init__" = some (some (.builtin "ValueError.__init__")))
    (tva9 : PySem.W.subIn K (.ref x9) (.type "ValueError") = some true)
    (aW : PySem.W.nsIn K mainGlobals "WIDTHS" = some (some (.ref WD)))
    (lW : K.lookup WD = some ⟨.type "dict", none, .dict #[⟨hh0, .str "cancel" ta0, .int 2 tb0⟩, ⟨hh1, .str "swap" ta1, .int 2 tb1⟩, ⟨hh2, .str "braid" ta2, .int 3 tb2⟩] wn, #[]⟩)
    (hb0 : hh0 = PyData.keyHash w.params "cancel")
    (hb1 : hh1 = PyData.keyHash w.params "swap")
    (hb2 : hh2 = PyData.keyHash w.params "braid")
    (hWs : (WD == sysModules) = false)
    (yd9 : PySem.W.hasDictIn K x9 = true)
    (ys9 : PySem.W.subIn K (.ref x9) (.ref x9) = some true) :
    ∃ fd : FuncData, (∀ (s : Shared) (v : Value), BindsTo s fd ⟨[v], []⟩ [("_law_script", v)]) ∧ ∀ base : Heap, K.In base → base.Ns mainGlobals mg → FnOk l.prog w K mg base CX0 60 fa fd ["_law_script"] (spLaw K) := by
  have e := hfa.symm.trans (PySem.W.mg_of X G a52)
  cases e
  have F0 := fun_mk (st := s_is_pair) l0 c0 k0
  have d_is_pair : D K mg "is_pair" s_is_pair ["part"] _ _ := ⟨F0, F0.binds (ps := ["part"]) fun _ _ _ _ _ _ us hl => match us, hl with | [_], _ => rfl, PySem.W.mg_of X G a0⟩
  have F1 := fun_mk (st := s_is_term) l1 c1 k1
  have d_is_term : D K mg "is_term" s_is_term ["term"] _ _ := ⟨F1, F1.binds (ps := ["term"]) fun _ _ _ _ _ _ us hl => match us, hl with | [_], _ => rfl, PySem.W.mg_of X G a1⟩
  have F2 := fun_mk (st := s_check_term) l2 c2 k2
  have d_check_term : D K mg "check_term" s_check_term ["term"] _ _ := ⟨F2, F2.binds (ps := ["term"]) fun _ _ _ _ _ _ us hl => match us, hl with | [_], _ => rfl, PySem.W.mg_of X G a2⟩
  have F3 := fun_mk (st := s_is_letter) l3 c3 k3
  have d_is_letter : D K mg "is_letter" s_is_letter ["number"] _ _ := ⟨F3, F3.binds (ps := ["number"]) fun _ _ _ _ _ _ us hl => match us, hl with | [_], _ => rfl, PySem.W.mg_of X G a3⟩
  have F4 := fun_mk (st := s_are_letters) l4 c4 k4
  have d_are_letters : D K mg "are_letters" s_are_letters ["numbers"] _ _ := ⟨F4, F4.binds (ps := ["numbers"]) fun _ _ _ _ _ _ us hl => match us, hl with | [_], _ => rfl, PySem.W.mg_of X G a4⟩
  have F5 := fun_mk (st := s_check_word) l5 c5 k5
  have d_check_word : D K mg "check_word" s_check_word ["word"] _ _ := ⟨F5, F5.binds (ps := ["word"]) fun _ _ _ _ _ _ us hl => match us, hl with | [_], _ => rfl, PySem.W.mg_of X G a5⟩
  have F6 := fun_mk (st := s_with_sign) l6 c6 k6
  have d_with_sign : D K mg "with_sign" s_with_sign ["magnitude", "letter"] _ _ := ⟨F6, F6.binds (ps := ["magnitude", "letter"]) fun _ _ _ _ _ _ us hl => match us, hl with | [_, _], _ => rfl, PySem.W.mg_of X G a6⟩
  have F7 := fun_mk (st := s_braided) l7 c7 k7
  have d_braided : D K mg "braided" s_braided ["letters"] _ _ := ⟨F7, F7.binds (ps := ["letters"]) fun _ _ _ _ _ _ us hl => match us, hl with | [_], _ => rfl, PySem.W.mg_of X G a7⟩
  have F8 := fun_mk (st := s_replaced_by) l8 c8 k8
  have d_replaced_by : D K mg "replaced_by" s_replaced_by ["name", "letters"] _ _ := ⟨F8, F8.binds (ps := ["name", "letters"]) fun _ _ _ _ _ _ us hl => match us, hl with | [_, _], _ => rfl, PySem.W.mg_of X G a8⟩
  have F9 := fun_mk (st := s_insertion_of) l9 c9 k9
  have d_insertion_of : D K mg "insertion_of" s_insertion_of ["letters", "move"] _ _ := ⟨F9, F9.binds (ps := ["letters", "move"]) fun _ _ _ _ _ _ us hl => match us, hl with | [_, _], _ => rfl, PySem.W.mg_of X G a9⟩
  have F10 := fun_mk (st := s_change_of) l10 c10 k10
  have d_change_of : D K mg "change_of" s_change_of ["letters", "move"] _ _ := ⟨F10, F10.binds (ps := ["letters", "move"]) fun _ _ _ _ _ _ us hl => match us, hl with | [_, _], _ => rfl, PySem.W.mg_of X G a10⟩
  have F11 := fun_mk (st := s_apply_moves) l11 c11 k11
  have d_apply_moves : D K mg "apply_moves" s_apply_moves ["word", "moves"] _ _ := ⟨F11, F11.binds (ps := ["word", "moves"]) fun _ _ _ _ _ _ us hl => match us, hl with | [_, _], _ => rfl, PySem.W.mg_of X G a11⟩
  have F12 := fun_mk (st := s_without_handle) l12 c12 k12
  have d_without_handle : D K mg "without_handle" s_without_handle ["handle"] _ _ := ⟨F12, F12.binds (ps := ["handle"]) fun _ _ _ _ _ _ us hl => match us, hl with | [_], _ => rfl, PySem.W.mg_of X G a12⟩
  have F13 := fun_mk (st := s_reduced_form) l13 c13 k13
  have d_reduced_form : D K mg "reduced_form" s_reduced_form ["word"] _ _ := ⟨F13, F13.binds (ps := ["word"]) fun _ _ _ _ _ _ us hl => match us, hl with | [_], _ => rfl, PySem.W.mg_of X G a13⟩
  have F14 := fun_mk (st := s_removing_moves) l14 c14 k14
  have d_removing_moves : D K mg "removing_moves" s_removing_moves ["at", "handle"] _ _ := ⟨F14, F14.binds (ps := ["at", "handle"]) fun _ _ _ _ _ _ us hl => match us, hl with | [_, _], _ => rfl, PySem.W.mg_of X G a14⟩
  have F15 := fun_mk (st := s_reduction_moves) l15 c15 k15
  have d_reduction_moves : D K mg "reduction_moves" s_reduction_moves ["word"] _ _ := ⟨F15, F15.binds (ps := ["word"]) fun _ _ _ _ _ _ us hl => match us, hl with | [_], _ => rfl, PySem.W.mg_of X G a15⟩
  have F16 := fun_mk (st := s_inverse_of) l16 c16 k16
  have d_inverse_of : D K mg "inverse_of" s_inverse_of ["letters"] _ _ := ⟨F16, F16.binds (ps := ["letters"]) fun _ _ _ _ _ _ us hl => match us, hl with | [_], _ => rfl, PySem.W.mg_of X G a16⟩
  have F17 := fun_mk (st := s_shifted_by) l17 c17 k17
  have d_shifted_by : D K mg "shifted_by" s_shifted_by ["word", "by"] _ _ := ⟨F17, F17.binds (ps := ["word", "by"]) fun _ _ _ _ _ _ us hl => match us, hl with | [_, _], _ => rfl, PySem.W.mg_of X G a17⟩
  have F18 := fun_mk (st := s_word_below) l18 c18 k18
  have d_word_below : D K mg "word_below" s_word_below ["term"] _ _ := ⟨F18, F18.binds (ps := ["term"]) fun _ _ _ _ _ _ us hl => match us, hl with | [_], _ => rfl, PySem.W.mg_of X G a18⟩
  have F19 := fun_mk (st := s_joint_word) l19 c19 k19
  have d_joint_word : D K mg "joint_word" s_joint_word ["one", "other"] _ _ := ⟨F19, F19.binds (ps := ["one", "other"]) fun _ _ _ _ _ _ us hl => match us, hl with | [_, _], _ => rfl, PySem.W.mg_of X G a19⟩
  have F20 := fun_mk (st := s_shown_by) l20 c20 k20
  have d_shown_by : D K mg "shown_by" s_shown_by ["last"] _ _ := ⟨F20, F20.binds (ps := ["last"]) fun _ _ _ _ _ _ us hl => match us, hl with | [_], _ => rfl, PySem.W.mg_of X G a20⟩
  have F21 := fun_mk (st := s_certificate) l21 c21 k21
  have d_certificate : D K mg "certificate" s_certificate ["one", "other"] _ _ := ⟨F21, F21.binds (ps := ["one", "other"]) fun _ _ _ _ _ _ us hl => match us, hl with | [_, _], _ => rfl, PySem.W.mg_of X G a21⟩
  have F22 := fun_mk (st := s_check_certificate) l22 c22 k22
  have d_check_certificate : D K mg "check_certificate" s_check_certificate ["one", "other", "claimed"] _ _ := ⟨F22, F22.binds (ps := ["one", "other", "claimed"]) fun _ _ _ _ _ _ us hl => match us, hl with | [_, _, _], _ => rfl, PySem.W.mg_of X G a22⟩
  have F23 := fun_mk (st := s__law_draws) l23 c23 k23
  have d__law_draws : D K mg "_law_draws" s__law_draws ["_law_script"] _ _ := ⟨F23, F23.binds (ps := ["_law_script"]) fun _ _ _ _ _ _ us hl => match us, hl with | [_], _ => rfl, PySem.W.mg_of X G a23⟩
  have F24 := fun_mk (st := s__law_draw) l24 c24 k24
  have d__law_draw : D K mg "_law_draw" s__law_draw ["_law_rng", "_law_amount"] _ _ := ⟨F24, F24.binds (ps := ["_law_rng", "_law_amount"]) fun _ _ _ _ _ _ us hl => match us, hl with | [_, _], _ => rfl, PySem.W.mg_of X G a24⟩
  have F25 := fun_mk (st := s__law_pick) l25 c25 k25
  have d__law_pick : D K mg "_law_pick" s__law_pick ["_law_rng", "_law_terms"] _ _ := ⟨F25, F25.binds (ps := ["_law_rng", "_law_terms"]) fun _ _ _ _ _ _ us hl => match us, hl with | [_, _], _ => rfl, PySem.W.mg_of X G a25⟩
  have F26 := fun_mk (st := s__law_same) l26 c26 k26
  have d__law_same : D K mg "_law_same" s__law_same ["_law_result", "_law_expected"] _ _ := ⟨F26, F26.binds (ps := ["_law_result", "_law_expected"]) fun _ _ _ _ _ _ us hl => match us, hl with | [_, _], _ => rfl, PySem.W.mg_of X G a26⟩
  have F27 := fun_mk (st := s__law_term) l27 c27 k27
  have d__law_term : D K mg "_law_term" s__law_term ["_law_rng", "_law_many", "_law_cap"] _ _ := ⟨F27, F27.binds (ps := ["_law_rng", "_law_many", "_law_cap"]) fun _ _ _ _ _ _ us hl => match us, hl with | [_, _, _], _ => rfl, PySem.W.mg_of X G a27⟩
  have F28 := fun_mk (st := s__law_comb) l28 c28 k28
  have d__law_comb : D K mg "_law_comb" s__law_comb ["_law_many", "_law_onleft"] _ _ := ⟨F28, F28.binds (ps := ["_law_many", "_law_onleft"]) fun _ _ _ _ _ _ us hl => match us, hl with | [_, _], _ => rfl, PySem.W.mg_of X G a28⟩
  have F29 := fun_mk (st := s__law_any_term) l29 c29 k29
  have d__law_any_term : D K mg "_law_any_term" s__law_any_term ["_law_rng", "_law_top"] _ _ := ⟨F29, F29.binds (ps := ["_law_rng", "_law_top"]) fun _ _ _ _ _ _ us hl => match us, hl with | [_, _], _ => rfl, PySem.W.mg_of X G a29⟩
  have F30 := fun_mk (st := s__law_size) l30 c30 k30
  have d__law_size : D K mg "_law_size" s__law_size ["_law_term_here"] _ _ := ⟨F30, F30.binds (ps := ["_law_term_here"]) fun _ _ _ _ _ _ us hl => match us, hl with | [_], _ => rfl, PySem.W.mg_of X G a30⟩
  have F31 := fun_mk (st := s__law_depth) l31 c31 k31
  have d__law_depth : D K mg "_law_depth" s__law_depth ["_law_term_here"] _ _ := ⟨F31, F31.binds (ps := ["_law_term_here"]) fun _ _ _ _ _ _ us hl => match us, hl with | [_], _ => rfl, PySem.W.mg_of X G a31⟩
  have F32 := fun_mk (st := s__law_fits) l32 c32 k32
  have d__law_fits : D K mg "_law_fits" s__law_fits ["_law_term_here", "_law_top"] _ _ := ⟨F32, F32.binds (ps := ["_law_term_here", "_law_top"]) fun _ _ _ _ _ _ us hl => match us, hl with | [_, _], _ => rfl, PySem.W.mg_of X G a32⟩
  have F33 := fun_mk (st := s__law_paths) l33 c33 k33
  have d__law_paths : D K mg "_law_paths" s__law_paths ["_law_term_here", "_law_spot"] _ _ := ⟨F33, F33.binds (ps := ["_law_term_here", "_law_spot"]) fun _ _ _ _ _ _ us hl => match us, hl with | [_, _], _ => rfl, PySem.W.mg_of X G a33⟩
  have F34 := fun_mk (st := s__law_subterm) l34 c34 k34
  have d__law_subterm : D K mg "_law_subterm" s__law_subterm ["_law_term_here", "_law_spot"] _ _ := ⟨F34, F34.binds (ps := ["_law_term_here", "_law_spot"]) fun _ _ _ _ _ _ us hl => match us, hl with | [_, _], _ => rfl, PySem.W.mg_of X G a34⟩
  have F35 := fun_mk (st := s__law_replace) l35 c35 k35
  have d__law_replace : D K mg "_law_replace" s__law_replace ["_law_term_here", "_law_spot", "_law_new"] _ _ := ⟨F35, F35.binds (ps := ["_law_term_here", "_law_spot", "_law_new"]) fun _ _ _ _ _ _ us hl => match us, hl with | [_, _, _], _ => rfl, PySem.W.mg_of X G a35⟩
  have F36 := fun_mk (st := s__law_expanded) l36 c36 k36
  have d__law_expanded : D K mg "_law_expanded" s__law_expanded ["_law_some"] _ _ := ⟨F36, F36.binds (ps := ["_law_some"]) fun _ _ _ _ _ _ us hl => match us, hl with | [_], _ => rfl, PySem.W.mg_of X G a36⟩
  have F37 := fun_mk (st := s__law_contracted) l37 c37 k37
  have d__law_contracted : D K mg "_law_contracted" s__law_contracted ["_law_some"] _ _ := ⟨F37, F37.binds (ps := ["_law_some"]) fun _ _ _ _ _ _ us hl => match us, hl with | [_], _ => rfl, PySem.W.mg_of X G a37⟩
  have F38 := fun_mk (st := s__law_rewrite) l38 c38 k38
  have d__law_rewrite : D K mg "_law_rewrite" s__law_rewrite ["_law_term_here", "_law_spot", "_law_onward"] _ _ := ⟨F38, F38.binds (ps := ["_law_term_here", "_law_spot", "_law_onward"]) fun _ _ _ _ _ _ us hl => match us, hl with | [_, _, _], _ => rfl, PySem.W.mg_of X G a38⟩
  have F39 := fun_mk (st := s__law_steps) l39 c39 k39
  have d__law_steps : D K mg "_law_steps" s__law_steps ["_law_term_here"] _ _ := ⟨F39, F39.binds (ps := ["_law_term_here"]) fun _ _ _ _ _ _ us hl => match us, hl with | [_], _ => rfl, PySem.W.mg_of X G a39⟩
  have F40 := fun_mk (st := s__law_rewritten) l40 c40 k40
  have d__law_rewritten : D K mg "_law_rewritten" s__law_rewritten ["_law_rng", "_law_term_here", "_law_turns", "_law_top"] _ _ := ⟨F40, F40.binds (ps := ["_law_rng", "_law_term_here", "_law_turns", "_law_top"]) fun _ _ _ _ _ _ us hl => match us, hl with | [_, _, _, _], _ => rfl, PySem.W.mg_of X G a40⟩
  have F41 := fun_mk (st := s__law_sign) l41 c41 k41
  have d__law_sign : D K mg "_law_sign" s__law_sign ["_law_number"] _ _ := ⟨F41, F41.binds (ps := ["_law_number"]) fun _ _ _ _ _ _ us hl => match us, hl with | [_], _ => rfl, PySem.W.mg_of X G a41⟩
  have F42 := fun_mk (st := s__law_inverse) l42 c42 k42
  have d__law_inverse : D K mg "_law_inverse" s__law_inverse ["_law_row"] _ _ := ⟨F42, F42.binds (ps := ["_law_row"]) fun _ _ _ _ _ _ us hl => match us, hl with | [_], _ => rfl, PySem.W.mg_of X G a42⟩
  have F43 := fun_mk (st := s__law_shift) l43 c43 k43
  have d__law_shift : D K mg "_law_shift" s__law_shift ["_law_row", "_law_step"] _ _ := ⟨F43, F43.binds (ps := ["_law_row", "_law_step"]) fun _ _ _ _ _ _ us hl => match us, hl with | [_, _], _ => rfl, PySem.W.mg_of X G a43⟩
  have F44 := fun_mk (st := s__law_word) l44 c44 k44
  have d__law_word : D K mg "_law_word" s__law_word ["_law_term_here"] _ _ := ⟨F44, F44.binds (ps := ["_law_term_here"]) fun _ _ _ _ _ _ us hl => match us, hl with | [_], _ => rfl, PySem.W.mg_of X G a44⟩
  have F45 := fun_mk (st := s__law_braided) l45 c45 k45
  have d__law_braided : D K mg "_law_braided" s__law_braided ["_law_first", "_law_second", "_law_third"] _ _ := ⟨F45, F45.binds (ps := ["_law_first", "_law_second", "_law_third"]) fun _ _ _ _ _ _ us hl => match us, hl with | [_, _, _], _ => rfl, PySem.W.mg_of X G a45⟩
  have F46 := fun_mk (st := s__law_move) l46 c46 k46
  have d__law_move : D K mg "_law_move" s__law_move ["_law_row", "_law_move_here"] _ _ := ⟨F46, F46.binds (ps := ["_law_row", "_law_move_here"]) fun _ _ _ _ _ _ us hl => match us, hl with | [_, _], _ => rfl, PySem.W.mg_of X G a46⟩
  have F47 := fun_mk (st := s__law_apply_moves) l47 c47 k47
  have d__law_apply_moves : D K mg "_law_apply_moves" s__law_apply_moves ["_law_row", "_law_moves"] _ _ := ⟨F47, F47.binds (ps := ["_law_row", "_law_moves"]) fun _ _ _ _ _ _ us hl => match us, hl with | [_, _], _ => rfl, PySem.W.mg_of X G a47⟩
  have F48 := fun_mk (st := s__law_joint_word) l48 c48 k48
  have d__law_joint_word : D K mg "_law_joint_word" s__law_joint_word ["_law_one", "_law_other"] _ _ := ⟨F48, F48.binds (ps := ["_law_one", "_law_other"]) fun _ _ _ _ _ _ us hl => match us, hl with | [_, _], _ => rfl, PySem.W.mg_of X G a48⟩
  have F49 := fun_mk (st := s__law_check) l49 c49 k49
  have d__law_check : D K mg "_law_check" s__law_check ["_law_one", "_law_other", "_law_told"] _ _ := ⟨F49, F49.binds (ps := ["_law_one", "_law_other", "_law_told"]) fun _ _ _ _ _ _ us hl => match us, hl with | [_, _, _], _ => rfl, PySem.W.mg_of X G a49⟩
  have F50 := fun_mk (st := s__law_pair) l50 c50 k50
  have d__law_pair : D K mg "_law_pair" s__law_pair ["_law_rng", "_law_top"] _ _ := ⟨F50, F50.binds (ps := ["_law_rng", "_law_top"]) fun _ _ _ _ _ _ us hl => match us, hl with | [_, _], _ => rfl, PySem.W.mg_of X G a50⟩
  have F51 := fun_mk (st := s__law_altered) l51 c51 k51
  have d__law_altered : D K mg "_law_altered" s__law_altered ["_law_rng", "_law_told"] _ _ := ⟨F51, F51.binds (ps := ["_law_rng", "_law_told"]) fun _ _ _ _ _ _ us hl => match us, hl with | [_, _], _ => rfl, PySem.W.mg_of X G a51⟩
  have F52 := fun_mk (st := s_law) l52 c52 k52
  have d_law : D K mg "law" s_law ["_law_script"] _ _ := ⟨F52, F52.binds (ps := ["_law_script"]) fun _ _ _ _ _ _ us hl => match us, hl with | [_], _ => rfl, PySem.W.mg_of X G a52⟩
  have B : Blt mg := ⟨PySem.W.mg_none_of X G z_len, PySem.W.mg_none_of X G z_list, PySem.W.mg_none_of X G z_tuple, PySem.W.mg_none_of X G z_dict, PySem.W.mg_none_of X G z_bool, PySem.W.mg_none_of X G z_isinstance, PySem.W.mg_none_of X G z_max, PySem.W.mg_none_of X G z_min, PySem.W.mg_none_of X G z_range, PySem.W.mg_none_of X G z_all, PySem.W.mg_none_of X G z_sorted, PySem.W.mg_none_of X G z_enumerate, PySem.W.mg_none_of X G z_sum, PySem.W.mg_none_of X G z_str, PySem.W.mg_none_of X G z_int⟩
  have C : Cst mg := ⟨⟨_, PySem.W.mg_of X G q_MAX_SIZE⟩, ⟨_, PySem.W.mg_of X G q_MAX_DEPTH⟩⟩
  have MF0 := fun_mk (st := s_SInit) ml0 mc0 mk0
  have mb0 := MF0.binds (ps := ["self", "word"]) fun _ _ _ _ _ _ us hl => match us, hl with | [_, _], _ => rfl
  have MF1 := fun_mk (st := s_SLast) ml1 mc1 mk1
  have mb1 := MF1.binds (ps := ["self", "magnitude"]) fun _ _ _ _ _ _ us hl => match us, hl with | [_, _], _ => rfl
  have MF2 := fun_mk (st := s_SStart) ml2 mc2 mk2
  have mb2 := MF2.binds (ps := ["self"]) fun _ _ _ _ _ _ us hl => match us, hl with | [_], _ => rfl
  have MF3 := fun_mk (st := s_SFind) ml3 mc3 mk3
  have mb3 := MF3.binds (ps := ["self"]) fun _ _ _ _ _ _ us hl => match us, hl with | [_], _ => rfl
  have MF4 := fun_mk (st := s_SRead) ml4 mc4 mk4
  have mb4 := MF4.binds (ps := ["self"]) fun _ _ _ _ _ _ us hl => match us, hl with | [_], _ => rfl
  have MF5 := fun_mk (st := s_STake) ml5 mc5 mk5
  have mb5 := MF5.binds (ps := ["self", "start"]) fun _ _ _ _ _ _ us hl => match us, hl with | [_, _], _ => rfl
  have MF6 := fun_mk (st := s_SPut) ml6 mc6 mk6
  have mb6 := MF6.binds (ps := ["self", "letters"]) fun _ _ _ _ _ _ us hl => match us, hl with | [_, _], _ => rfl
  have T : ScT K mg Cp := ⟨⟨cpg, chd, cpo, csa⟩, cn0, cn1, cn2, PySem.W.mg_of X G aC⟩
  have EC0 : ErrC K mg "InvalidWord" ex0 := ⟨eq0, PySem.W.mg_of X G ea0, ek0, eb0, et0⟩
  have FL9 : FunS l.prog K mg "InvalidStep" "InvalidStep.__init__" s_ISInit ["self", "position"] x9 tf9 _ := ⟨⟨_, _, _, _, _, _, _, _, _, _, _, _, _, _, _, _, _, _, _, _, rfl, tl9, tci9, tco9, tcf9, tpf9, tce9⟩, ttop, ⟨⟨_, _, _, _, _, _, _, _, _, _, _, _, _, _, _, tlk9, tre9⟩, tsa9, xs9, ky9, tkp9⟩, tmr9, PySem.W.mg_none_of X G z_super, tany, tks9, tva9, ti9, tt9, Binds.all fun us hl => match us, hl with | [_, _], _ => rfl, PySem.W.mg_of X G ax9⟩
  have xS : PySem.W.exmOne K (.ref x9) (.ref x9) = some true := PySem.W.exm_ref xs9 yd9 ky9 ys9
  exact ⟨PySem.W.fnOf "law" "law" (defArgs s_law) (defBody s_law) (defScope s_law) .none kV52 dc52 pm52 an52 cd52 ct52, fun s v => .of_eq rfl, fun base _ _ => ok_law d_law B ⟨PySem.W.mg_none_of X G z_abs, PySem.W.mg_none_of X G z_reversed, PySem.W.mg_none_of X G z_any⟩ C ⟨⟨_, PySem.W.mg_of X G q_MAX_LETTER⟩, ⟨_, PySem.W.mg_of X G q_MAX_LETTERS⟩⟩ EC0 FL9 xf9_position (PySem.W.mg_of X G ax9) xS (PySem.W.mg_of X G aW) (kW_of lW hb0 hb1 hb2 hWs) T ⟨cmk, ma0, mi0, ckc⟩ MF0 mb0 MF1 mb1 ⟨ma1, mi1, mk1⟩ MF2 mb2 ⟨ma2, mi2, mk2⟩ MF3 mb3 ⟨ma3, mi3, mk3⟩ MF4 mb4 ⟨ma4, mi4, mk4⟩ MF5 mb5 ⟨ma5, mi5, mk5⟩ MF6 mb6 ⟨ma6, mi6, mk6⟩ d_is_pair d_is_term d_check_term d_is_letter d_are_letters d_check_word d_with_sign d_braided d_replaced_by d_insertion_of d_change_of d_apply_moves d_without_handle d_reduced_form d_removing_moves d_reduction_moves d_inverse_of d_shifted_by d_word_below d_joint_word d_shown_by d_certificate d_check_certificate d__law_draws d__law_draw d__law_pick d__law_same d__law_term d__law_comb d__law_any_term d__law_size d__law_depth d__law_fits d__law_paths d__law_subterm d__law_replace d__law_expanded d__law_contracted d__law_rewrite d__law_steps d__law_rewritten d__law_sign d__law_inverse d__law_shift d__law_word d__law_braided d__law_move d__law_apply_moves d__law_joint_word d__law_check d__law_pair d__law_altered⟩
theorem walk {l : PySem.W.OpenLaw} {q : Program} {loose : List Str} {XP : (Str → Option Value) → Heap → Prop} {YP : World → Heap → Prop} {d : DefRec} {K : Params → PySem.W.Frag} (hn : l.most = some 63) (hdf : d.params.defaults = [])
    (hY : ∀ (w : World) (h : Heap), YP w h → (K w.params).In h)
    (F : ∀ (w : World) (mg : Str → Option Value) (fa : Addr) (h : Heap), (K w.params).In h → h.Ns mainGlobals mg → mg d.name = some (.ref fa) →
      ∃ fd : FuncData, (∀ (s : Shared) (u : Value), BindsTo s fd ⟨[u], []⟩ [("_law_script", u)]) ∧ ∀ base : Heap, (K w.params).In base → base.Ns mainGlobals mg → FnOk l.prog w (K w.params) mg base CX0 60 fa fd ["_law_script"] (spLaw (K w.params))) :
    PySem.W.WalkO q loose XP YP l.row.toRowW d [] (fun f vs => PySem.call f vs) :=
  L2.walk_of (n := 63) (k := 60) (x := "_law_script") (CX := fun _ => CX0) (sp := fun w => spLaw (K w.params)) hn (by decide) hdf ⟨rfl, by decide, by decide⟩ hY F (fun _ _ a ns hl _ hS => ⟨a, ns, rfl, hS, fun _ => rfl⟩) fun _ _ _ _ _ z => z
end U
open PySem PySem.W PyProof.Rows
set_option maxRecDepth 100000 in
set_option maxHeartbeats 0 in
theorem PySem.Challenge.cw_uponboth_k32_certificate_checks_holds : PySem.Challenge.rw_uponboth_k32_certificate_checks.Holds := by
  w_on; o_law; k_head; (case hw => w_witness2)
  k_fill
  refine U.walk (l := PySem.Challenge.rw_uponboth_k32_certificate_checks) rfl rfl (fun w h Y => PySem.W.kIn_of Y) ?F
  case F =>
    intro w mg fa h KX G hmg
    refine' U.all_mk KX G hmg ?a0 ?l0 ?c0 ?k0 ?a1 ?l1 ?c1 ?k1 ?a2 ?l2 ?c2 ?k2 ?a3 ?l3 ?c3 ?k3 ?a4 ?l4 ?c4 ?k4 ?a5 ?l5 ?c5 ?k5 ?a6 ?l6 ?c6 ?k6 ?a7 ?l7 ?c7 ?k7 ?a8 ?l8 ?c8 ?k8 ?a9 ?l9 ?c9 ?k9 ?a10 ?l10 ?c10 ?k10 ?a11 ?l11 ?c11 ?k11 ?a12 ?l12 ?c12 ?k12 ?a13 ?l13 ?c13 ?k13 ?a14 ?l14 ?c14 ?k14 ?a15 ?l15 ?c15 ?k15 ?a16 ?l16 ?c16 ?k16 ?a17 ?l17 ?c17 ?k17 ?a18 ?l18 ?c18 ?k18 ?a19 ?l19 ?c19 ?k19 ?a20 ?l20 ?c20 ?k20 ?a21 ?l21 ?c21 ?k21 ?a22 ?l22 ?c22 ?k22 ?a23 ?l23 ?c23 ?k23 ?a24 ?l24 ?c24 ?k24 ?a25 ?l25 ?c25 ?k25 ?a26 ?l26 ?c26 ?k26 ?a27 ?l27 ?c27 ?k27 ?a28 ?l28 ?c28 ?k28 ?a29 ?l29 ?c29 ?k29 ?a30 ?l30 ?c30 ?k30 ?a31 ?l31 ?c31 ?k31 ?a32 ?l32 ?c32 ?k32 ?a33 ?l33 ?c33 ?k33 ?a34 ?l34 ?c34 ?k34 ?a35 ?l35 ?c35 ?k35 ?a36 ?l36 ?c36 ?k36 ?a37 ?l37 ?c37 ?k37 ?a38 ?l38 ?c38 ?k38 ?a39 ?l39 ?c39 ?k39 ?a40 ?l40 ?c40 ?k40 ?a41 ?l41 ?c41 ?k41 ?a42 ?l42 ?c42 ?k42 ?a43 ?l43 ?c43 ?k43 ?a44 ?l44 ?c44 ?k44 ?a45 ?l45 ?c45 ?k45 ?a46 ?l46 ?c46 ?k46 ?a47 ?l47 ?c47 ?k47 ?a48 ?l48 ?c48 ?k48 ?a49 ?l49 ?c49 ?k49 ?a50 ?l50 ?c50 ?k50 ?a51 ?l51 ?c51 ?k51 ?a52 ?l52 ?c52 ?k52 ?z_len ?z_list ?z_tuple ?z_dict ?z_bool ?z_isinstance ?z_max ?z_min ?z_range ?z_all ?z_sorted ?z_enumerate ?z_sum ?z_str ?z_int ?q_MAX_SIZE ?q_MAX_DEPTH ?q_MAX_LETTER ?q_MAX_LETTERS ?aC ?ma0 ?mi0 ?ml0 ?mc0 ?mk0 ?ma1 ?mi1 ?ml1 ?mc1 ?mk1 ?ma2 ?mi2 ?ml2 ?mc2 ?mk2 ?ma3 ?mi3 ?ml3 ?mc3 ?mk3 ?ma4 ?mi4 ?ml4 ?mc4 ?mk4 ?ma5 ?mi5 ?ml5 ?mc5 ?mk5 ?ma6 ?mi6 ?ml6 ?mc6 ?mk6 ?cpg ?chd ?cpo ?csa ?cmk ?ckc ?cn0 ?cn1 ?cn2 ?z_abs ?z_reversed ?z_any ?ea0 ?eq0 ?ek0 ?eb0 ?et0 ?z_super ?tany ?ttop ?ax9 ?ky9 ?xs9 ?xf9_position ?ti9 ?tt9 ?tl9 ?tci9 ?tco9 ?tcf9 ?tpf9 ?tce9 ?tlk9 ?tre9 ?tsa9 ?tkp9 ?tmr9 ?tks9 ?tva9 ?aW ?lW ?hb0 ?hb1 ?hb2 ?hWs ?yd9 ?ys9
    (case a0 => k_is)
    (case l0 => k_is)
    (case c0 => k_is)
    (case k0 => k_is)
    (case a1 => k_is)
    (case l1 => k_is)
    (case c1 => k_is)
    (case k1 => k_is)
    (case a2 => k_is)
    (case l2 => k_is)
    (case c2 => k_is)
    (case k2 => k_is)
    (case a3 => k_is)
    (case l3 => k_is)
    (case c3 => k_is)
    (case k3 => k_is)
    (case a4 => k_is)
    (case l4 => k_is)
    (case c4 => k_is)
    (case k4 => k_is)
    (case a5 => k_is)
    (case l5 => k_is)
    (case c5 => k_is)
    (case k5 => k_is)
    (case a6 => k_is)
    (case l6 => k_is)
    (case c6 => k_is)
    (case k6 => k_is)
    (case a7 => k_is)
    (case l7 => k_is)
    (case c7 => k_is)
    (case k7 => k_is)
    (case a8 => k_is)
    (case l8 => k_is)
    (case c8 => k_is)
    (case k8 => k_is)
    (case a9 => k_is)
    (case l9 => k_is)
    (case c9 => k_is)
    (case k9 => k_is)
    (case a10 => k_is)
    (case l10 => k_is)
    (case c10 => k_is)
    (case k10 => k_is)
    (case a11 => k_is)
    (case l11 => k_is)
    (case c11 => k_is)
    (case k11 => k_is)
    (case a12 => k_is)
    (case l12 => k_is)
    (case c12 => k_is)
    (case k12 => k_is)
    (case a13 => k_is)
    (case l13 => k_is)
    (case c13 => k_is)
    (case k13 => k_is)
    (case a14 => k_is)
    (case l14 => k_is)
    (case c14 => k_is)
    (case k14 => k_is)
    (case a15 => k_is)
    (case l15 => k_is)
    (case c15 => k_is)
    (case k15 => k_is)
    (case a16 => k_is)
    (case l16 => k_is)
    (case c16 => k_is)
    (case k16 => k_is)
    (case a17 => k_is)
    (case l17 => k_is)
    (case c17 => k_is)
    (case k17 => k_is)
    (case a18 => k_is)
    (case l18 => k_is)
    (case c18 => k_is)
    (case k18 => k_is)
    (case a19 => k_is)
    (case l19 => k_is)
    (case c19 => k_is)
    (case k19 => k_is)
    (case a20 => k_is)
    (case l20 => k_is)
    (case c20 => k_is)
    (case k20 => k_is)
    (case a21 => k_is)
    (case l21 => k_is)
    (case c21 => k_is)
    (case k21 => k_is)
    (case a22 => k_is)
    (case l22 => k_is)
    (case c22 => k_is)
    (case k22 => k_is)
    (case a23 => k_is)
    (case l23 => k_is)
    (case c23 => k_is)
    (case k23 => k_is)
    (case a24 => k_is)
    (case l24 => k_is)
    (case c24 => k_is)
    (case k24 => k_is)
    (case a25 => k_is)
    (case l25 => k_is)
    (case c25 => k_is)
    (case k25 => k_is)
    (case a26 => k_is)
    (case l26 => k_is)
    (case c26 => k_is)
    (case k26 => k_is)
    (case a27 => k_is)
    (case l27 => k_is)
    (case c27 => k_is)
    (case k27 => k_is)
    (case a28 => k_is)
    (case l28 => k_is)
    (case c28 => k_is)
    (case k28 => k_is)
    (case a29 => k_is)
    (case l29 => k_is)
    (case c29 => k_is)
    (case k29 => k_is)
    (case a30 => k_is)
    (case l30 => k_is)
    (case c30 => k_is)
    (case k30 => k_is)
    (case a31 => k_is)
    (case l31 => k_is)
    (case c31 => k_is)
    (case k31 => k_is)
    (case a32 => k_is)
    (case l32 => k_is)
    (case c32 => k_is)
    (case k32 => k_is)
    (case a33 => k_is)
    (case l33 => k_is)
    (case c33 => k_is)
    (case k33 => k_is)
    (case a34 => k_is)
    (case l34 => k_is)
    (case c34 => k_is)
    (case k34 => k_is)
    (case a35 => k_is)
    (case l35 => k_is)
    (case c35 => k_is)
    (case k35 => k_is)
    (case a36 => k_is)
    (case l36 => k_is)
    (case c36 => k_is)
    (case k36 => k_is)
    (case a37 => k_is)
    (case l37 => k_is)
    (case c37 => k_is)
    (case k37 => k_is)
    (case a38 => k_is)
    (case l38 => k_is)
    (case c38 => k_is)
    (case k38 => k_is)
    (case a39 => k_is)
    (case l39 => k_is)
    (case c39 => k_is)
    (case k39 => k_is)
    (case a40 => k_is)
    (case l40 => k_is)
    (case c40 => k_is)
    (case k40 => k_is)
    (case a41 => k_is)
    (case l41 => k_is)
    (case c41 => k_is)
    (case k41 => k_is)
    (case a42 => k_is)
    (case l42 => k_is)
    (case c42 => k_is)
    (case k42 => k_is)
    (case a43 => k_is)
    (case l43 => k_is)
    (case c43 => k_is)
    (case k43 => k_is)
    (case a44 => k_is)
    (case l44 => k_is)
    (case c44 => k_is)
    (case k44 => k_is)
    (case a45 => k_is)
    (case l45 => k_is)
    (case c45 => k_is)
    (case k45 => k_is)
    (case a46 => k_is)
    (case l46 => k_is)
    (case c46 => k_is)
    (case k46 => k_is)
    (case a47 => k_is)
    (case l47 => k_is)
    (case c47 => k_is)
    (case k47 => k_is)
    (case a48 => k_is)
    (case l48 => k_is)
    (case c48 => k_is)
    (case k48 => k_is)
    (case a49 => k_is)
    (case l49 => k_is)
    (case c49 => k_is)
    (case k49 => k_is)
    (case a50 => k_is)
    (case l50 => k_is)
    (case c50 => k_is)
    (case k50 => k_is)
    (case a51 => k_is)
    (case l51 => k_is)
    (case c51 => k_is)
    (case k51 => k_is)
    (case a52 => k_is)
    (case l52 => k_is)
    (case c52 => k_is)
    (case k52 => k_is)
    (case z_len => k_is)
    (case z_list => k_is)
    (case z_tuple => k_is)
    (case z_dict => k_is)
    (case z_bool => k_is)
    (case z_isinstance => k_is)
    (case z_max => k_is)
    (case z_min => k_is)
    (case z_range => k_is)
    (case z_all => k_is)
    (case z_sorted => k_is)
    (case z_enumerate => k_is)
    (case z_sum => k_is)
    (case z_str => k_is)
    (case z_int => k_is)
    (case q_MAX_SIZE => k_is)
    (case q_MAX_DEPTH => k_is)
    (case q_MAX_LETTER => k_is)
    (case q_MAX_LETTERS => k_is)
    (case aC => k_is)
    (case ma0 => k_is)
    (case mi0 => k_is)
    (case ml0 => k_is)
    (case mc0 => k_is)
    (case mk0 => k_is)
    (case ma1 => k_is)
    (case mi1 => k_is)
    (case ml1 => k_is)
    (case mc1 => k_is)
    (case mk1 => k_is)
    (case ma2 => k_is)
    (case mi2 => k_is)
    (case ml2 => k_is)
    (case mc2 => k_is)
    (case mk2 => k_is)
    (case ma3 => k_is)
    (case mi3 => k_is)
    (case ml3 => k_is)
    (case mc3 => k_is)
    (case mk3 => k_is)
    (case ma4 => k_is)
    (case mi4 => k_is)
    (case ml4 => k_is)
    (case mc4 => k_is)
    (case mk4 => k_is)
    (case ma5 => k_is)
    (case mi5 => k_is)
    (case ml5 => k_is)
    (case mc5 => k_is)
    (case mk5 => k_is)
    (case ma6 => k_is)
    (case mi6 => k_is)
    (case ml6 => k_is)
    (case mc6 => k_is)
    (case mk6 => k_is)
    (case cpg => k_is)
    (case chd => k_is)
    (case cpo => k_is)
    (case csa => k_is)
    (case cmk => k_is)
    (case ckc => k_is)
    (case cn0 => k_is)
    (case cn1 => k_is)
    (case cn2 => k_is)
    (case z_abs => k_is)
    (case z_reversed => k_is)
    (case z_any => k_is)
    (case ea0 => k_is)
    (case eq0 => k_exc)
    (case ek0 => k_is)
    (case eb0 => k_is)
    (case et0 => k_is)
    (case z_super => k_is)
    (case tany => k_is)
    (case ttop => (first | rfl | decide +kernel))
    (case ax9 => k_is)
    (case ky9 => k_is)
    (case xs9 => k_is)
    (case xf9_position => k_is)
    (case ti9 => k_is)
    (case tt9 => k_is)
    (case tl9 => k_is)
    (case tci9 => k_is)
    (case tco9 => k_is)
    (case tcf9 => rfl)
    (case tpf9 => (first | rfl | decide +kernel))
    (case tce9 => k_is)
    (case tlk9 => k_is)
    (case tre9 => rfl)
    (case tsa9 => k_is)
    (case tkp9 => k_is)
    (case tmr9 => k_is)
    (case tks9 => ks_is)
    (case tva9 => k_is)
    (case aW => k_is)
    (case lW => k_is)
    (case hb0 => rfl)
    (case hb1 => rfl)
    (case hb2 => rfl)
    (case hWs => (first | rfl | decide +kernel))
    (case yd9 => k_is)
    (case ys9 => k_is)
